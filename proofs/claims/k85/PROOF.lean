import PyProof.Rows.All
import Wide.All
import OpenK.AllK
import Wide.FinOn
import Lean
import PyProof.EqAt
import PyProof.EqKinds
import PyProof.TupleCall
import PySem.Challenge.RW_formgrove_k85_paper_of_prices
set_option Elab.async false
set_option linter.all false
set_option maxRecDepth 100000
/-! THE HAND LAYER, for ints, bools, texts, own classes, LISTS and tuples (index, slices, in, append, pop ..), calls, loops. Paste it whole ahead of your own text; what your proof does not reach may be deleted. -/
namespace L2
open PySem PySem.Spec PyProof.Rows

/-- a key: an int or a str -/
abbrev Key := Sum Int Str
def keyIs : Key → Value → Bool
  | .inl k, v => Value.isInt k v
  | .inr x, v => Value.isStrOf x v
def keyH (w : World) : Key → Int
  | .inl k => hashInt k
  | .inr x => hashStr w x
theorem keyIs_shape : ∀ {k : Key} {v : Value}, keyIs k v = true → (∃ i t, k = Sum.inl i ∧ v = Value.int i t) ∨ (∃ x t, k = Sum.inr x ∧ v = Value.str x t)
  | .inl i, v, h => by
    obtain ⟨t, e⟩ := Value.isInt_shape (k := i) (v := v) h
    exact .inl ⟨i, t, rfl, e⟩
  | .inr x, v, h => by
    obtain ⟨t, e⟩ := Value.isStrOf_shape (x := x) (v := v) h
    exact .inr ⟨x, t, rfl, e⟩
theorem keyIs_int (i : Int) (t : Tok) : keyIs (.inl i) (.int i t) = true := by simp [keyIs, Value.isInt]
theorem keyIs_str (x : Str) (t : Tok) : keyIs (.inr x) (.str x t) = true := by simp [keyIs, Value.isStrOf]
theorem key_ll (a b : Int) : decide ((Sum.inl a : Key) = Sum.inl b) = (a == b) := by
  by_cases e : a = b
  · subst e; simp
  · have h : ¬ (Sum.inl a : Key) = Sum.inl b := fun q => e (Sum.inl.inj q)
    rw [decide_eq_false h]
    exact (beq_eq_false_iff_ne.mpr e).symm
theorem key_rr (a b : Str) : decide ((Sum.inr a : Key) = Sum.inr b) = decide (a = b) := by
  by_cases e : a = b
  · subst e; simp
  · have h : ¬ (Sum.inr a : Key) = Sum.inr b := fun q => e (Sum.inr.inj q)
    rw [decide_eq_false h, decide_eq_false e]
theorem key_lr (a : Int) (b : Str) : decide ((Sum.inl a : Key) = Sum.inr b) = false := decide_eq_false (fun q => nomatch q)
theorem key_rl (a : Str) (b : Int) : decide ((Sum.inr a : Key) = Sum.inl b) = false := decide_eq_false (fun q => nomatch q)

def mixKind (prog : Program) (w : World) : PySem.KeyKind prog w Key where
  is := keyIs
  hash := keyH w
  inj := fun v a b ha hb => by
    rcases keyIs_shape ha with ⟨i, t, rfl, rfl⟩ | ⟨x, t, rfl, rfl⟩
    · rcases keyIs_shape hb with ⟨j, u, rfl, e⟩ | ⟨y, u, rfl, e⟩
      · injection e with e1 _; rw [e1]
      · exact nomatch e
    · rcases keyIs_shape hb with ⟨j, u, rfl, e⟩ | ⟨y, u, rfl, e⟩
      · exact nomatch e
      · injection e with e1 _; rw [e1]
  byValue := fun k v h => by
    rcases keyIs_shape h with ⟨i, t, rfl, rfl⟩ | ⟨x, t, rfl, rfl⟩ <;> rfl
  pyHash := fun hv h => by
    rcases keyIs_shape hv with ⟨i, t, rfl, rfl⟩ | ⟨x, t, rfl, rfl⟩
    · exact wpAny_pyHash_int h
    · exact wpAny_pyHash_str h
  eqBool := fun hu hv h => by
    rcases keyIs_shape hu with ⟨i, t, rfl, rfl⟩ | ⟨x, t, rfl, rfl⟩
    · rcases keyIs_shape hv with ⟨j, u, rfl, rfl⟩ | ⟨y, u, rfl, rfl⟩
      · rw [key_ll] at h; exact wpAny_eqBool_int h
      · rw [key_lr] at h; exact SeqAt.EqAt.int_str i t y u _ _ _ _ h
    · rcases keyIs_shape hv with ⟨j, u, rfl, rfl⟩ | ⟨y, u, rfl, rfl⟩
      · rw [key_rl] at h; exact SeqAt.EqAt.str_int x t j u _ _ _ _ h
      · rw [key_rr] at h; exact wpAny_eqBool_str h
  «strs» := fun k x t v h => by
    rcases keyIs_shape h with ⟨i, u, rfl, e⟩ | ⟨y, u, rfl, e⟩
    · exact nomatch e
    · injection e with e1 _
      subst e1
      cases v <;> rfl

theorem mixKind_int (prog : Program) (w : World) (i : Int) (t : Tok) : (mixKind prog w).is (.inl i) (.int i t) = true := keyIs_int i t
theorem mixKind_str (prog : Program) (w : World) (x : Str) (t : Tok) : (mixKind prog w).is (.inr x) (.str x t) = true := keyIs_str x t
end L2

namespace L2
open PySem PySem.Spec PyProof.Rows

/-- a value, without the heap -/
inductive V where
  | non | bl (b : Bool) | int (i : Int) | str (x : Str) | byt (b : Array UInt8) | flt (b : UInt64) | ref (a : Addr) | ty (n : String)
  deriving DecidableEq

def RelV : V → Value → Prop
  | .non, u => u = Value.none
  | .bl b, u => u = Value.bool b
  | .int i, u => ∃ t, u = Value.int i t
  | .str x, u => ∃ t, u = Value.str x t
  | .byt b, u => ∃ t, u = Value.bytes b t
  | .flt b, u => ∃ t, u = Value.float b t
  | .ref a, u => u = Value.ref a
  | .ty n, u => u = Value.type n

abbrev Vals : List V → List Value → Prop := Paired RelV
theorem Vals.length {xs : List V} {us : List Value} (r : Vals xs us) : xs.length = us.length := Paired.length r
theorem Vals.get : ∀ {xs : List V} {us : List Value} {i : Nat} {x : V}, Vals xs us → xs[i]? = some x → ∃ u, us[i]? = some u ∧ RelV x u
  | _, _, _, _, .nil, e => by simp at e
  | _, _, 0, _, .cons r _, e => by simp at e; subst e; exact ⟨_, rfl, r⟩
  | _, _, i + 1, x, .cons _ t, e => by
    obtain ⟨u, h1, h2⟩ := Vals.get (i := i) (x := x) t (by simpa using e)
    exact ⟨u, by simpa using h1, h2⟩
theorem Vals.set {x : V} {u : Value} (r : RelV x u) : ∀ {xs : List V} {us : List Value} (i : Nat), Vals xs us → Vals (xs.set i x) (us.set i u)
  | _, _, _, .nil => .nil
  | _, _, 0, .cons _ t => .cons r t
  | _, _, i + 1, .cons q t => .cons q (Vals.set r i t)
theorem Vals.append : ∀ {xs ys : List V} {us ws : List Value}, Vals xs us → Vals ys ws → Vals (xs ++ ys) (us ++ ws)
  | _, _, _, _, .nil, s => s
  | _, _, _, _, .cons r t, s => .cons r (Vals.append t s)
theorem Vals.take : ∀ {xs : List V} {us : List Value} (n : Nat), Vals xs us → Vals (xs.take n) (us.take n)
  | _, _, 0, _ => .nil
  | _, _, _ + 1, .nil => .nil
  | _, _, n + 1, .cons r t => .cons r (Vals.take n t)
theorem Vals.drop : ∀ {xs : List V} {us : List Value} (n : Nat), Vals xs us → Vals (xs.drop n) (us.drop n)
  | _, _, 0, r => r
  | _, _, _ + 1, .nil => .nil
  | _, _, n + 1, .cons _ t => Vals.drop n t
def RelO : Option V → Option Value → Prop
  | some v, some u => RelV v u
  | none, none => True
  | _, _ => False
def KV {κ : Type} : List (κ × V) → List (κ × Value) → Prop := Paired fun (p : κ × V) (q : κ × Value) => p.1 = q.1 ∧ RelV p.2 q.2

/-- a key of a dict (00_mix): an int or a text -/
def kV : Key → V
  | .inl i => .int i
  | .inr x => .str x

/-- what stands at a tracked address -/
inductive HO where
  /-- a list -/
  | lst (xs : List V)
  /-- a tuple (never changes) -/
  | tup (xs : List V)
  /-- a dict whose keys are ints and texts; one whose keys are tuples of ints and texts (the empty one is both) -/
  | dK (kvs : List (Key × V)) | dT (kvs : List (List Key × V))
  /-- a set of ints: its members, its size -/
  | set (S : Int → Bool) (n : Nat)
  /-- an instance of the class at C, its dict at dx, its attributes -/
  | ins (C dx : Addr) (fs : List (Str × V))
  /-- the dict of the instance at x -/
  | own (x : Addr)
  /-- the dict of an exception -/
  | xd (fs : List (Str × V))
  /-- a bound method, f of x -/
  | met (f x : Addr)
  /-- a range object lo, lo + 1, .. below hi -/
  | rng (lo hi : Int)
  /-- a thing that is known to the object (the script; a dict while a loop walks it): read, never written while it is so -/
  | frz (o : Obj) (u : HO)
  /-- a code object's table -/
  | tbl (ps : Array Value)
  /-- any other thing, by what is true of its one object (a def of one's own: SetO a S n := HO.ext fun h => ..) -/
  | ext (φ : Heap → Prop)

abbrev Hp := Addr → Option HO
def upd (H : Hp) (a : Addr) (o : HO) : Hp := fun b => if b = a then some o else H b
theorem upd_same {H : Hp} {a : Addr} {o : HO} : upd H a o a = some o := by unfold upd; rw [if_pos rfl]
theorem upd_ne {H : Hp} {a b : Addr} {o : HO} (h : b ≠ a) : upd H a o b = H b := by unfold upd; rw [if_neg h]
theorem upd_upd {H : Hp} {a : Addr} {o u : HO} : upd (upd H a o) a u = upd H a u := by
  funext b; unfold upd; split <;> rfl
/-- two objects of different content stand apart -/
theorem ne_of {H : Hp} {a b : Addr} {o u : HO} (h : H a = some o) (h' : H b = some u) (d : o ≠ u) : a ≠ b := by
  intro e; subst e; rw [h] at h'; exact d (Option.some.inj h')
theorem ne_of_none {H : Hp} {a b : Addr} {o : HO} (h : H a = some o) (h' : H b = none) : a ≠ b := by
  intro e; subst e; rw [h] at h'; cases h'

section
variable (P : Program) (w : World)
def ObjOk (H : Hp) (h : Heap) (a : Addr) : HO → Prop
  | .lst xs => xs.length ≤ sizeLine ∧ ∃ (its : List Value) (n : Nat), Vals xs its ∧ h.get? a = some { cls := .type "list", data := .seq its.toArray n }
  | .tup xs => xs.length ≤ sizeLine ∧ ∃ its : List Value, Vals xs its ∧ IsTup h a its.toArray
  | .dK kvs => kvs.length ≤ sizeLine ∧ (a == sysModules) = false ∧ ∃ vs, KV kvs vs ∧ h.DictOf (mixKind P w) a vs
  | .dT kvs => kvs.length ≤ sizeLine ∧ (a == sysModules) = false ∧ ∃ xs : List (List Key × Addr × Value),
      Paired (fun (p : List Key × V) (q : List Key × Addr × Value) => p.1 = q.1 ∧ H q.2.1 = some (.tup (p.1.map kV)) ∧ RelV p.2 q.2.2) kvs xs ∧
      ∃ o es ep, h.get? a = some o ∧ o.ExactDict ∧ o.data = .dict es ep ∧ es.toList = xs.map (entryOfKey (tupleKind (mixKind P w))) ∧ (xs.map (·.1)).Nodup
  | .set S n => h.SetOf (intKind P w) a S n
  | .ins C dx fs => H dx = some (.own a) ∧ fs.length ≤ 1000 ∧ dx ≠ a ∧ h.get? a = some (PySem.W.instObj C dx) ∧
      ∃ mA, h.Ns1 dx mA ∧ (∀ f, RelO (fs.lookup f) (mA f)) ∧ PySem.Within mA (fs.map (·.1))
  | .own _ => ∃ o, h.get? a = some o
  | .xd fs => ∃ mA, h.Ns1 a mA ∧ ∀ f, RelO (fs.lookup f) (mA f)
  | .rng lo hi => ∃ t u v, h.get? a = some { cls := .type "range", data := .fields #[.int lo t, .int hi u, .int 1 v] }
  | .frz o u => h.get? a = some o ∧ ObjOk H h a u
  | .tbl ps => h.get? a = some { cls := .none, data := .fields ps }
  | .met f x => h.get? a = some (PySem.W.methodObj (.ref f) (.ref x))
  | .ext φ => φ h ∧ (∃ o, h.get? a = some o) ∧ ∀ h1 h2 : Heap, φ h1 → (∀ o, h1.get? a = some o → h2.get? a = some o) → φ h2
/-- the abstract heap is held -/
def HOk (H : Hp) (h : Heap) : Prop := ∀ a o, H a = some o → ObjOk P w H h a o
end

section
variable {P : Program} {w : World} {H H' : Hp} {h h' : Heap} {a : Addr} {o : HO}
theorem ObjOk.lt (x : ObjOk P w H h a o) : a < h.objs.size := by
  cases o with
  | lst xs => obtain ⟨_, _, _, _, e⟩ := x; exact Heap.lt_size e
  | tup xs => obtain ⟨_, _, _, p⟩ := x; exact p.lt
  | dK kvs => obtain ⟨_, _, _, _, o, _, _, e, _⟩ := x; exact Heap.lt_size e
  | dT kvs => obtain ⟨_, _, _, _, o, _, _, e, _⟩ := x; exact Heap.lt_size e
  | set S n => obtain ⟨o, _, _, _, e, _⟩ := x; exact Heap.lt_size e
  | ins C dx fs => obtain ⟨_, _, _, e, _⟩ := x; exact Heap.lt_size e
  | own y => obtain ⟨_, e⟩ := x; exact Heap.lt_size e
  | xd fs => obtain ⟨_, ⟨_, _, _, e, _⟩, _⟩ := x; exact Heap.lt_size e
  | rng lo hi => obtain ⟨_, _, _, e⟩ := x; exact Heap.lt_size e
  | frz ob u => obtain ⟨e, _⟩ := x; exact Heap.lt_size e
  | tbl ps => exact Heap.lt_size (show h.get? a = some _ from x)
  | met f y => exact Heap.lt_size (show h.get? a = some _ from x)
  | ext φ => obtain ⟨_, ⟨_, e⟩, _⟩ := x; exact Heap.lt_size e
theorem Paired.mapP {α β : Type} {F G : α → β → Prop} : ∀ {l₁ : List α} {l₂ : List β}, Paired F l₁ l₂ → (∀ a b, F a b → G a b) → Paired G l₁ l₂
  | _, _, .nil, _ => .nil
  | _, _, .cons r t, f => .cons (f _ _ r) (Paired.mapP t f)
/-- what an object's description leans on: its own object, its own dict, the tuples -/
theorem ObjOk.stay (x : ObjOk P w H h a o) (k : ∀ b u, (b = a ∨ H b = some (.own a)) → h.get? b = some u → h'.get? b = some u)
    (ho : ∀ b, H b = some (.own a) → H' b = some (.own a)) (ht : ∀ b xs, H b = some (.tup xs) → H' b = some (.tup xs)) : ObjOk P w H' h' a o := by
  induction o with
  | lst xs => obtain ⟨z, its, n, r, e⟩ := x; exact ⟨z, its, n, r, k _ _ (.inl rfl) e⟩
  | tup xs => obtain ⟨z, its, r, ob, e, c⟩ := x; exact ⟨z, its, r, ob, k _ _ (.inl rfl) e, c⟩
  | dK kvs => obtain ⟨z, y, vs, r, ob, es, ep, e, c⟩ := x; exact ⟨z, y, vs, r, ob, es, ep, k _ _ (.inl rfl) e, c⟩
  | dT kvs =>
    obtain ⟨z, y, xs, r, ob, es, ep, e, c⟩ := x
    exact ⟨z, y, xs, Paired.mapP r fun p q z => ⟨z.1, ht _ _ z.2.1, z.2.2⟩, ob, es, ep, k _ _ (.inl rfl) e, c⟩
  | set S n => obtain ⟨ob, es, ep, t, e, c⟩ := x; exact ⟨ob, es, ep, t, k _ _ (.inl rfl) e, c⟩
  | ins C dx fs =>
    obtain ⟨d, z, ne, e, mA, ⟨od, es, ep, e2, c⟩, r⟩ := x
    exact ⟨ho _ d, z, ne, k _ _ (.inl rfl) e, mA, ⟨od, es, ep, k _ _ (.inr d) e2, c⟩, r⟩
  | own y => obtain ⟨ob, e⟩ := x; exact ⟨ob, k _ _ (.inl rfl) e⟩
  | xd fs => obtain ⟨mA, ⟨od, es, ep, e, c⟩, r⟩ := x; exact ⟨mA, ⟨od, es, ep, k _ _ (.inl rfl) e, c⟩, r⟩
  | rng lo hi => obtain ⟨t, u, v, e⟩ := x; exact ⟨t, u, v, k _ _ (.inl rfl) e⟩
  | frz ob u ih => obtain ⟨e, q⟩ := x; exact ⟨k _ _ (.inl rfl) e, ih q⟩
  | tbl ps =>
    have e : h.get? a = some { cls := .none, data := .fields ps } := x
    show h'.get? a = some { cls := .none, data := .fields ps }
    exact k a _ (.inl rfl) e
  | met f y =>
    have e : h.get? a = some (PySem.W.methodObj (.ref f) (.ref y)) := x
    show h'.get? a = some (PySem.W.methodObj (.ref f) (.ref y))
    exact k a _ (.inl rfl) e
  | ext φ => obtain ⟨p, ⟨o, e⟩, st⟩ := x; exact ⟨st _ _ p fun o q => k _ _ (.inl rfl) q, ⟨o, k _ _ (.inl rfl) e⟩, st⟩
theorem HOk.lt (x : HOk P w H h) (e : H a = some o) : a < h.objs.size := (x a o e).lt
theorem HOk.fresh (x : HOk P w H h) (e : h.objs.size ≤ a) : H a = none := by
  cases q : H a with
  | none => rfl
  | some u => exact absurd (Nat.lt_of_lt_of_le (x.lt q) e) (Nat.lt_irrefl _)
/-- every object of the heap is kept -/
theorem HOk.kept (x : HOk P w H h) (k : ∀ b u, h.get? b = some u → h'.get? b = some u) : HOk P w H h' := fun a o e =>
  (x a o e).stay (fun b u _ q => k b u q) (fun _ q => q) fun _ _ q => q
/-- a new object is laid and tracked -/
theorem HOk.laid (x : HOk P w H h) (k : ∀ b u, h.get? b = some u → h'.get? b = some u) (hp : h.objs.size ≤ a) (new : ObjOk P w (upd H a o) h' a o) : HOk P w (upd H a o) h' := fun b u e => by
  have hn := x.fresh hp
  by_cases hb : b = a
  · subst hb; rw [upd_same] at e; cases e; exact new
  · rw [upd_ne hb] at e
    exact (x b u e).stay (fun c v _ q => k c v q) (fun c q => by rw [upd_ne (ne_of_none q hn)]; exact q) fun c xs q => by rw [upd_ne (ne_of_none q hn)]; exact q
end

/-- what may be read as u: it is u, or a known u -/
def Rd (H : Hp) (a : Addr) (u : HO) : Prop := H a = some u ∨ ∃ o, H a = some (.frz o u)
theorem Rd.ok {P : Program} {w : World} {H : Hp} {h : Heap} {a : Addr} {u : HO} (r : Rd H a u) (x : HOk P w H h) : ObjOk P w H h a u := by
  rcases r with r | ⟨o, r⟩
  · exact x a u r
  · obtain ⟨_, q⟩ := x a _ r
    exact q
/-- what may be written -/
def Mut : Option HO → Prop
  | some (.lst _) => True
  | some (.dK _) => True
  | some (.dT _) => True
  | some (.set _ _) => True
  | some (.ins _ _ _) => True
  | some (.ext _) => True
  | _ => False
section
variable {P : Program} {w : World} {H : Hp} {h h' : Heap} {x e : Addr} {o' : HO}
/-- the object at e is changed: x itself, or the dict of the instance x -/
theorem HOk.write (ok : HOk P w H h) (mu : Mut (H x)) (he : e = x ∨ H e = some (.own x)) (k : ∀ b u, b ≠ e → h.get? b = some u → h'.get? b = some u) (heo : ∃ u, h'.get? e = some u)
    (new : ObjOk P w (upd H x o') h' x o') : HOk P w (upd H x o') h' := fun b u q => by
  have nown : ∀ c y, H c = some (.own y) → c ≠ x := fun c y r z => by subst z; rw [r] at mu; exact mu
  have ntup : ∀ c xs, H c = some (.tup xs) → c ≠ x := fun c xs r z => by subst z; rw [r] at mu; exact mu
  by_cases hb : b = x
  · subst hb; rw [upd_same] at q; cases q; exact new
  · rw [upd_ne hb] at q
    by_cases hbe : b = e
    · have q' : H b = some (.own x) := by
        rcases he with z | z
        · exact absurd (hbe.trans z) hb
        · rw [hbe]; exact z
      rw [q] at q'; cases q'
      obtain ⟨v, hv⟩ := heo
      exact ⟨v, by rw [hbe]; exact hv⟩
    · refine (ok b u q).stay (fun c v hc r => k c v ?_ r) (fun c r => by rw [upd_ne (nown c b r)]; exact r) fun c xs r => by rw [upd_ne (ntup c xs r)]; exact r
      rcases hc with rfl | hc
      · exact hbe
      · rintro rfl
        rcases he with z | z
        · exact nown c b hc z
        · rw [hc] at z; cases z; exact hb rfl
end

/-! ### kept unless tracked; of the frames at fs (the callers') the slots may change (an exception that passes writes there); of the records at ex (iterators) nothing is said -/
structure Un (fs ex : List Addr) (H H' : Hp) (h h' : Heap) : Prop where
  keep : ∀ b o, h.get? b = some o → H b = none → b ∉ fs → b ∉ ex → h'.get? b = some o
  slot : ∀ b o, h.get? b = some o → H b = none → b ∈ fs → b ∉ ex → ∃ sl, h'.get? b = some { o with slots := sl }
  free : ∀ b o, h.get? b = some o → H b = none → b ∉ ex → H' b = none
  there : ∀ b o, h.get? b = some o → b ∉ ex → ∃ o', h'.get? b = some o'
  tups : ∀ b xs, H b = some (.tup xs) → H' b = some (.tup xs)
  frzs : ∀ b o u, H b = some (.frz o u) → H' b = some (.frz o u)
  tbls : ∀ b ps, H b = some (.tbl ps) → ∃ more, H' b = some (.tbl (ps ++ more))
section
variable {fs fs' ex ex' : List Addr} {H H1 H2 : Hp} {h h1 h2 h' : Heap} {a x e : Addr} {o : HO}
theorem Un.any (u : Un fs ex H H1 h h1) {b : Addr} {ob : Obj} (q : h.get? b = some ob) (n : H b = none) (hx : b ∉ ex) : ∃ sl, h1.get? b = some { ob with slots := sl } := by
  by_cases hb : b ∈ fs
  · exact u.slot b ob q n hb hx
  · exact ⟨ob.slots, u.keep b ob q n hb hx⟩
theorem Un.kept (k : ∀ b u, h.get? b = some u → h'.get? b = some u) : Un fs ex H H h h' :=
  ⟨fun b ob q _ _ _ => k b ob q, fun b ob q _ _ _ => ⟨ob.slots, k b ob q⟩, fun _ _ _ n _ => n, fun b ob q _ => ⟨ob, k b ob q⟩, fun _ _ q => q, fun _ _ _ q => q, fun _ ps q => ⟨#[], by rw [q]; simp⟩⟩
theorem Un.refl : Un fs ex H H h h := Un.kept fun _ _ q => q
theorem Un.laid (k : ∀ b u, h.get? b = some u → h'.get? b = some u) (hp : h.objs.size ≤ a) (hn : H a = none) : Un fs ex H (upd H a o) h h' where
  keep := fun b u q _ _ _ => k b u q
  slot := fun b u q _ _ _ => ⟨u.slots, k b u q⟩
  free := fun b u q n _ => by rw [upd_ne (Nat.ne_of_lt (Nat.lt_of_lt_of_le (Heap.lt_size q) hp))]; exact n
  there := fun b u q _ => ⟨u, k b u q⟩
  tups := fun b xs q => by rw [upd_ne (ne_of_none q hn)]; exact q
  frzs := fun b u xs q => by rw [upd_ne (ne_of_none q hn)]; exact q
  tbls := fun b ps q => ⟨#[], by rw [upd_ne (ne_of_none q hn), q]; simp⟩
theorem Un.write (mu : Mut (H x)) (he : e = x ∨ H e = some (.own x)) (k : ∀ b u, b ≠ e → h.get? b = some u → h'.get? b = some u) (heo : ∃ u, h'.get? e = some u) : Un fs ex H (upd H x o) h h' := by
  have hx : ∀ b, H b = none → b ≠ x := fun b n z => by subst z; rw [n] at mu; exact mu
  have hb : ∀ b, H b = none → b ≠ e := fun b n z => by
    subst z
    rcases he with r | r
    · exact hx b n r
    · rw [n] at r; cases r
  have hm : ∀ b u, H b = some u → ¬ Mut (some u) → b ≠ x := fun b u q nm z => by subst z; rw [q] at mu; exact nm mu
  refine ⟨fun b u q n _ _ => k b u (hb b n) q, fun b u q n _ _ => ⟨u.slots, k b u (hb b n) q⟩, fun b u q n _ => by rw [upd_ne (hx b n)]; exact n, fun b u q _ => ?_,
    fun b xs q => by rw [upd_ne (hm b _ q fun z => z)]; exact q, fun b u xs q => by rw [upd_ne (hm b _ q fun z => z)]; exact q, fun b ps q => ⟨#[], by rw [upd_ne (hm b _ q fun z => z), q]; simp⟩⟩
  by_cases hbe : b = e
  · subst hbe; exact heo
  · exact ⟨u, k b u hbe q⟩
end

/-! ### the heap without what is tracked -/
def trk (h : Heap) (H : Hp) : List Addr := (List.range h.objs.size).filter fun a => (H a).isSome
def hidT (h : Heap) (H : Hp) : Heap := PySem.W.hideAll h (trk h H)
theorem hidT_size (h : Heap) (H : Hp) : (hidT h H).objs.size = h.objs.size := PySem.W.hideAll_size _ _
theorem hidT_get {h : Heap} {H : Hp} {b : Addr} {o : Obj} (e : h.get? b = some o) (n : H b = none) : (hidT h H).get? b = some o :=
  PySem.W.hideAll_get _ e fun hm => by
    have q : (H b).isSome = true := (List.mem_filter.mp hm).2
    rw [n] at q; simp at q
theorem of_hidT {h : Heap} {H : Hp} {b : Addr} {o : Obj} (e : (hidT h H).get? b = some o) : h.get? b = some o ∧ H b = none := by
  have e' : h.get? b = some o := PySem.W.of_hideAll (trk h H) e
  refine ⟨e', ?_⟩
  cases q : H b with
  | none => rfl
  | some x =>
    have hm : b ∈ trk h H := List.mem_filter.mpr ⟨List.mem_range.mpr (Heap.lt_size e'), by simp [q]⟩
    have z : (hidT h H).get? b = none := PySem.W.hideAll_none (trk h H) hm
    rw [z] at e; cases e

/-! ### OpenK's ledger, filled with every new object but one -/
end L2

namespace L2
open PySem PySem.Spec PyProof.Rows

/-- the module's facts, over the base: the heap at the law's entry without what is tracked there -/
structure Mod (K : PySem.W.Frag) (mg : Str → Option Value) (base : Heap) : Prop where
  kin : K.In base
  glob : base.Ns mainGlobals mg
  blt : ∃ mb, base.Ns builtinsNs mb ∧ ∀ x : Str, x ≠ "__name__" → mb x = bootBuiltins x
  nolimit : base.NoLimit

/-- the context: a def's body (or a comprehension's block) running. base: fixed through the whole law; s₀, H₀: the entry; outer: the frames whose slots others may change (a def's callers); stack: all frames that run;
   ex: iterators that were made ahead of the entry and are walked here (a comprehension's); fn: the names whose cells were made at the entry (a def: all; a comprehension's block: its own); calm: not within an except suite; pn: pins that every state bears; xe: what is wanted of an exception that leaves the code -/
structure Cx where
  prog : Program
  w : World
  K : PySem.W.Frag
  mg : Str → Option Value
  base : Heap
  A : Around
  N : List Str
  s₀ : Shared
  H₀ : Hp
  env : Env
  outer : List Env
  stack : List Env
  ex : List Addr
  fn : Str → Bool
  calm : Bool
  pn : List (Addr × Obj)
  xe : Value → Shared → Prop
/-- the callers' frames -/
def frs (l : List Env) : List Addr := l.filterMap (·.frame)
abbrev Cx.fs (X : Cx) : List Addr := frs X.outer

def Vis (sc : Scope) (x : Str) : Prop := sc.names.lookup x = some .local ∨ sc.names.lookup x = some .cell ∨ sc.names.lookup x = some .free
def Loc (sc : Scope) (x : Str) : Prop := sc.names.lookup x = some .local ∨ sc.names.lookup x = some .cell
def Look (env : Env) (h : Heap) (m : Str → Option Value) (x : Str) (u : Value) : Prop :=
  (env.kindOf x = some .local ∧ m x = some u) ∨ ((env.kindOf x = some .cell ∨ env.kindOf x = some .free) ∧ ∃ c, env.cells.lookup x = some c ∧ h.IsCell c (some u))

structure Cx.Ok (X : Cx) : Prop where
  mod : Mod X.K X.mg X.base
  kind : X.env.scope.kind = .function
  glob : X.env.globals = mainGlobals
  blt : X.env.builtins = builtinsNs
  above : X.s₀.heap.objs.size ≤ X.env.locals
  inj : ∀ x y c, X.env.cells.lookup x = some c → X.env.cells.lookup y = some c → x = y
  has : ∀ x, (X.env.kindOf x = some .cell ∨ X.env.kindOf x = some .free) → ∃ c, X.env.cells.lookup x = some c
  cab : ∀ x c, X.fn x = true → X.env.cells.lookup x = some c → X.s₀.heap.objs.size ≤ c
  hd : X.calm = true → X.A.handled = none
  frames : X.A.frames = some X.stack
  stk : X.stack = X.outer ∨ (X.stack = X.env :: X.outer ∧ X.env.frame = some X.env.locals)
  exf : ∀ b ∈ X.ex, b ≠ X.env.locals ∧ ∀ x c, X.env.cells.lookup x = some c → c ≠ b
  bs : ∀ b o, X.base.get? b = some o → X.s₀.heap.get? b = some o ∧ X.H₀ b = none
  bsz : X.base.objs.size ≤ X.s₀.heap.objs.size
  noex : ∀ b o, X.base.get? b = some o → b ∉ X.ex
  exfs : ∀ b ∈ X.ex, b ∉ X.fs
  funs : X.s₀.heap.FunFrames X.base X.outer
  frf : ∀ b ∈ X.fs, X.H₀ b = none

structure Inv (X : Cx) (pins : List (Addr × Obj)) (σ : List (Option V)) (H : Hp) (s : Shared) : Prop where
  ok : X.Ok
  os : s.os = X.s₀.os
  bare : AllBare s.gens
  base : Un X.fs X.ex X.H₀ H X.s₀.heap s.heap
  loc : ∃ m, s.heap.Ns X.env.locals m ∧ ∀ (i : Nat) (x : Str) (v : V), X.N[i]? = some x → σ[i]? = some (some v) → Vis X.env.scope x → ∃ u, RelV v u ∧ Look X.env s.heap m x u
  cell : ∀ x c, X.env.cells.lookup x = some c → ∃ v, s.heap.IsCell c v
  free : H X.env.locals = none
  freeC : ∀ x c, X.env.cells.lookup x = some c → H c = none
  pin : ∀ p ∈ X.pn ++ pins, s.heap.get? p.1 = some p.2 ∧ H p.1 = none ∧ p.1 ≠ X.env.locals ∧ p.1 ∉ X.fs ∧ ∀ v, p.2.data ≠ .cell v
  hok : HOk X.prog X.w H s.heap
  len : σ.length = X.N.length

section
variable {X : Cx} {pins : List (Addr × Obj)} {σ : List (Option V)} {H H' : Hp} {s : Shared} {h' : Heap}

theorem Cx.Ok.nofr (ok : X.Ok) {b : Addr} {o : Obj} (e : X.base.get? b = some o) : b ∉ X.fs := fun hb => by
  have := (ok.funs.mem hb).1
  rw [e] at this; cases this
theorem Inv.bs (I : Inv X pins σ H s) : ∀ b o, X.base.get? b = some o → s.heap.get? b = some o ∧ H b = none := fun b o e =>
  ⟨I.base.keep b o (I.ok.bs b o e).1 (I.ok.bs b o e).2 (I.ok.nofr e) (I.ok.noex b o e), I.base.free b o (I.ok.bs b o e).1 (I.ok.bs b o e).2 (I.ok.noex b o e)⟩
theorem Inv.bk (I : Inv X pins σ H s) : ∀ b o, X.base.get? b = some o → s.heap.get? b = some o := fun b o e => (I.bs b o e).1
theorem Inv.mod (I : Inv X pins σ H s) : Mod X.K X.mg X.base := I.ok.mod
theorem Inv.kIn (I : Inv X pins σ H s) : X.K.In s.heap := I.ok.mod.kin.keeps I.bk
theorem Inv.lt (I : Inv X pins σ H s) : X.env.locals < s.heap.objs.size := let ⟨_, hn, _⟩ := I.loc; hn.lt
theorem Inv.sz (I : Inv X pins σ H s) : X.s₀.heap.objs.size ≤ s.heap.objs.size := Nat.le_trans I.ok.above (Nat.le_of_lt I.lt)
theorem Inv.nofs (I : Inv X pins σ H s) {a : Addr} (h : s.heap.objs.size ≤ a) : a ∉ X.fs := fun hb => by
  obtain ⟨_, o, ho, _⟩ := I.ok.funs.mem hb
  exact absurd (Nat.lt_of_lt_of_le (Heap.lt_size ho) (Nat.le_trans I.sz h)) (Nat.lt_irrefl _)
theorem Inv.cne (I : Inv X pins σ H s) : ∀ x c, X.env.cells.lookup x = some c → c ≠ X.env.locals := fun x c e z => by
  obtain ⟨v, o, ho, hd⟩ := I.cell x c e
  obtain ⟨m, ⟨o', es, ep, ho', hd', _⟩, _⟩ := I.loc
  rw [z, ho'] at ho; cases ho; rw [hd'] at hd; cases hd
theorem Inv.funs (I : Inv X pins σ H s) : s.heap.FunFrames X.base X.outer := by
  have all : ∀ (l : List Env), (∀ b ∈ frs l, b ∈ X.fs) → X.s₀.heap.FunFrames X.base l → s.heap.FunFrames X.base l := by
    intro l
    induction l with
    | nil => intro _ _; trivial
    | cons env r ih =>
      intro hs hl
      obtain ⟨hk, ⟨L, o, hf, hn, ho, hd⟩, hr⟩ := hl
      have hL : L ∈ X.fs := hs L (by unfold frs; rw [List.filterMap_cons, hf]; exact List.mem_cons_self)
      obtain ⟨sl, e⟩ := I.base.slot L o ho (I.ok.frf L hL) hL fun z => I.ok.exfs L z hL
      exact ⟨hk, ⟨L, _, hf, hn, e, hd⟩, ih (fun b hb => hs b (by unfold frs; rw [List.filterMap_cons, hf]; exact List.mem_cons_of_mem _ hb)) hr⟩
  exact all X.outer (fun _ hb => hb) I.ok.funs

/-- the frames that run, for a call -/
theorem Inv.stack (I : Inv X pins σ H s) : s.heap.FunFrames X.base X.stack := by
  rcases I.ok.stk with e | ⟨e, hf⟩
  · rw [e]; exact I.funs
  · rw [e]
    obtain ⟨m, hn, _⟩ := I.loc
    refine .cons (by rw [I.ok.kind]; decide) hf hn ?_ I.funs
    exact Heap.get?_none_of_le (Nat.le_trans I.ok.bsz I.ok.above)
theorem Inv.stkSub (I : Inv X pins σ H s) : ∀ b ∈ frs X.stack, b ∈ X.env.locals :: X.fs := fun b hb => by
  rcases I.ok.stk with e | ⟨e, hf⟩
  · rw [e] at hb; exact List.mem_cons_of_mem _ hb
  · rw [e] at hb
    unfold frs at hb
    rw [List.filterMap_cons, hf] at hb
    exact hb
theorem Inv.stkFree (I : Inv X pins σ H s) : ∀ b ∈ frs X.stack, H b = none := fun b hb => by
  rcases List.mem_cons.mp (I.stkSub b hb) with e | hb
  · rw [e]; exact I.free
  · obtain ⟨_, o, ho, _⟩ := I.ok.funs.mem hb
    exact I.base.free b o ho (I.ok.frf b hb) fun z => I.ok.exfs b z hb

/-- THE STEP: the untracked objects but the frame and the records at ch are kept (the callers' frames up to slots), the frame's map is kept, the new abstract heap is held -/
theorem Inv.step {g' : Array GenState} {t' : Nat} {d' : Drawn} {ch : List Addr} (I : Inv X pins σ H s)
    (hch : ∀ b ∈ ch, (b ∈ X.ex ∨ X.s₀.heap.objs.size ≤ b) ∧ b ≠ X.env.locals ∧ (∀ x c, X.env.cells.lookup x = some c → c ≠ b) ∧ ∀ p ∈ X.pn ++ pins, p.1 ≠ b)
    (keep : ∀ b o, b ≠ X.env.locals → b ∉ X.fs → b ∉ ch → s.heap.get? b = some o → H b = none → h'.get? b = some o)
    (slot : ∀ b o, b ≠ X.env.locals → b ∈ X.fs → b ∉ ch → s.heap.get? b = some o → H b = none → ∃ sl, h'.get? b = some { o with slots := sl }) (free : ∀ b o, b ∉ ch → s.heap.get? b = some o → H b = none → H' b = none)
    (there : ∀ b o, b ∉ ch → s.heap.get? b = some o → ∃ o', h'.get? b = some o')
    (tups : ∀ b xs, H b = some (.tup xs) → H' b = some (.tup xs)) (frzs : ∀ b o u, H b = some (.frz o u) → H' b = some (.frz o u)) (tbls : ∀ b ps, H b = some (.tbl ps) → ∃ more, H' b = some (.tbl (ps ++ more)))
    (ns : ∀ m, s.heap.Ns X.env.locals m → h'.Ns X.env.locals m) (hok : HOk X.prog X.w H' h') (hg : AllBare g') :
    Inv X pins σ H' { s with heap := h', gens := g', drawn := d', toks := t' } := by
  have neL : ∀ b o, X.s₀.heap.get? b = some o → b ≠ X.env.locals := fun b o e => Nat.ne_of_lt (Nat.lt_of_lt_of_le (Heap.lt_size e) I.ok.above)
  have neC : ∀ b o, X.s₀.heap.get? b = some o → b ∉ X.ex → b ∉ ch := fun b o e hx hb => by
    rcases (hch b hb).1 with z | z
    · exact hx z
    · exact absurd (Nat.lt_of_lt_of_le (Heap.lt_size e) z) (Nat.lt_irrefl _)
  have cellK : ∀ x c, X.env.cells.lookup x = some c → ∀ v, s.heap.IsCell c v → h'.IsCell c v := fun x c e v ⟨o, ho, hd⟩ => by
    have nch : c ∉ ch := fun z => (hch c z).2.2.1 x c e rfl
    by_cases hc : c ∈ X.fs
    · obtain ⟨sl, q⟩ := slot c o (I.cne x c e) hc nch ho (I.freeC x c e)
      exact ⟨_, q, hd⟩
    · exact ⟨o, keep c o (I.cne x c e) hc nch ho (I.freeC x c e), hd⟩
  refine ⟨I.ok, I.os, hg, ⟨fun b o e n hb hx => ?_, fun b o e n hb hx => ?_, fun b o e n hx => ?_, fun b o e hx => ?_, fun b xs e => tups b xs (I.base.tups b xs e), fun b o xs e => frzs b o xs (I.base.frzs b o xs e), fun b ps e => ?_⟩, ?_, fun x c e => ?_, ?_, fun x c e => ?_, fun p hp => ?_, hok, I.len⟩
  · exact keep b o (neL b o e) hb (neC b o e hx) (I.base.keep b o e n hb hx) (I.base.free b o e n hx)
  · obtain ⟨sl, e1⟩ := I.base.slot b o e n hb hx
    obtain ⟨sl', e2⟩ := slot b _ (neL b o e) hb (neC b o e hx) e1 (I.base.free b o e n hx)
    exact ⟨sl', e2⟩
  · obtain ⟨o', e1⟩ := I.base.there b o e hx
    exact free b o' (neC b o e hx) e1 (I.base.free b o e n hx)
  · obtain ⟨o', e1⟩ := I.base.there b o e hx
    exact there b o' (neC b o e hx) e1
  · obtain ⟨m1, e1⟩ := I.base.tbls b ps e
    obtain ⟨m2, e2⟩ := tbls b _ e1
    exact ⟨m1 ++ m2, by rw [e2, Array.append_assoc]⟩
  · obtain ⟨m, hn, hl⟩ := I.loc
    refine ⟨m, ns m hn, fun i x v e1 e2 e3 => ?_⟩
    obtain ⟨u, r, l⟩ := hl i x v e1 e2 e3
    refine ⟨u, r, ?_⟩
    rcases l with l | ⟨k, c, e, z⟩
    · exact .inl l
    · exact .inr ⟨k, c, e, cellK x c e _ z⟩
  · obtain ⟨v, z⟩ := I.cell x c e
    exact ⟨v, cellK x c e v z⟩
  · obtain ⟨m, ⟨o, _, _, ho, _⟩, _⟩ := I.loc
    exact free _ o (fun z => (hch _ z).2.1 rfl) ho I.free
  · obtain ⟨v, o, ho, hd⟩ := I.cell x c e
    exact free c o (fun z => (hch c z).2.2.1 x c e rfl) ho (I.freeC x c e)
  · obtain ⟨e, n, ne, nf, d⟩ := I.pin p hp
    have nch : p.1 ∉ ch := fun z => (hch p.1 z).2.2.2 p hp rfl
    exact ⟨keep p.1 p.2 ne nf nch e n, free p.1 p.2 nch e n, ne, nf, d⟩
/-- .. where the frame's own object is kept too -/
theorem Inv.un {t' : Nat} (I : Inv X pins σ H s) (u : Un X.fs [] H H' s.heap h') (hok : HOk X.prog X.w H' h') : Inv X pins σ H' { s with heap := h', toks := t' } := by
  obtain ⟨m, ⟨o, es, ep, ho, r⟩, _⟩ := id I.loc
  obtain ⟨sl, hL⟩ := u.any ho I.free (by simp)
  exact I.step (g' := s.gens) (d' := s.drawn) (ch := []) (fun _ z => nomatch z) (fun b o _ hb _ e n => u.keep b o e n hb (by simp)) (fun b o _ hb _ e n => u.slot b o e n hb (by simp)) (fun b o _ e n => u.free b o e n (by simp)) (fun b o _ e => u.there b o e (by simp)) u.tups u.frzs u.tbls (fun m' hm => by
    obtain ⟨o', es', ep', ho', r'⟩ := hm
    rw [ho] at ho'; cases ho'
    exact ⟨_, es', ep', hL, r'⟩) hok I.bare
/-- behind a call (or a comprehension's block): the slots of this frame may have changed too, the records at ch may have turned -/
theorem Inv.call {g' : Array GenState} {t' : Nat} {d' : Drawn} {ch : List Addr} (I : Inv X pins σ H s) (u : Un (frs X.stack) ch H H' s.heap h') (hok : HOk X.prog X.w H' h') (hg : AllBare g')
    (hch : ∀ b ∈ ch, (b ∈ X.ex ∨ X.s₀.heap.objs.size ≤ b) ∧ b ≠ X.env.locals ∧ (∀ x c, X.env.cells.lookup x = some c → c ≠ b) ∧ ∀ p ∈ X.pn ++ pins, p.1 ≠ b) :
    Inv X pins σ H' { s with heap := h', gens := g', drawn := d', toks := t' } := by
  obtain ⟨m, ⟨o, es, ep, ho, r⟩, _⟩ := id I.loc
  obtain ⟨sl, hL⟩ := u.any ho I.free fun z => (hch _ z).2.1 rfl
  exact I.step (ch := ch) hch (fun b o hL hb hc e n => u.keep b o e n (fun z => (List.mem_cons.mp (I.stkSub b z)).elim hL hb) hc) (fun b o _ _ hc e n => u.any e n hc) (fun b o hc e n => u.free b o e n hc) (fun b o hc e => u.there b o e hc) u.tups u.frzs u.tbls (fun m' hm => by
    obtain ⟨o', es', ep', ho', r'⟩ := hm
    rw [ho] at ho'; cases ho'
    exact ⟨_, es', ep', hL, r'⟩) hok hg
/-- an untracked record of ours (an iterator) has turned -/
theorem Inv.turned {t' : Nat} {it : Addr} (I : Inv X pins σ H s) (k : ∀ b o, b ≠ it → s.heap.get? b = some o → h'.get? b = some o) (hn : H it = none) (hL : it ≠ X.env.locals)
    (h1 : it ∈ X.ex ∨ X.s₀.heap.objs.size ≤ it) (h2 : ∀ x c, X.env.cells.lookup x = some c → c ≠ it) (h3 : ∀ p ∈ X.pn ++ pins, p.1 ≠ it) : Inv X pins σ H { s with heap := h', toks := t' } := by
  have nit : ∀ b u, H b = some u → b ≠ it := fun b u e z => by rw [z, hn] at e; cases e
  refine I.step (g' := s.gens) (d' := s.drawn) (ch := [it]) (fun b hb => ?_) (fun b o _ _ hc e _ => k b o (fun z => hc (by simp [z])) e) (fun b o _ _ hc e _ => ⟨o.slots, k b o (fun z => hc (by simp [z])) e⟩) (fun _ _ _ _ n => n)
    (fun b o hc e => ⟨o, k b o (fun z => hc (by simp [z])) e⟩) (fun _ _ e => e) (fun _ _ _ e => e) (fun b ps e => ⟨#[], by rw [e]; simp⟩) (fun m hm => ?_) (fun b u e => ?_) I.bare
  · have e : b = it := by simpa using hb
    subst e
    exact ⟨h1, hL, h2, h3⟩
  · obtain ⟨o, es, ep, ho, r⟩ := hm
    exact ⟨o, es, ep, k _ o (Ne.symm hL) ho, r⟩
  · refine (I.hok b u e).stay (fun c v hc q => k c v ?_ q) (fun _ q => q) fun _ _ q => q
    rcases hc with z | z
    · rw [z]; exact nit b u e
    · exact nit c _ z
theorem Inv.tok (I : Inv X pins σ H s) (t : Nat) : Inv X pins σ H { s with toks := t } := I.un (h' := s.heap) (t' := t) Un.refl I.hok
/-- all objects kept -/
theorem Inv.kept {t' : Nat} (I : Inv X pins σ H s) (k : ∀ b u, s.heap.get? b = some u → h'.get? b = some u) : Inv X pins σ H { s with heap := h', toks := t' } := I.un (Un.kept k) (I.hok.kept k)
/-- a new object laid and tracked -/
theorem Inv.laid {a : Addr} {o : HO} {t' : Nat} (I : Inv X pins σ H s) (k : ∀ b u, s.heap.get? b = some u → h'.get? b = some u) (hp : s.heap.objs.size ≤ a) (new : ObjOk X.prog X.w (upd H a o) h' a o) :
    Inv X pins σ (upd H a o) { s with heap := h', toks := t' } := I.un (Un.laid k hp (I.hok.fresh hp)) (I.hok.laid k hp new)
/-- an object written -/
theorem Inv.write {x e : Addr} {o : HO} {t' : Nat} (I : Inv X pins σ H s) (mu : Mut (H x)) (he : e = x ∨ H e = some (.own x)) (k : ∀ b u, b ≠ e → s.heap.get? b = some u → h'.get? b = some u) (heo : ∃ u, h'.get? e = some u)
    (new : ObjOk X.prog X.w (upd H x o) h' x o) : Inv X pins σ (upd H x o) { s with heap := h', toks := t' } := I.un (Un.write mu he k heo) (I.hok.write mu he k heo new)
theorem Inv.pins_of {pins' : List (Addr × Obj)} (I : Inv X pins σ H s) (h : ∀ p ∈ pins', s.heap.get? p.1 = some p.2 ∧ H p.1 = none ∧ p.1 ≠ X.env.locals ∧ p.1 ∉ X.fs ∧ ∀ v, p.2.data ≠ .cell v) : Inv X pins' σ H s :=
  ⟨I.ok, I.os, I.bare, I.base, I.loc, I.cell, I.free, I.freeC, fun p hp => (List.mem_append.mp hp).elim (fun z => I.pin p (List.mem_append_left _ z)) (h p), I.hok, I.len⟩

theorem nodup_ix {N : List Str} (hN : N.Nodup) {i j : Nat} {x : Str} (a : N[i]? = some x) (b : N[j]? = some x) : i = j := by
  obtain ⟨h1, e1⟩ := List.getElem?_eq_some_iff.mp a
  obtain ⟨h2, e2⟩ := List.getElem?_eq_some_iff.mp b
  exact (List.getElem_inj hN).mp (e1.trans e2.symm)

/-- a name is stored; what changed -/
theorem store_ok2 {M : Model} {A : Around} {E : Value → Shared → Prop} {i : Nat} {x : Str} {v : V} {u : Value} {Q : Unit → Shared → Prop} (I : Inv X pins σ H s) (hN : X.N.Nodup) (hi : X.N[i]? = some x) (hx : Loc X.env.scope x) (r : RelV v u)
    (h : ∀ s', Inv X pins (σ.set i (some v)) H s' → (∃ a, Heap.SameBut a s.heap s'.heap ∧ (a = X.env.locals ∨ X.env.cells.lookup x = some a)) → Q () s') (hf : X.fn x = true ∨ X.env.scope.names.lookup x = some .local := by first | exact .inl rfl | exact .inr rfl | assumption) : wpAny M A (storeName X.env x u) Q E s := by
  obtain ⟨m, hn, hl⟩ := id I.loc
  have hcls : (X.env.scope.kind == .class || (X.env.scope.kind == .module && X.env.locals != X.env.globals)) = false := by rw [I.ok.kind]; rfl
  have hiσ : i < σ.length := by rw [I.len]; exact (List.getElem?_eq_some_iff.mp hi).1
  have cne := I.cne
  have tracked : ∀ {a : Addr} {h' : Heap}, (∃ o, s.heap.get? a = some o ∧ H a = none) → Heap.SameBut a s.heap h' → HOk X.prog X.w H h' := fun {a h'} ha hs b ob e => by
    obtain ⟨_, _, hfree⟩ := ha
    refine (I.hok b ob e).stay (fun c w' hc q => (hs.2 c ?_).trans q) (fun _ q => q) fun _ _ q => q
    rintro rfl
    rcases hc with rfl | hc
    · rw [hfree] at e; cases e
    · rw [hfree] at hc; cases hc
  rcases hx with hk | hk
  · refine wpAny_storeName_local hk hn (fun h' hn' hs => ?_) hcls
    obtain ⟨oL, _, _, hoL, _⟩ := id hn
    refine h _ ⟨I.ok, I.os, I.bare, ⟨fun b o e n hb hx => ?_, fun b o e n hb hx => ?_, I.base.free, fun b o e hx => ?_, I.base.tups, I.base.frzs, I.base.tbls⟩, ⟨_, hn', fun j y v' e1 e2 e3 => ?_⟩, fun y c e => ?_, I.free, I.freeC, fun p hp => ?_, tracked ⟨oL, hoL, I.free⟩ hs, by simpa using I.len⟩ ⟨_, hs, .inl rfl⟩
    · exact (hs.2 b (Nat.ne_of_lt (Nat.lt_of_lt_of_le (Heap.lt_size e) I.ok.above))).trans (I.base.keep b o e n hb hx)
    · obtain ⟨sl, e1⟩ := I.base.slot b o e n hb hx
      exact ⟨sl, (hs.2 b (Nat.ne_of_lt (Nat.lt_of_lt_of_le (Heap.lt_size e) I.ok.above))).trans e1⟩
    · obtain ⟨o', e1⟩ := I.base.there b o e hx
      exact ⟨o', (hs.2 b (Nat.ne_of_lt (Nat.lt_of_lt_of_le (Heap.lt_size e) I.ok.above))).trans e1⟩
    · by_cases hj : j = i
      · subst hj
        rw [hi] at e1; cases e1
        rw [List.getElem?_set_self hiσ] at e2
        cases e2
        exact ⟨u, r, .inl ⟨hk, by simp⟩⟩
      · rw [List.getElem?_set_ne (Ne.symm hj)] at e2
        obtain ⟨u', r', q⟩ := hl j y v' e1 e2 e3
        refine ⟨u', r', ?_⟩
        rcases q with ⟨k, e⟩ | ⟨k, c, e, z⟩
        · refine .inl ⟨k, ?_⟩
          have : y ≠ x := fun e => hj (nodup_ix hN e1 (e ▸ hi))
          simp [this, e]
        · exact .inr ⟨k, c, e, z.sameBut hs (cne y c e)⟩
    · obtain ⟨w', z⟩ := I.cell y c e
      exact ⟨w', z.sameBut hs (cne y c e)⟩
    · obtain ⟨e, n, ne, nf, d⟩ := I.pin p hp
      exact ⟨(hs.2 p.1 ne).trans e, n, ne, nf, d⟩
  · have hfn : X.fn x = true := by
      rcases hf with z | z
      · exact z
      · rw [z] at hk; cases hk
    obtain ⟨c, hc⟩ := I.ok.has x (.inl hk)
    obtain ⟨w', z⟩ := I.cell x c hc
    refine wpAny_storeName_cell I.ok.kind hk hc z (fun h' hc' hs => ?_)
    obtain ⟨oc, hoc, hocd⟩ := id z
    refine h { s with heap := h' } ⟨I.ok, I.os, I.bare, ⟨fun b o e n hb hx => ?_, fun b o e n hb hx => ?_, I.base.free, fun b o e hx => ?_, I.base.tups, I.base.frzs, I.base.tbls⟩, ⟨m, hn.sameBut hs (Ne.symm (cne x c hc)), fun j y v' e1 e2 e3 => ?_⟩, fun y c' e => ?_, I.free, I.freeC, fun p hp => ?_, tracked ⟨oc, hoc, I.freeC x c hc⟩ hs, by simpa using I.len⟩ ⟨c, hs, .inr hc⟩
    · exact (hs.2 b (Nat.ne_of_lt (Nat.lt_of_lt_of_le (Heap.lt_size e) (I.ok.cab x c hfn hc)))).trans (I.base.keep b o e n hb hx)
    · obtain ⟨sl, e1⟩ := I.base.slot b o e n hb hx
      exact ⟨sl, (hs.2 b (Nat.ne_of_lt (Nat.lt_of_lt_of_le (Heap.lt_size e) (I.ok.cab x c hfn hc)))).trans e1⟩
    · obtain ⟨o', e1⟩ := I.base.there b o e hx
      exact ⟨o', (hs.2 b (Nat.ne_of_lt (Nat.lt_of_lt_of_le (Heap.lt_size e) (I.ok.cab x c hfn hc)))).trans e1⟩
    · by_cases hj : j = i
      · subst hj
        rw [hi] at e1; cases e1
        rw [List.getElem?_set_self hiσ] at e2
        cases e2
        exact ⟨u, r, .inr ⟨.inl hk, c, hc, hc'⟩⟩
      · rw [List.getElem?_set_ne (Ne.symm hj)] at e2
        obtain ⟨u', r', q⟩ := hl j y v' e1 e2 e3
        refine ⟨u', r', ?_⟩
        rcases q with q | ⟨k, c', e, z'⟩
        · exact .inl q
        · refine .inr ⟨k, c', e, z'.sameBut hs ?_⟩
          rintro rfl
          exact hj (nodup_ix hN e1 (I.ok.inj _ _ _ e hc ▸ hi))
    · by_cases hcc : c' = c
      · subst hcc; exact ⟨_, hc'⟩
      · obtain ⟨w2, z2⟩ := I.cell y c' e
        exact ⟨w2, z2.sameBut hs hcc⟩
    · obtain ⟨e, n, ne, nf, d⟩ := I.pin p hp
      refine ⟨(hs.2 p.1 ?_).trans e, n, ne, nf, d⟩
      intro q
      rw [q, hoc] at e
      have q' : oc = p.2 := Option.some.inj e
      exact d w' (by rw [← q']; exact hocd)
theorem store_ok {M : Model} {A : Around} {E : Value → Shared → Prop} {i : Nat} {x : Str} {v : V} {u : Value} {Q : Unit → Shared → Prop} (I : Inv X pins σ H s) (hN : X.N.Nodup) (hi : X.N[i]? = some x) (hx : Loc X.env.scope x) (r : RelV v u)
    (h : ∀ s', Inv X pins (σ.set i (some v)) H s' → Q () s') (hf : X.fn x = true ∨ X.env.scope.names.lookup x = some .local := by first | exact .inl rfl | exact .inr rfl | assumption) : wpAny M A (storeName X.env x u) Q E s :=
  store_ok2 I hN hi hx r (fun s' I' _ => h s' I') hf
/-- behind a call or a block, the state as it is -/
theorem Inv.call' {s' : Shared} {ch : List Addr} (I : Inv X pins σ H s) (ho : s'.os = s.os) (u : Un (frs X.stack) ch H H' s.heap s'.heap) (hok : HOk X.prog X.w H' s'.heap) (hg : AllBare s'.gens)
    (hch : ∀ b ∈ ch, (b ∈ X.ex ∨ X.s₀.heap.objs.size ≤ b) ∧ b ≠ X.env.locals ∧ (∀ x c, X.env.cells.lookup x = some c → c ≠ b) ∧ ∀ p ∈ X.pn ++ pins, p.1 ≠ b) : Inv X pins σ H' s' := by
  obtain ⟨h', g', d', t', o'⟩ := s'
  have e : o' = s.os := ho
  subst e
  exact I.call (g' := g') (t' := t') (d' := d') u hok hg hch
end

/-! ### the judgements -/
/-- an exception: its class, its own dict's address (where it has one), the abstract heap behind it -/
abbrev XK := Value → Option Addr → Hp → Prop
abbrev St := List (Option V)
abbrev VK := V → Hp → Prop
/-- an expression's reading; a test's; an argument list's -/
abbrev TE := St → Hp → VK → Prop
abbrev TT := St → Hp → (Bool → Hp → Prop) → Prop
abbrev TA := St → Hp → (List V → Hp → Prop) → Prop
/-- what is wanted behind a statement -/
structure Ends where
  nx : St → Hp → Prop
  rt : VK
  bk : St → Hp → Prop := fun _ _ => False
  ct : St → Hp → Prop := fun _ _ => False
abbrev TS := Ends → St → Hp → Prop

def EP (X : Cx) (pins : List (Addr × Obj)) (σ : St) (Q : VK) (u : Value) (s' : Shared) : Prop := ∃ v H', Inv X pins σ H' s' ∧ RelV v u ∧ Q v H'
def TP (X : Cx) (pins : List (Addr × Obj)) (σ : St) (Q : Bool → Hp → Prop) (b : Bool) (s' : Shared) : Prop := ∃ H', Inv X pins σ H' s' ∧ Q b H'
def AP (X : Cx) (pins : List (Addr × Obj)) (σ : St) (Q : List V → Hp → Prop) (us : List Value) (s' : Shared) : Prop := ∃ vs H', Inv X pins σ H' s' ∧ Vals vs us ∧ Q vs H'
def SP (X : Cx) (pins : List (Addr × Obj)) (D : Ends) (f : Flow) (s' : Shared) : Prop :=
  match f with
  | .next => ∃ σ' H', Inv X pins σ' H' s' ∧ D.nx σ' H'
  | .brk => ∃ σ' H', Inv X pins σ' H' s' ∧ D.bk σ' H'
  | .cont => ∃ σ' H', Inv X pins σ' H' s' ∧ D.ct σ' H'
  | .ret u => ∃ v σ' H', Inv X pins σ' H' s' ∧ RelV v u ∧ D.rt v H'

def PE (X : Cx) (e : Expr) (t : TE) : Prop :=
  ∀ (pins : List (Addr × Obj)) (s : Shared) (σ : St) (H : Hp) (Q : VK), Inv X pins σ H s → t σ H Q → wpAny (model X.prog X.w) X.A (eval e X.env) (EP X pins σ Q) X.xe s
def PT (X : Cx) (e : Expr) (t : TT) : Prop :=
  ∀ (pins : List (Addr × Obj)) (s : Shared) (σ : St) (H : Hp) (Q : Bool → Hp → Prop), Inv X pins σ H s → t σ H Q → wpAny (model X.prog X.w) X.A (isTrue e X.env (eval e X.env)) (TP X pins σ Q) X.xe s
/-- a test whatever its 'whole' is (and, or) -/
def PW (X : Cx) (e : Expr) (t : TT) : Prop :=
  ∀ (whole : Sem Value) (pins : List (Addr × Obj)) (s : Shared) (σ : St) (H : Hp) (Q : Bool → Hp → Prop), Inv X pins σ H s → t σ H Q → wpAny (model X.prog X.w) X.A (isTrue e X.env whole) (TP X pins σ Q) X.xe s
theorem PW.pt {X : Cx} {e : Expr} {t : TT} (h : PW X e t) : PT X e t := h _
/-- an argument list (no star), from the left -/
def PA (X : Cx) (es : List Expr) (t : TA) : Prop :=
  ∀ (pos : Pos) (pins : List (Addr × Obj)) (s : Shared) (σ : St) (H : Hp) (Q : List V → Hp → Prop), Inv X pins σ H s → t σ H Q → wpAny (model X.prog X.w) X.A (spliced (backTo pos (starEach es X.env))) (AP X pins σ Q) X.xe s
def PS (X : Cx) (st : Stmt) (t : TS) : Prop :=
  ∀ (pins : List (Addr × Obj)) (s : Shared) (σ : St) (H : Hp) (D : Ends), Inv X pins σ H s → t D σ H → wpAny (model X.prog X.w) X.A (exec st X.env) (SP X pins D) X.xe s
def PSs (X : Cx) (st : List Stmt) (t : TS) : Prop :=
  ∀ (pins : List (Addr × Obj)) (s : Shared) (σ : St) (H : Hp) (D : Ends), Inv X pins σ H s → t D σ H → wpAny (model X.prog X.w) X.A (execs st X.env) (SP X pins D) X.xe s
/-- weaken the end -/
theorem thn {α : Type} {t : Sem α} {Q Q' : α → Shared → Prop} {M : Model} {A : Around} {E : Value → Shared → Prop} {s : Shared} (h : wpAny M A t Q E s) (hQ : ∀ a s, Q a s → Q' a s) : wpAny M A t Q' E s := wpAny_mono h hQ fun _ _ x => x
end L2

namespace L2
open PySem PySem.Spec PyProof.Rows
section
variable {X : Cx}

/-! ### names and constants -/
def tVar (i : Nat) : TE := fun σ H Q => ∃ v, σ[i]? = some (some v) ∧ Q v H
def tC (v : V) : TE := fun _ H Q => Q v H
theorem pe_var {i : Nat} {x : Str} {pos : Pos} (hN : X.N[i]? = some x) (hv : Vis X.env.scope x) (hd : (x == ("__debug__" : Str)) = false := by decide) (hcd : (x == ("__classdict__" : Str)) = false := by decide) : PE X (.Name x pos) (tVar i) := by
  intro pins s σ H Q I h
  obtain ⟨v, e, h⟩ := h
  obtain ⟨m, hn, hl⟩ := I.loc
  obtain ⟨u, r, l⟩ := hl i x v hN e hv
  have fin : EP X pins σ Q u s := ⟨v, H, I, r, h⟩
  rcases l with ⟨hk, hm⟩ | ⟨hk, c, hc, hcell⟩
  · exact wpAny_Name (wpAny_loadName_local I.ok.kind hk hn hm fin) hd
  · rcases hk with hk | hk
    · exact wpAny_Name (wpAny_loadName_cell I.ok.kind hk hc hcell fin) hd
    · exact wpAny_Name (wpAny_loadName_free I.ok.kind hk hc hcell fin hcd) hd
theorem pe_int {i j pos} : PE X (.Constant (.int i) j pos) (tC (.int i)) := fun _ _ _ H _ I h => wpAny_Constant_int ⟨.int i, H, I.tok _, ⟨_, rfl⟩, h⟩
theorem pe_bl {b j pos} : PE X (.Constant (.bool b) j pos) (tC (.bl b)) := fun _ _ _ H _ I h => Constant_bool ⟨.bl b, H, I, rfl, h⟩
theorem pe_non {j pos} : PE X (.Constant .none j pos) (tC .non) := fun _ _ _ H _ I h => Constant_none ⟨.non, H, I, rfl, h⟩
theorem pe_str {x j pos} : PE X (.Constant (.str x) j pos) (tC (.str x)) := fun _ _ _ H _ I h => Calls.Constant_str ⟨.str x, H, I.tok _, ⟨_, rfl⟩, h⟩

/-- a global name of the def -/
def Gl (X : Cx) (x : Str) : Prop := X.env.kindOf x = some .globalImplicit
theorem ld_glob {E : Value → Shared → Prop} {pins : List (Addr × Obj)} {s : Shared} {σ : St} {H : Hp} {x : Str} {u : Value} {pos : Pos} {Q : Value → Shared → Prop} (I : Inv X pins σ H s) (hg : Gl X x) (hm : X.mg x = some u) (h : Q u s)
    (hd : (x == ("__debug__" : Str)) = false := by decide) : wpAny (model X.prog X.w) X.A (eval (.Name x pos) X.env) Q E s :=
  Calls.Name_function_global I.ok.kind hg (Calls.loadGlobal_global (by rw [I.ok.glob]; exact I.mod.glob.keeps I.bk) hm h) hd
theorem ld_blt {E : Value → Shared → Prop} {pins : List (Addr × Obj)} {s : Shared} {σ : St} {H : Hp} {x : Str} {u : Value} {pos : Pos} {Q : Value → Shared → Prop} (I : Inv X pins σ H s) (hg : Gl X x) (hm : X.mg x = none) (hv : bootBuiltins x = some u) (h : Q u s)
    (hn : x ≠ "__name__" := by decide) (hd : (x == ("__debug__" : Str)) = false := by decide) : wpAny (model X.prog X.w) X.A (eval (.Name x pos) X.env) Q E s := by
  obtain ⟨mb, h1, h2⟩ := I.mod.blt
  exact Calls.Name_function_global I.ok.kind hg (Calls.loadGlobal_builtin (by rw [I.ok.glob]; exact I.mod.glob.keeps I.bk) hm (by rw [I.ok.blt]; exact h1.keeps I.bk) ((h2 x hn).trans hv) h) hd
theorem pe_bltn {x : Str} {v : V} {u : Value} {pos : Pos} (hg : Gl X x) (hm : X.mg x = none) (hv : bootBuiltins x = some u) (r : RelV v u) (hn : x ≠ "__name__" := by decide) (hd : (x == ("__debug__" : Str)) = false := by decide) : PE X (.Name x pos) (tC v) :=
  fun _ _ _ H _ I h => ld_blt I hg hm hv ⟨v, H, I, r, h⟩ hn hd

/-! ### arithmetic -/
variable {a b : Expr} {ta tb : TE} {pos : Pos}
/-! ### comparisons -/
def PC (X : Cx) (op : CmpOp) (a b : Expr) (t : TE) : Prop :=
  ∀ (pins : List (Addr × Obj)) (s : Shared) (σ : St) (H : Hp) (Q : VK), Inv X pins σ H s → t σ H Q →
    wpAny (model X.prog X.w) X.A (eval a X.env) (fun v s₁ => wpAny (model X.prog X.w) X.A (eval b X.env) (fun u s₂ => wpAny (model X.prog X.w) X.A (compareOp op v u) (EP X pins σ Q) X.xe s₂) X.xe s₁) X.xe s
/-- a comparison as a value, as a test -/
def tB (t : TE) : TT := fun σ H Q => t σ H fun x H1 => ∃ c, x = .bl c ∧ Q c H1
theorem pt_cmp {op : CmpOp} {t : TE} (h : PC X op a b t) (h1 : behindInMarks op b = false := by first | exact nobehind _ (by decide) (by decide) | rfl) : PT X (.Compare a [op] [b] pos) (tB t) := by
  intro pins s σ H Q I hw
  refine wpAny_isTrue_Compare1 (thn (h pins s σ H _ I hw) fun v s1 h1 => thn h1 fun u s2 h2 => thn h2 fun c s3 ⟨x, H1, I1, r1, q1⟩ => ?_) h1
  obtain ⟨d, rfl, q⟩ := q1
  cases r1
  exact wpAny_truthy_bool ⟨H1, I1, q⟩
/-! ### and, or, not -/
variable {tA tB' : TT} {rest : List Expr}
def tAnd (t u : TT) : TT := fun σ H Q => t σ H fun c H1 => if c = true then u σ H1 Q else Q false H1
def tOr (t u : TT) : TT := fun σ H Q => t σ H fun c H1 => if c = true then Q true H1 else u σ H1 Q
def tNot (t : TT) : TT := fun σ H Q => t σ H fun c H1 => Q (!c) H1
theorem pw_and1 (ha : PT X a tA) : PW X (.BoolOp .And [a] pos) tA := by
  intro wh pins s σ H Q I h
  refine isTrue_and (thn (ha pins s σ H Q I h) fun c s1 e => ?_)
  cases c with
  | true => exact isTrue_and_nil e
  | false => exact e
theorem pw_or1 (ha : PT X a tA) : PW X (.BoolOp .Or [a] pos) tA := by
  intro wh pins s σ H Q I h
  refine isTrue_or (thn (ha pins s σ H Q I h) fun c s1 e => ?_)
  cases c with
  | false => exact isTrue_or_nil e
  | true => exact e
theorem pw_and (ha : PT X a tA) (hb : PW X (.BoolOp .And (b :: rest) pos) tB') : PW X (.BoolOp .And (a :: b :: rest) pos) (tAnd tA tB') := by
  intro wh pins s σ H Q I h
  refine isTrue_and (thn (ha pins s σ H _ I h) fun c s1 ⟨H1, I1, q1⟩ => ?_)
  cases c with
  | true => exact hb wh pins s1 σ H1 Q I1 q1
  | false => exact ⟨H1, I1, q1⟩
theorem pw_or (ha : PT X a tA) (hb : PW X (.BoolOp .Or (b :: rest) pos) tB') : PW X (.BoolOp .Or (a :: b :: rest) pos) (tOr tA tB') := by
  intro wh pins s σ H Q I h
  refine isTrue_or (thn (ha pins s σ H _ I h) fun c s1 ⟨H1, I1, q1⟩ => ?_)
  cases c with
  | true => exact ⟨H1, I1, q1⟩
  | false => exact hb wh pins s1 σ H1 Q I1 q1
theorem pt_not (ha : PT X a tA) : PT X (.UnaryOp .Not a pos) (tNot tA) := by
  intro pins s σ H Q I h
  exact isTrue_not (ha pins s σ H (fun c H1 => Q (!c) H1) I h)
/-- a if t else b -/
def tIf (t : TT) (ta tb : TE) : TE := fun σ H Q => t σ H fun c H1 => if c = true then ta σ H1 Q else tb σ H1 Q
theorem pe_ifExp {c : Expr} (hc : PT X c tA) (ha : PE X a ta) (hb : PE X b tb) : PE X (.IfExp c a b pos) (tIf tA ta tb) := by
  intro pins s σ H Q I h
  refine wpAny_IfExp (thn (hc pins s σ H _ I h) fun d s1 ⟨H1, I1, q1⟩ => ?_)
  cases d with
  | true => exact ha pins s1 σ H1 Q I1 q1
  | false => exact hb pins s1 σ H1 Q I1 q1
end
end L2

namespace L2
open PySem PySem.Spec PyProof.Rows

/-! ### a list, a tuple that is read: tracked, frozen, or an object of the module -/
def SqL (K : PySem.W.Frag) (H : Hp) (a : Addr) (xs : List V) : Prop :=
  Rd H a (.lst xs) ∨
    ∃ (o : Obj) (its : Array Value) (n : Nat), K.lookup a = some o ∧ o.cls = .type "list" ∧ o.dict = none ∧ o.data = .seq its n ∧ its.size ≤ sizeLine ∧ Vals xs its.toList
def SqT (K : PySem.W.Frag) (H : Hp) (a : Addr) (xs : List V) : Prop :=
  Rd H a (.tup xs) ∨
    ∃ (o : Obj) (its : Array Value) (n : Nat), K.lookup a = some o ∧ o.cls = .type "tuple" ∧ o.data = .seq its n ∧ its.size ≤ sizeLine ∧ Vals xs its.toList
def absV : Value → Option V
  | .none => some .non
  | .bool b => some (.bl b)
  | .int i _ => some (.int i)
  | .str x _ => some (.str x)
  | .bytes b _ => some (.byt b)
  | .float b _ => some (.flt b)
  | .ref a => some (.ref a)
  | .type n => some (.ty n)
  | _ => none
theorem RelV.abs {x : V} {u : Value} (r : RelV x u) : absV u = some x := by
  cases x with
  | non => cases r; rfl
  | bl _ => cases r; rfl
  | int _ => obtain ⟨t, rfl⟩ := r; rfl
  | str _ => obtain ⟨t, rfl⟩ := r; rfl
  | byt _ => obtain ⟨t, rfl⟩ := r; rfl
  | flt _ => obtain ⟨t, rfl⟩ := r; rfl
  | ref _ => cases r; rfl
  | ty _ => cases r; rfl
theorem RelV.inj {x y : V} {u : Value} (r : RelV x u) (q : RelV y u) : x = y := Option.some.inj (r.abs.symm.trans q.abs)
theorem Vals.inj : ∀ {xs ys : List V} {us : List Value}, Vals xs us → Vals ys us → xs = ys
  | _, _, _, .nil, .nil => rfl
  | _, _, _, .cons r t, .cons r' t' => by rw [r.inj r', Vals.inj t t']
section
variable {X : Cx} {pins : List (Addr × Obj)} {σ : St} {H : Hp} {s : Shared} {a : Addr} {xs ys : List V}
theorem SqL.of {K : PySem.W.Frag} (h : H a = some (.lst xs)) : SqL K H a xs := .inl (.inl h)
theorem SqT.of {K : PySem.W.Frag} (h : H a = some (.tup xs)) : SqT K H a xs := .inl (.inl h)
theorem Inv.list (I : Inv X pins σ H s) (h : SqL X.K H a xs) : ∃ its : List Value, Vals xs its ∧ PlainL s.heap a its.toArray ∧ xs.length ≤ sizeLine := by
  rcases h with h | ⟨o, its, n, hk, hc, hd, hs, hz, r⟩
  · obtain ⟨z, its, n, r, e⟩ := h.ok I.hok
    exact ⟨its, r, ⟨_, n, e, rfl, rfl, rfl⟩, z⟩
  · refine ⟨its.toList, r, ⟨o, n, I.kIn a o hk, hc, hd, by simpa using hs⟩, ?_⟩
    have e := r.length
    simp only [Array.length_toList] at e
    (first | lia | omega)
theorem Inv.tuple (I : Inv X pins σ H s) (h : SqT X.K H a xs) : ∃ its : List Value, Vals xs its ∧ IsTup s.heap a its.toArray ∧ xs.length ≤ sizeLine := by
  rcases h with h | ⟨o, its, n, hk, hc, hs, hz, r⟩
  · obtain ⟨z, its, r, p⟩ := h.ok I.hok
    exact ⟨its, r, p, z⟩
  · refine ⟨its.toList, r, ⟨o, I.kIn a o hk, hc, n, by simpa using hs⟩, ?_⟩
    have e := r.length
    simp only [Array.length_toList] at e
    (first | lia | omega)
theorem Inv.list_inj (I : Inv X pins σ H s) (h : SqL X.K H a xs) (h' : SqL X.K H a ys) : xs = ys := by
  obtain ⟨its, r, ⟨o, n, e, _, _, d⟩, _⟩ := I.list h
  obtain ⟨its', r', ⟨o', n', e', _, _, d'⟩, _⟩ := I.list h'
  rw [e] at e'; cases e'
  rw [d] at d'
  injection d' with d1 _
  have : its = its' := by simpa using congrArg Array.toList d1
  subst this
  exact r.inj r'
theorem Inv.tuple_inj (I : Inv X pins σ H s) (h : SqT X.K H a xs) (h' : SqT X.K H a ys) : xs = ys := by
  obtain ⟨its, r, ⟨o, e, _, n, d⟩, _⟩ := I.tuple h
  obtain ⟨its', r', ⟨o', e', _, n', d'⟩, _⟩ := I.tuple h'
  rw [e] at e'; cases e'
  rw [d] at d'
  injection d' with d1 _
  have : its = its' := by simpa using congrArg Array.toList d1
  subst this
  exact r.inj r'
end

/-! ### another wish about exceptions -/
abbrev Cx.wish (X : Cx) (E : Value → Shared → Prop) : Cx := { X with xe := E }
/-- no exception leaves -/
abbrev Cx.nox (X : Cx) : Cx := X.wish fun _ _ => False
theorem Cx.Ok.wish {X : Cx} (ok : X.Ok) (E : Value → Shared → Prop) : (X.wish E).Ok :=
  ⟨ok.mod, ok.kind, ok.glob, ok.blt, ok.above, ok.inj, ok.has, ok.cab, ok.hd, ok.frames, ok.stk, ok.exf, ok.bs, ok.bsz, ok.noex, ok.exfs, ok.funs, ok.frf⟩
theorem Cx.Ok.unwish {X : Cx} {E : Value → Shared → Prop} (ok : (X.wish E).Ok) : X.Ok :=
  ⟨ok.mod, ok.kind, ok.glob, ok.blt, ok.above, ok.inj, ok.has, ok.cab, ok.hd, ok.frames, ok.stk, ok.exf, ok.bs, ok.bsz, ok.noex, ok.exfs, ok.funs, ok.frf⟩
section
variable {X : Cx} {pins : List (Addr × Obj)} {σ : St} {H : Hp} {s : Shared} {E : Value → Shared → Prop}
theorem Inv.wish (I : Inv X pins σ H s) (E : Value → Shared → Prop) : Inv (X.wish E) pins σ H s := ⟨I.ok.wish E, I.os, I.bare, I.base, I.loc, I.cell, I.free, I.freeC, I.pin, I.hok, I.len⟩
theorem Inv.unwish (I : Inv (X.wish E) pins σ H s) : Inv X pins σ H s := ⟨I.ok.unwish, I.os, I.bare, I.base, I.loc, I.cell, I.free, I.freeC, I.pin, I.hok, I.len⟩
theorem SP.unwish {D : Ends} {f : Flow} {s' : Shared} (h : SP (X.wish E) pins D f s') : SP X pins D f s' := by
  cases f with
  | next => obtain ⟨σ', H', I, q⟩ := h; exact ⟨σ', H', I.unwish, q⟩
  | brk => obtain ⟨σ', H', I, q⟩ := h; exact ⟨σ', H', I.unwish, q⟩
  | cont => obtain ⟨σ', H', I, q⟩ := h; exact ⟨σ', H', I.unwish, q⟩
  | ret u => obtain ⟨v, σ', H', I, r, q⟩ := h; exact ⟨v, σ', H', I.unwish, r, q⟩
theorem PSs.nox {st : List Stmt} {t : TS} (h : PSs X.nox st t) : PSs X st t := fun pins s σ H D I hw =>
  wpAny_mono (h pins s σ H D (I.wish _) hw) (fun _ _ q => q.unwish) fun _ _ z => False.elim z
end

/-! ### blocks and small statements -/
section
variable {X : Cx} {st : Stmt} {rest : List Stmt} {t u : TS} {e : Expr} {te : TE} {pos : Pos}
def tNext : TS := fun D σ H => D.nx σ H
def tSeq (t u : TS) : TS := fun D σ H => t { D with nx := u D } σ H
theorem pss_nil : PSs X [] tNext := fun _ _ σ H _ I h => wpAny_execs_nil ⟨σ, H, I, h⟩
theorem pss_cons (h1 : PS X st t) (h2 : PSs X rest u) : PSs X (st :: rest) (tSeq t u) := by
  intro pins s σ H D I h
  refine wpAny_execs_cons (thn (h1 pins s σ H { D with nx := u D } I h) fun f s1 q => ?_)
  cases f with
  | next =>
    obtain ⟨σ', H', I', q⟩ := q
    exact h2 pins s1 σ' H' D I' q
  | ret v => exact q
  | brk => exact q
  | cont => exact q
theorem pss_one (h1 : PS X st t) : PSs X [st] t := by
  intro pins s σ H D I h
  refine wpAny_execs_cons (thn (h1 pins s σ H D I h) fun f s1 q => ?_)
  cases f with
  | next => exact wpAny_execs_nil q
  | ret v => exact q
  | brk => exact q
  | cont => exact q
/-- in a def's body nothing is shown -/
theorem Inv.quiet {pins : List (Addr × Obj)} {σ : St} {H : Hp} {s : Shared} (I : Inv X pins σ H s) : interactive X.env = false := by simp [interactive, I.ok.kind]
/-- an expression whose value is dropped -/
def tDrop (te : TE) : TS := fun D σ H => te σ H fun _ H1 => D.nx σ H1
theorem ps_expr (he : PE X e te) (hs : swapsWith e none pos.line X.env = pure false := by rfl) : PS X (.Expr e pos) (tDrop te) := by
  intro pins s σ H D I h
  exact wpAny_Expr_any (thn (he pins s σ H _ I h) fun v s1 ⟨x, H1, I1, r1, q1⟩ => ⟨σ, H1, I1, q1⟩) I.quiet hs
def tRet (te : TE) : TS := fun D σ H => te σ H D.rt
theorem ps_ret (he : PE X e te) : PS X (.Return (some e) pos) (tRet te) := by
  intro pins s σ H D I h
  exact wpAny_Return_some (thn (he pins s σ H _ I h) fun v s1 ⟨x, H1, I1, r1, q1⟩ => ⟨x, σ, H1, I1, r1, q1⟩)
def tIfS (c : TT) (t u : TS) : TS := fun D σ H => c σ H fun b H1 => if b = true then t D σ H1 else u D σ H1
theorem ps_if {c : Expr} {a b : List Stmt} {tc : TT} (hc : PT X c tc) (ha : PSs X a t) (hb : PSs X b u) : PS X (.If c a b pos) (tIfS tc t u) := by
  intro pins s σ H D I h
  refine wpAny_If (thn (hc pins s σ H _ I h) fun d s1 ⟨H1, I1, q1⟩ => ?_)
  cases d with
  | true => exact ha pins s1 σ H1 D I1 q1
  | false => exact hb pins s1 σ H1 D I1 q1
end

/-! ### targets -/
abbrev TG := V → St → Hp → (St → Hp → Prop) → Prop
abbrev TGs := List V → St → Hp → (St → Hp → Prop) → Prop
def PG (X : Cx) (target : Expr) (t : TG) : Prop :=
  ∀ (pins : List (Addr × Obj)) (s : Shared) (σ : St) (H : Hp) (v : V) (u : Value) (Q : St → Hp → Prop), Inv X pins σ H s → RelV v u → t v σ H Q →
    wpAny (model X.prog X.w) X.A (assign target X.env u) (fun _ s' => ∃ σ' H', Inv X pins σ' H' s' ∧ Q σ' H') X.xe s
/-- several targets, one after another -/
def PGs (X : Cx) (ts : List Expr) (t : TGs) : Prop :=
  ∀ (pins : List (Addr × Obj)) (s : Shared) (σ : St) (H : Hp) (vs : List V) (us : List Value) (Q : St → Hp → Prop), Inv X pins σ H s → Vals vs us → t vs σ H Q →
    wpAny (model X.prog X.w) X.A (assignInOrder ((assignEach ts X.env).map (·.2)) us) (fun _ s' => ∃ σ' H', Inv X pins σ' H' s' ∧ Q σ' H') X.xe s
/-- o[i] = v, by values -/
abbrev TSet := V → V → V → Hp → (Hp → Prop) → Prop
def PSet (X : Cx) (t : TSet) : Prop :=
  ∀ (pins : List (Addr × Obj)) (s : Shared) (σ : St) (H : Hp) (o i v : V) (ov iv u : Value) (Q : Hp → Prop), Inv X pins σ H s → RelV o ov → RelV i iv → RelV v u → t o i v H Q →
    wpAny (model X.prog X.w) X.A (setItem ov iv u) (fun _ s' => ∃ H', Inv X pins σ H' s' ∧ Q H') X.xe s
section
variable {X : Cx} {pos : Pos}
def gName (i : Nat) : TG := fun v σ H Q => Q (σ.set i (some v)) H
theorem pg_name {i : Nat} {x : Str} (hN : X.N.Nodup) (hi : X.N[i]? = some x) (hx : Loc X.env.scope x) (hf : X.fn x = true ∨ X.env.scope.names.lookup x = some .local := by first | exact .inl rfl | exact .inr rfl | assumption) : PG X (.Name x pos) (gName i) := by
  intro pins s σ H v u Q I r h
  exact wpAny_assign_Name (store_ok I hN hi hx r (fun s' I' => ⟨_, H, I', h⟩) hf)
def gNil : TGs := fun vs σ H Q => vs = [] ∧ Q σ H
def gCons (t : TG) (u : TGs) : TGs := fun vs σ H Q => ∃ v r, vs = v :: r ∧ t v σ H fun σ' H' => u r σ' H' Q
theorem pgs_nil : PGs X [] gNil := by
  intro pins s σ H vs us Q I r h
  obtain ⟨e, h⟩ := h
  subst e
  cases r
  exact assignInOrder_nil ⟨σ, H, I, h⟩
theorem pgs_cons {e : Expr} {es : List Expr} {t : TG} {u : TGs} (h1 : PG X e t) (h2 : PGs X es u)
    (hs : (assignEach (e :: es) X.env).map (·.2) = assign e X.env :: (assignEach es X.env).map (·.2) := by rfl) : PGs X (e :: es) (gCons t u) := by
  intro pins s σ H vs us Q I r h
  obtain ⟨v, vr, e1, h⟩ := h
  subst e1
  cases r with
  | cons r rr =>
    rw [hs]
    refine assignInOrder_cons (thn (h1 pins s σ H _ _ _ I r h) fun _ s1 ⟨σ1, H1, I1, q1⟩ => ?_)
    exact h2 pins s1 σ1 H1 _ _ Q I1 rr q1
/-- (a, b, ..) = a tuple of that length -/
def gTup (K : PySem.W.Frag) (n : Nat) (t : TGs) : TG := fun v σ H Q => ∃ a xs, v = .ref a ∧ SqT K H a xs ∧ xs.length = n ∧ t xs σ H Q
theorem pg_tup {es : List Expr} {k : Nat} {t : TGs} {n : Nat} (hc : X.calm = true) (h : PGs X es t)
    (hn : (assignEach es X.env).length = n := by rfl) (hst : (assignEach es X.env).findIdx? (·.1) = none := by rfl) : PG X (.Tuple es k pos) (gTup X.K n t) := by
  intro pins s σ H v u Q I r hw
  obtain ⟨a, xs, e1, hq, hl, hw⟩ := hw
  subst e1
  cases r
  obtain ⟨its, rv, ht, hz⟩ := I.tuple hq
  refine assign_Tuple_tuple (I.ok.hd hc) ht (by simp [hn, ← hl, rv.length]) hst fun h' hx => ?_
  have I1 : Inv X pins σ H { s with heap := h' } := I.kept (t' := s.toks) fun b o e => hx b o (Nat.ne_of_lt (Heap.lt_size e)) e
  exact h pins _ σ H xs _ Q I1 (by simpa using rv) hw
/-- o[i] = .. -/
def gSub (to ti : TE) (t : TSet) : TG := fun v σ H Q => to σ H fun o H1 => ti σ H1 fun i H2 => t o i v H2 fun H3 => Q σ H3
theorem pg_sub {o i : Expr} {to ti : TE} {t : TSet} (ho : PE X o to) (hi : PE X i ti) (hs : PSet X t)
    (ha : ∀ v, assign (.Subscript o i pos) X.env v = (do
      let ov ← holding [v] (eval o X.env)
      let iv ← holding [v, ov] (eval i X.env)
      standAt pos
      holding [v, ov, iv] (setItem ov iv v)
      release [v, ov, iv] []) := by intro _; rfl) : PG X (.Subscript o i pos) (gSub to ti t) := by
  intro pins s σ H v u Q I r h
  rw [ha]
  refine wpAny_bind (wpAny_holding (thn (ho pins s σ H _ I h) fun ov s1 ⟨x, H1, I1, r1, q1⟩ => ?_))
  refine wpAny_bind (wpAny_holding (thn (hi pins s1 σ H1 _ I1 q1) fun iv s2 ⟨y, H2, I2, r2, q2⟩ => ?_))
  refine wpAny_bind (wpAny_standAt (wpAny_bind (wpAny_holding (thn (hs pins s2 σ H2 x y v ov iv u _ I2 r1 r2 r q2) fun _ s3 ⟨H3, I3, q3⟩ => ?_))))
  exact wpAny_release ⟨σ, H3, I3, q3⟩
/-- target = value -/
def tAsg (te : TE) (g : TG) : TS := fun D σ H => te σ H fun x H1 => g x σ H1 D.nx
theorem ps_asg {tg e : Expr} {te : TE} {g : TG} (he : PE X e te) (hg : PG X tg g) (hs : swapsWithSole [tg] e pos.line X.env = pure false := by rfl) (hw : swappedStores [tg] e X.env = pure none := by rfl)
    (h1 : (assignEach [tg] X.env).map (·.2) = [assign tg X.env] := by rfl) : PS X (.Assign [tg] e pos) (tAsg te g) := by
  intro pins s σ H D I h
  refine wpAny_Assign_stores (thn (he pins s σ H _ I h) fun v s1 ⟨x, H1, I1, r1, q1⟩ => ?_) hs hw
  rw [h1]
  exact thn (hg pins s1 σ H1 x v _ I1 r1 q1) fun _ s2 q => q
/-- name = value -/
theorem ps_set {i : Nat} {x : Str} {e : Expr} {te : TE} {pos' : Pos} (hN : X.N.Nodup) (hi : X.N[i]? = some x) (hx : Loc X.env.scope x) (he : PE X e te) (hs : swapsWith e (some (.Name x pos')) pos.line X.env = pure false := by rfl) (hf : X.fn x = true ∨ X.env.scope.names.lookup x = some .local := by first | exact .inl rfl | exact .inr rfl | assumption) :
    PS X (.Assign [.Name x pos'] e pos) (tAsg te (gName i)) := by
  intro pins s σ H D I h
  refine wpAny_Assign_Name (thn (he pins s σ H _ I h) fun v s1 ⟨y, H1, I1, r1, q1⟩ => ?_) hs
  exact store_ok I1 hN hi hx r1 (fun s2 I2 => ⟨_, H1, I2, q1⟩) hf
end

/-! ### while -/
section
variable {X : Cx} {pos : Pos}
/-- the invariant W with its measure -/
def tWhile (c : TT) (tb : TS) : TS := fun D σ H => ∃ W : Nat → St → Hp → Prop, (∃ m, W m σ H) ∧ ∀ m σ H, W m σ H →
  c σ H fun b H1 => if b = true then ∃ N : St → Hp → Prop, (∀ σ' H', N σ' H' → ∃ m', m' < m ∧ W m' σ' H') ∧ tb { D with nx := N, ct := N, bk := D.nx } σ H1 else D.nx σ H1
theorem ps_while {c : Expr} {body : List Stmt} {tc : TT} {tb : TS} (hp : PassesOwn (model X.prog X.w) X.A X.env X.xe) (hc : PT X c tc) (hb : PSs X body tb) : PS X (.While c body [] pos) (tWhile tc tb) := by
  intro pins s σ H D I h
  obtain ⟨W, ⟨m0, w0⟩, turn⟩ := h
  refine wpAny_While (codeAny_whileLoop (fun n s' => ∃ σ' H', Inv X pins σ' H' s' ∧ W n σ' H') ?_ m0 ⟨σ, H, I, w0⟩)
  rintro n s1 ⟨σ1, H1, I1, w1⟩
  refine wpAny_passesOwn hp (thn (hc pins s1 σ1 H1 _ I1 (turn n σ1 H1 w1)) fun b s2 ⟨H2, I2, q2⟩ => ?_)
  cases b with
  | true =>
    obtain ⟨N, hN, q2⟩ := q2
    rw [if_pos rfl]
    refine wpAny_passesOwn hp (thn (hb pins s2 σ1 H2 _ I2 q2) fun f s3 q3 => ?_)
    cases f with
    | next =>
      obtain ⟨σ3, H3, I3, n3⟩ := q3
      obtain ⟨m', hm, w3⟩ := hN σ3 H3 n3
      exact ⟨m', hm, σ3, H3, I3, w3⟩
    | cont =>
      obtain ⟨σ3, H3, I3, n3⟩ := q3
      obtain ⟨m', hm, w3⟩ := hN σ3 H3 n3
      exact ⟨m', hm, σ3, H3, I3, w3⟩
    | brk => exact q3
    | ret v => exact q3
  | false =>
    rw [if_neg Bool.false_ne_true]
    exact wpAny_execs_nil ⟨σ1, H2, I2, q2⟩
end

/-! ### what a loop or a comprehension walks -/
/-- at turn i: it yields x (the heap may grow), or it stops -/
structure It where
  go : Nat → Hp → Prop
  yld : Nat → Hp → V → Hp → Prop
  stop : Nat → Hp → Prop
/-- the iterator's own objects may turn: they are not the frame's, not pinned, younger than the entry (or a comprehension's own) -/
def FpOk (X : Cx) (pins : List (Addr × Obj)) (H : Hp) (b : Addr) : Prop :=
  H b = none ∧ b ≠ X.env.locals ∧ b ∉ X.fs ∧ (b ∈ X.ex ∨ X.s₀.heap.objs.size ≤ b) ∧ (∀ x c, X.env.cells.lookup x = some c → c ≠ b) ∧ ∀ p ∈ X.pn ++ pins, p.1 ≠ b
theorem Inv.fpOk {X : Cx} {pins : List (Addr × Obj)} {σ : St} {H H' : Hp} {s : Shared} {b : Addr} (I : Inv X pins σ H s) (hb : s.heap.objs.size ≤ b) (hn : H' b = none) : FpOk X pins H' b := by
  refine ⟨hn, Nat.ne_of_gt (Nat.lt_of_lt_of_le I.lt hb), I.nofs hb, .inr (Nat.le_trans I.sz hb), fun x c e z => ?_, fun p hp z => ?_⟩
  · obtain ⟨v, q⟩ := I.cell x c e
    exact absurd (Nat.lt_of_lt_of_le q.lt (by rw [z]; exact hb)) (Nat.lt_irrefl _)
  · exact absurd (Nat.lt_of_lt_of_le (Heap.lt_size (I.pin p hp).1) (by rw [z]; exact hb)) (Nat.lt_irrefl _)
structure Turn (P : Program) (w : World) (K : PySem.W.Frag) (tg : Expr) (J : It) (fp : List Addr) (it : Addr) (tn : Nat → Heap → Prop) : Prop where
  mem : it ∈ fp
  obj : ∀ i h, tn i h → ∀ b ∈ fp, ∃ o, h.get? b = some o ∧ ∀ v, o.data ≠ .cell v
  keep : ∀ i h h', tn i h → (∀ b ∈ fp, ∀ o, h.get? b = some o → h'.get? b = some o) → tn i h'
  item : ∀ (X : Cx), X.prog = P → X.w = w → X.K = K → X.calm = true → ∀ (i : Nat) (pins : List (Addr × Obj)) (s : Shared) (σ : St) (H : Hp) (E : Value → Shared → Prop), Inv X pins σ H s → (∀ b ∈ fp, FpOk X pins H b) → tn i s.heap → J.go i H →
    wpAny (model P w) X.A (pyNext (.ref it)) (fun r s1 => ∃ u, r = some u ∧
      wpAny (model P w) X.A (letOwnedTupleGo tg (.ref it) u) (fun _ s2 => ∃ x H', Inv X pins σ H' s2 ∧ RelV x u ∧ J.yld i H x H' ∧ tn (i + 1) s2.heap ∧ ∀ b ∈ fp, H' b = none) E s1) E s
  done : ∀ (X : Cx), X.prog = P → X.w = w → X.K = K → X.calm = true → ∀ (i : Nat) (pins : List (Addr × Obj)) (s : Shared) (σ : St) (H : Hp) (E : Value → Shared → Prop), Inv X pins σ H s → (∀ b ∈ fp, FpOk X pins H b) → tn i s.heap → J.stop i H →
    wpAny (model P w) X.A (pyNext (.ref it)) (fun r s1 => r = none ∧ Inv X pins σ H s1) E s
  self : ∀ (A : Around) (i : Nat) (s : Shared) (Q : Value → Shared → Prop) (E : Value → Shared → Prop), tn i s.heap → Q (.ref it) s → wpAny (model P w) A (pyIter (.ref it)) Q E s
abbrev TI := St → Hp → (It → Hp → Prop) → Prop
/-- an iterator has come -/
def PIE (X : Cx) (pins : List (Addr × Obj)) (σ : St) (tg : Expr) (R : It → Hp → Prop) (itv : Value) (s2 : Shared) : Prop :=
  ∃ (it : Addr) (fp : List Addr) (tn : Nat → Heap → Prop) (J : It) (H' : Hp), itv = .ref it ∧ Inv X pins σ H' s2 ∧ Turn X.prog X.w X.K tg J fp it tn ∧ tn 0 s2.heap ∧ (∀ b ∈ fp, FpOk X pins H' b) ∧ R J H'
def PI (X : Cx) (tg iter : Expr) (wi : TI) : Prop :=
  ∀ (pins : List (Addr × Obj)) (s : Shared) (σ : St) (H : Hp) (R : It → Hp → Prop), Inv X pins σ H s → wi σ H R →
    wpAny (model X.prog X.w) X.A (eval iter X.env) (fun v s1 => wpAny (model X.prog X.w) X.A (pyIter v) (PIE X pins σ tg R) X.xe s1) X.xe s

/-- the step ahead of the store is nothing for an iterator that keeps no tuple -/
theorem go_of {M : Model} {A : Around} {E : Value → Shared → Prop} {s : Shared} {tg : Expr} {it : Addr} {u : Value} {o : Obj} {n : String} {vs : Array Value} {Q : Unit → Shared → Prop} (ho : s.heap.get? it = some o) (hc : o.cls = .type n) (hd : o.data = .fields vs)
    (hn : ["enumerate", "zip", "dict_itemiterator", "dict_reverseitemiterator", "odict_iterator", "itertools.zip_longest", "itertools.pairwise"].contains n = false) (hQ : Q () s) : wpAny M A (letOwnedTupleGo tg (.ref it) u) Q E s := by
  unfold letOwnedTupleGo
  cases tg <;> first
    | exact wpAny_pure hQ
    | (cases u <;> first
        | exact wpAny_pure hQ
        | (refine wpAny_bind (wpAny_load ho ?_)
           rw [hc, hd]
           show wpAny M A (if (["enumerate", "zip", "dict_itemiterator", "dict_reverseitemiterator", "odict_iterator", "itertools.zip_longest", "itertools.pairwise"].contains n && vs[0]? == some (rawInt _)) = true then _ else _) Q E s
           rw [if_neg (by intro h; rw [hn, Bool.false_and] at h; cases h)]
           exact wpAny_pure hQ))

/-- the list at a, as it stands at each turn (a loop may append to it) -/
def Itl (K : PySem.W.Frag) (a : Addr) : It :=
  ⟨fun i H => ∃ xs x, SqL K H a xs ∧ xs[i]? = some x, fun i H x H' => H' = H ∧ ∀ xs, SqL K H a xs → xs[i]? = some x, fun i H => ∃ xs, SqL K H a xs ∧ xs.length ≤ i⟩
def Itt (K : PySem.W.Frag) (a : Addr) : It :=
  ⟨fun i H => ∃ xs x, SqT K H a xs ∧ xs[i]? = some x, fun i H x H' => H' = H ∧ ∀ xs, SqT K H a xs → xs[i]? = some x, fun i H => ∃ xs, SqT K H a xs ∧ xs.length ≤ i⟩
/-- lo, lo + 1, .. (n of them) -/
def Itr (lo : Int) (n : Nat) : It := ⟨fun i _ => i < n, fun i H x H' => H' = H ∧ x = .int (lo + i), fun i _ => n ≤ i⟩
theorem turn_list {P : Program} {w : World} {K : PySem.W.Frag} {tg : Expr} (a it : Addr) : Turn P w K tg (Itl K a) [it] it (fun i h => h.IsListIter it a i) where
  mem := by simp
  obj := fun i h st b hb => by
    have e : b = it := by simpa using hb
    subst e
    obtain ⟨o, e, c, d⟩ := st
    exact ⟨o, e, fun v z => by rw [d] at z; cases z⟩
  keep := fun i h h' st k => st.at fun o e => k it (by simp) o e
  item := by
    intro X hP hw hK hc i pins s σ H E I hf st hg
    subst hP hw hK
    obtain ⟨xs, x, hq, hx⟩ := hg
    obtain ⟨its, rv, p, hz⟩ := I.list hq
    obtain ⟨u, hu, ru⟩ := rv.get hx
    obtain ⟨f0, f1, f2, f3, f4, f5⟩ := hf it (by simp)
    refine wpAny_pyNext_list_item st p.isList (x := u) (by simpa using hu) fun h' st' sb => ?_
    have I1 : Inv X pins σ H { s with heap := h' } := I.turned (t' := s.toks) (fun b o hb e => (sb.2 b hb).trans e) f0 f1 f3 f4 f5
    obtain ⟨o, e, c, d⟩ := id st'
    exact ⟨u, rfl, go_of (s := { s with heap := h' }) e c d (by decide) ⟨x, H, I1, ru, ⟨rfl, fun ys hy => by rw [I.list_inj hy hq]; exact hx⟩, st', fun b hb => (hf b hb).1⟩⟩
  done := by
    intro X hP hw hK hc i pins s σ H E I hf st hg
    subst hP hw hK
    obtain ⟨xs, hq, hx⟩ := hg
    obtain ⟨its, rv, p, hz⟩ := I.list hq
    obtain ⟨f0, f1, f2, f3, f4, f5⟩ := hf it (by simp)
    have hl := rv.length
    exact wpAny_pyNext_list_end (I.ok.hd hc) st p.isList (by simp; (first | lia | omega)) fun h' eb => ⟨rfl, I.turned (t' := s.toks) (fun b o hb e => eb b o hb e) f0 f1 f3 f4 f5⟩
  self := fun _ _ _ _ _ st h => wpAny_pyIter_listiter st h
theorem turn_tuple {P : Program} {w : World} {K : PySem.W.Frag} {tg : Expr} (a it : Addr) : Turn P w K tg (Itt K a) [it] it (fun i h => h.IsTupleIter it a i) where
  mem := by simp
  obj := fun i h st b hb => by
    have e : b = it := by simpa using hb
    subst e
    obtain ⟨o, e, c, d⟩ := st
    exact ⟨o, e, fun v z => by rw [d] at z; cases z⟩
  keep := fun i h h' st k => st.at fun o e => k it (by simp) o e
  item := by
    intro X hP hw hK hc i pins s σ H E I hf st hg
    subst hP hw hK
    obtain ⟨xs, x, hq, hx⟩ := hg
    obtain ⟨its, rv, p, hz⟩ := I.tuple hq
    obtain ⟨u, hu, ru⟩ := rv.get hx
    obtain ⟨f0, f1, f2, f3, f4, f5⟩ := hf it (by simp)
    refine wpAny_pyNext_tuple_item st (show s.heap.IsTuple a its.toArray from p) (x := u) (by simpa using hu) fun h' st' sb => ?_
    have I1 : Inv X pins σ H { s with heap := h' } := I.turned (t' := s.toks) (fun b o hb e => (sb.2 b hb).trans e) f0 f1 f3 f4 f5
    obtain ⟨o, e, c, d⟩ := id st'
    exact ⟨u, rfl, go_of (s := { s with heap := h' }) e c d (by decide) ⟨x, H, I1, ru, ⟨rfl, fun ys hy => by rw [I.tuple_inj hy hq]; exact hx⟩, st', fun b hb => (hf b hb).1⟩⟩
  done := by
    intro X hP hw hK hc i pins s σ H E I hf st hg
    subst hP hw hK
    obtain ⟨xs, hq, hx⟩ := hg
    obtain ⟨its, rv, p, hz⟩ := I.tuple hq
    obtain ⟨f0, f1, f2, f3, f4, f5⟩ := hf it (by simp)
    have hl := rv.length
    exact wpAny_pyNext_tuple_end (I.ok.hd hc) st (show s.heap.IsTuple a its.toArray from p) (by simp; (first | lia | omega)) fun h' eb => ⟨rfl, I.turned (t' := s.toks) (fun b o hb e => eb b o hb e) f0 f1 f3 f4 f5⟩
  self := fun _ _ _ _ _ st h => wpAny_pyIter_tupleiter st h
theorem turn_range {P : Program} {w : World} {K : PySem.W.Frag} {tg : Expr} (it : Addr) (lo : Int) (n : Nat) : Turn P w K tg (Itr lo n) [it] it (fun i h => IsRangeIter h it (lo + (i : Nat) * 1) ((n : Int) - (i : Nat)) 1) where
  mem := by simp
  obj := fun i h st b hb => by
    have e : b = it := by simpa using hb
    subst e
    exact ⟨_, st, fun v z => by
      have z' : Data.fields _ = Data.cell v := z
      cases z'⟩
  keep := fun i h h' st k => k it (by simp) _ st
  item := by
    intro X hP hw hK hc i pins s σ H E I hf st hg
    subst hP hw hK
    obtain ⟨f0, f1, f2, f3, f4, f5⟩ := hf it (by simp)
    have W := Walks.range (prog := X.prog) (w := X.w) (I.ok.hd hc) it lo 1 n
    refine W.item i s _ _ hg st fun v h' tk hv st' kk => ?_
    obtain ⟨t, rfl⟩ := hv
    have I1 : Inv X pins σ H { s with heap := h', toks := tk } := I.turned (fun b o hb e => kk b o (by simpa using hb) e) f0 f1 f3 f4 f5
    refine ⟨_, rfl, go_of (s := { s with heap := h', toks := tk }) (n := "range_iterator") st' rfl rfl (by decide) ⟨.int (lo + i), H, I1, ⟨t, ?_⟩, ⟨rfl, rfl⟩, st', fun b hb => (hf b hb).1⟩⟩
    rw [Int.mul_one]
  done := by
    intro X hP hw hK hc i pins s σ H E I hf st hg
    subst hP hw hK
    obtain ⟨f0, f1, f2, f3, f4, f5⟩ := hf it (by simp)
    exact wpAny_pyNext_range_end (I.ok.hd hc) st (by have : n ≤ i := hg; (first | lia | omega)) fun h' eb => ⟨rfl, I.turned (t' := s.toks) (fun b o hb e => eb b o hb e) f0 f1 f3 f4 f5⟩
  self := fun _ _ _ _ _ st h => wpAny_pyIter_rangeiter st h
end L2

namespace L2
open PySem PySem.Spec PyProof.Rows
section
variable {X : Cx} {tg : Expr}
def iList (K : PySem.W.Frag) (tl : TE) : TI := fun σ H R => tl σ H fun x H1 => ∃ a, x = .ref a ∧ (∃ xs, SqL K H1 a xs) ∧ R (Itl K a) H1
def iTup (K : PySem.W.Frag) (tl : TE) : TI := fun σ H R => tl σ H fun x H1 => ∃ a, x = .ref a ∧ (∃ xs, SqT K H1 a xs) ∧ R (Itt K a) H1
theorem pi_list {l : Expr} {tl : TE} (hl : PE X l tl) : PI X tg l (iList X.K tl) := by
  intro pins s σ H R I h
  refine thn (hl pins s σ H _ I h) fun v s1 ⟨x, H1, I1, r1, q1⟩ => ?_
  obtain ⟨a, e, ⟨xs, hq⟩, q⟩ := q1
  subst e
  cases r1
  obtain ⟨its, rv, p, hz⟩ := I1.list hq
  refine wpAny_pyIter_list p.isList ?_
  refine ⟨s1.heap.objs.size, [s1.heap.objs.size], _, _, H1, rfl, I1.kept (t' := s1.toks) fun b o e => Heap.get?_push_of_some _ e, turn_list a _, ⟨_, Heap.get?_push_size _ rfl, rfl, rfl⟩, fun b hb => ?_, q⟩
  have e : b = s1.heap.objs.size := by simpa using hb
  subst e
  exact I1.fpOk (Nat.le_refl _) (I1.hok.fresh (Nat.le_refl _))
theorem pi_tup {l : Expr} {tl : TE} (hl : PE X l tl) : PI X tg l (iTup X.K tl) := by
  intro pins s σ H R I h
  refine thn (hl pins s σ H _ I h) fun v s1 ⟨x, H1, I1, r1, q1⟩ => ?_
  obtain ⟨a, e, ⟨xs, hq⟩, q⟩ := q1
  subst e
  cases r1
  obtain ⟨its, rv, p, hz⟩ := I1.tuple hq
  refine wpAny_pyIter_tuple (show s1.heap.IsTuple a its.toArray from p) ?_
  refine ⟨s1.heap.objs.size, [s1.heap.objs.size], _, _, H1, rfl, I1.kept (t' := s1.toks) fun b o e => Heap.get?_push_of_some _ e, turn_tuple a _, ⟨_, Heap.get?_push_size _ rfl, rfl, rfl⟩, fun b hb => ?_, q⟩
  have e : b = s1.heap.objs.size := by simpa using hb
  subst e
  exact I1.fpOk (Nat.le_refl _) (I1.hok.fresh (Nat.le_refl _))
/-- a range object just made, walked -/
theorem range_it {pins : List (Addr × Obj)} {σ : St} {H : Hp} {s : Shared} {R : It → Hp → Prop} {E : Value → Shared → Prop} {lo hi : Int} {t u v : Tok} {tk : Nat} (I : Inv X pins σ H s) (h1 : -(2 ^ 62) ≤ lo) (h2 : lo < 2 ^ 62) (h3 : -(2 ^ 62) ≤ hi) (h4 : hi < 2 ^ 62)
    (q : R (Itr lo (hi - lo).toNat) H) : wpAny (model X.prog X.w) X.A (pyIter (.ref s.heap.objs.size)) (PIE X pins σ tg R) E { s with heap := s.heap.push { cls := .type "range", data := .fields #[.int lo t, .int hi u, .int 1 v] }, toks := tk } := by
  refine wpAny_pyIter_range (IsRange.new ..) (small_one h1 h2 h3 h4) ?_
  have I1 : Inv X pins σ H { s with heap := s.heap.push { cls := .type "range", data := .fields #[.int lo t, .int hi u, .int 1 v] }, toks := tk } := I.kept fun b o e => Heap.get?_push_of_some _ e
  refine ⟨(s.heap.push { cls := .type "range", data := .fields #[.int lo t, .int hi u, .int 1 v] }).objs.size, [(s.heap.push { cls := .type "range", data := .fields #[.int lo t, .int hi u, .int 1 v] }).objs.size], _, _, H, rfl,
    I1.kept (t' := tk) fun b o e => Heap.get?_push_of_some _ e, turn_range _ lo (hi - lo).toNat, ?_, fun b hb => ?_, q⟩
  · have e1 : lo + ((0 : Nat) : Int) * 1 = lo := by simp
    have e2 : (((hi - lo).toNat : Nat) : Int) - ((0 : Nat) : Int) = Builtin.Range.rangeSize lo hi 1 := by rw [rangeSize_one]; split <;> (first | lia | omega)
    show IsRangeIter _ _ (lo + ((0 : Nat) : Int) * 1) ((((hi - lo).toNat : Nat) : Int) - ((0 : Nat) : Int)) 1
    rw [e1, e2]
    exact Heap.get?_push_size _ rfl
  · have e : b = (s.heap.push { cls := .type "range", data := .fields #[.int lo t, .int hi u, .int 1 v] }).objs.size := by simpa using hb
    subst e
    exact I1.fpOk (Nat.le_refl _) (I1.hok.fresh (Nat.le_refl _))
def iRng1 (ta : TA) : TI := fun σ H R => ta σ H fun vs H1 => ∃ j : Int, vs = [.int j] ∧ -(2 ^ 62) ≤ j ∧ j < 2 ^ 62 ∧ R (Itr 0 j.toNat) H1
theorem pi_range1 {a : Expr} {ta : TA} {p pos : Pos} (hg : Gl X "range") (hm : X.mg "range" = none) (ha : PA X [a] ta) (hs : starEach [a] X.env = [(false, eval a X.env)] := by rfl) : PI X tg (.Call (.Name "range" p) [a] [] pos) (iRng1 ta) := by
  intro pins s σ H R I h
  refine Call_ (ld_blt I hg hm boot_range (PyProof.Rows.callWith_type1 (thn (ha pos pins s σ H _ I h) fun us s1 ⟨vs, H1, I1, r1, q1⟩ => ?_) hs rfl))
  obtain ⟨j, e, q1, q2, q⟩ := q1
  subst e
  cases r1 with
  | cons r rr =>
    cases rr
    obtain ⟨t, rfl⟩ := r
    exact call_range_1 (range_it I1 (by (first | lia | omega)) (by (first | lia | omega)) q1 q2 (by simpa using q))
/-! ### for -/
/-- W: the invariant by the turn and a measure; N: what the body is to reach -/
def tFor (wi : TI) (g : TG) (tb : TS) : TS := fun D σ H => wi σ H fun J H1 => ∃ W : Nat → Nat → St → Hp → Prop, (∃ m, W 0 m σ H1) ∧ ∀ i m σ H, W i m σ H →
  (J.stop i H ∧ D.nx σ H) ∨ (J.go i H ∧ ∃ N : St → Hp → Prop, (∀ σ' H', N σ' H' → ∃ m', m' < m ∧ W (i + 1) m' σ' H') ∧ ∀ x H', J.yld i H x H' → g x σ H' fun σ2 H2 => tb { D with nx := N, ct := N, bk := D.nx } σ2 H2)
/-- the records at fp as they stand -/
def pinsAt (fp : List Addr) (h : Heap) : List (Addr × Obj) := fp.filterMap fun b => (h.get? b).map fun o => (b, o)
theorem mem_pinsAt {fp : List Addr} {h : Heap} {b : Addr} {o : Obj} (hb : b ∈ fp) (e : h.get? b = some o) : (b, o) ∈ pinsAt fp h := List.mem_filterMap.mpr ⟨b, hb, by rw [e]; rfl⟩
theorem of_pinsAt {fp : List Addr} {h : Heap} {p : Addr × Obj} (hp : p ∈ pinsAt fp h) : p.1 ∈ fp ∧ h.get? p.1 = some p.2 := by
  obtain ⟨b, hb, e⟩ := List.mem_filterMap.mp hp
  cases q : h.get? b with
  | none => rw [q] at e; cases e
  | some o =>
    rw [q] at e
    have e' : (b, o) = p := Option.some.inj e
    subst e'
    exact ⟨hb, q⟩
theorem Inv.pinned {pins : List (Addr × Obj)} {σ : St} {H : Hp} {s : Shared} {fp : List Addr} (I : Inv X pins σ H s) (hf : ∀ b ∈ fp, FpOk X pins H b) (ho : ∀ b ∈ fp, ∃ o, s.heap.get? b = some o ∧ ∀ v, o.data ≠ .cell v) : Inv X (pins ++ pinsAt fp s.heap) σ H s :=
  I.pins_of fun p hp => (List.mem_append.mp hp).elim (fun z => I.pin p (List.mem_append_right _ z)) fun z => by
    obtain ⟨hb, e⟩ := of_pinsAt z
    obtain ⟨f0, f1, f2, _⟩ := hf p.1 hb
    obtain ⟨o, e', d⟩ := ho p.1 hb
    rw [e] at e'; cases e'
    exact ⟨e, f0, f1, f2, d⟩
theorem Inv.unpinned {pins pl : List (Addr × Obj)} {σ : St} {H : Hp} {s : Shared} (I : Inv X (pins ++ pl) σ H s) : Inv X pins σ H s := I.pins_of fun p hp => I.pin p (List.mem_append_right _ (List.mem_append_left _ hp))
theorem ps_for {iter : Expr} {body : List Stmt} {wi : TI} {g : TG} {tb : TS} {pos : Pos} (hp : PassesOwn (model X.prog X.w) X.A X.env X.xe) (hc : X.calm = true) (hi : PI X tg iter wi) (hg : PG X tg g) (hb : PSs X body tb)
    (hs : ∀ x, foldedSetIterable iter X.env x = pure x := by intro _; rfl) : PS X (.For tg iter body [] pos) (tFor wi g tb) := by
  intro pins s σ H D I h
  refine wpAny_For (thn (hi pins s σ H _ I h) fun v s1 h1 => thn h1 fun itv s2 h2 => ?_) hs
  obtain ⟨it, fp, tn, J, H2, e, I2, T, st2, f2, W, ⟨m0, w0⟩, turn⟩ := h2
  subst e
  -- what stays true of the iterator's objects through the loop
  have stat : ∀ {H' : Hp}, (∀ b ∈ fp, H' b = none) → ∀ b ∈ fp, FpOk X pins H' b := fun hn b hb => ⟨hn b hb, (f2 b hb).2⟩
  refine codeAny_forLoop_any (fun n s' => ∃ i σ' H', Inv X pins σ' H' s' ∧ tn i s'.heap ∧ (∀ b ∈ fp, H' b = none) ∧ W i n σ' H') ?_ m0 ⟨0, σ, H2, I2, st2, fun b hb => (f2 b hb).1, w0⟩
  rintro n s3 ⟨i, σ3, H3, I3, st3, fr3, w3⟩
  rcases turn i n σ3 H3 w3 with ⟨stop, qn⟩ | ⟨go, N, hN, step⟩
  · refine wpAny_passesOwn hp (thn (T.done X rfl rfl rfl hc i pins s3 σ3 H3 X.xe I3 (stat fr3) st3 stop) fun r s4 ⟨hr, I4⟩ => ?_)
    subst hr
    exact wpAny_execs_nil ⟨σ3, H3, I4, qn⟩
  · refine wpAny_passesOwn hp (thn (T.item X rfl rfl rfl hc i pins s3 σ3 H3 X.xe I3 (stat fr3) st3 go) fun r s4 ⟨u, hr, h4⟩ => ?_)
    subst hr
    refine wpAny_passesOwn hp (thn h4 fun _ s5 ⟨x, H5, I5, r5, y5, st5, fr5⟩ => ?_)
    have I5' := I5.pinned (stat fr5) (T.obj _ _ st5)
    refine wpAny_passesOwn hp (thn (hg _ s5 σ3 H5 x u _ I5' r5 (step x H5 y5)) fun _ s6 ⟨σ6, H6, I6, q6⟩ => ?_)
    refine wpAny_passesOwn hp (thn (hb _ s6 σ6 H6 _ I6 q6) fun f s7 q7 => ?_)
    have again : ∀ {σ7 : St} {H7 : Hp}, Inv X (pins ++ pinsAt fp s5.heap) σ7 H7 s7 → N σ7 H7 → ∃ m, m < n ∧ ∃ i σ' H', Inv X pins σ' H' s7 ∧ tn i s7.heap ∧ (∀ b ∈ fp, H' b = none) ∧ W i m σ' H' := fun {σ7 H7} I7 n7 => by
      obtain ⟨m', hm, w7⟩ := hN σ7 H7 n7
      refine ⟨m', hm, i + 1, σ7, H7, I7.unpinned, T.keep _ _ _ st5 fun b hb o e => (I7.pin (b, o) (List.mem_append_right _ (List.mem_append_right _ (mem_pinsAt hb e)))).1, fun b hb => ?_, w7⟩
      obtain ⟨o, e, d⟩ := T.obj _ _ st5 b hb
      exact (I7.pin (b, o) (List.mem_append_right _ (List.mem_append_right _ (mem_pinsAt hb e)))).2.1
    cases f with
    | next => obtain ⟨σ7, H7, I7, n7⟩ := q7; exact again I7 n7
    | cont => obtain ⟨σ7, H7, I7, n7⟩ := q7; exact again I7 n7
    | brk => obtain ⟨σ7, H7, I7, q7⟩ := q7; exact ⟨σ7, H7, I7.unpinned, q7⟩
    | ret v => obtain ⟨x7, σ7, H7, I7, r7, q7⟩ := q7; exact ⟨x7, σ7, H7, I7.unpinned, r7, q7⟩
end

/-! ### the forms one uses -/
/-- over a list that the body leaves as it is -/
theorem for_list {K : PySem.W.Frag} {a : Addr} {xs : List V} {g : TG} {tb : TS} {D : Ends} {σ : St} {H : Hp} (Pv : Nat → St → Hp → Prop) (h0 : Pv 0 σ H) (hl : ∀ i σ H, i ≤ xs.length → Pv i σ H → SqL K H a xs)
    (hs : ∀ i x σ H, xs[i]? = some x → Pv i σ H → g x σ H fun σ2 H2 => tb { D with nx := Pv (i + 1), ct := Pv (i + 1), bk := D.nx } σ2 H2) (hd : ∀ σ H, Pv xs.length σ H → D.nx σ H) :
    ∃ W : Nat → Nat → St → Hp → Prop, (∃ m, W 0 m σ H) ∧ ∀ i m σ H, W i m σ H →
      ((Itl K a).stop i H ∧ D.nx σ H) ∨ ((Itl K a).go i H ∧ ∃ N : St → Hp → Prop, (∀ σ' H', N σ' H' → ∃ m', m' < m ∧ W (i + 1) m' σ' H') ∧ ∀ x H', (Itl K a).yld i H x H' → g x σ H' fun σ2 H2 => tb { D with nx := N, ct := N, bk := D.nx } σ2 H2) := by
  refine ⟨fun i m σ H => m = xs.length - i ∧ i ≤ xs.length ∧ Pv i σ H, ⟨xs.length, by simp, Nat.zero_le _, h0⟩, ?_⟩
  rintro i m σ H ⟨rfl, hi, p⟩
  have q := hl i σ H hi p
  by_cases hlt : i < xs.length
  · refine .inr ⟨⟨xs, xs[i], q, by simp [hlt]⟩, Pv (i + 1), fun σ' H' p' => ⟨xs.length - (i + 1), by (first | lia | omega), rfl, hlt, p'⟩, fun x H' y => ?_⟩
    obtain ⟨e, y⟩ := y
    subst e
    exact hs i x σ _ (y xs q) p
  · have e : i = xs.length := by (first | lia | omega)
    subst e
    exact .inl ⟨⟨xs, q, Nat.le_refl _⟩, hd σ H p⟩
theorem for_tup {K : PySem.W.Frag} {a : Addr} {xs : List V} {g : TG} {tb : TS} {D : Ends} {σ : St} {H : Hp} (Pv : Nat → St → Hp → Prop) (h0 : Pv 0 σ H) (hl : ∀ i σ H, i ≤ xs.length → Pv i σ H → SqT K H a xs)
    (hs : ∀ i x σ H, xs[i]? = some x → Pv i σ H → g x σ H fun σ2 H2 => tb { D with nx := Pv (i + 1), ct := Pv (i + 1), bk := D.nx } σ2 H2) (hd : ∀ σ H, Pv xs.length σ H → D.nx σ H) :
    ∃ W : Nat → Nat → St → Hp → Prop, (∃ m, W 0 m σ H) ∧ ∀ i m σ H, W i m σ H →
      ((Itt K a).stop i H ∧ D.nx σ H) ∨ ((Itt K a).go i H ∧ ∃ N : St → Hp → Prop, (∀ σ' H', N σ' H' → ∃ m', m' < m ∧ W (i + 1) m' σ' H') ∧ ∀ x H', (Itt K a).yld i H x H' → g x σ H' fun σ2 H2 => tb { D with nx := N, ct := N, bk := D.nx } σ2 H2) := by
  refine ⟨fun i m σ H => m = xs.length - i ∧ i ≤ xs.length ∧ Pv i σ H, ⟨xs.length, by simp, Nat.zero_le _, h0⟩, ?_⟩
  rintro i m σ H ⟨rfl, hi, p⟩
  have q := hl i σ H hi p
  by_cases hlt : i < xs.length
  · refine .inr ⟨⟨xs, xs[i], q, by simp [hlt]⟩, Pv (i + 1), fun σ' H' p' => ⟨xs.length - (i + 1), by (first | lia | omega), rfl, hlt, p'⟩, fun x H' y => ?_⟩
    obtain ⟨e, y⟩ := y
    subst e
    exact hs i x σ _ (y xs q) p
  · have e : i = xs.length := by (first | lia | omega)
    subst e
    exact .inl ⟨⟨xs, q, Nat.le_refl _⟩, hd σ H p⟩
theorem for_range {lo : Int} {n : Nat} {g : TG} {tb : TS} {D : Ends} {σ : St} {H : Hp} (Pv : Nat → St → Hp → Prop) (h0 : Pv 0 σ H)
    (hs : ∀ i σ H, i < n → Pv i σ H → g (.int (lo + i)) σ H fun σ2 H2 => tb { D with nx := Pv (i + 1), ct := Pv (i + 1), bk := D.nx } σ2 H2) (hd : ∀ σ H, Pv n σ H → D.nx σ H) :
    ∃ W : Nat → Nat → St → Hp → Prop, (∃ m, W 0 m σ H) ∧ ∀ i m σ H, W i m σ H →
      ((Itr lo n).stop i H ∧ D.nx σ H) ∨ ((Itr lo n).go i H ∧ ∃ N : St → Hp → Prop, (∀ σ' H', N σ' H' → ∃ m', m' < m ∧ W (i + 1) m' σ' H') ∧ ∀ x H', (Itr lo n).yld i H x H' → g x σ H' fun σ2 H2 => tb { D with nx := N, ct := N, bk := D.nx } σ2 H2) := by
  refine ⟨fun i m σ H => m = n - i ∧ i ≤ n ∧ Pv i σ H, ⟨n, by simp, Nat.zero_le _, h0⟩, ?_⟩
  rintro i m σ H ⟨rfl, hi, p⟩
  by_cases hlt : i < n
  · refine .inr ⟨hlt, Pv (i + 1), fun σ' H' p' => ⟨n - (i + 1), by (first | lia | omega), rfl, hlt, p'⟩, fun x H' y => ?_⟩
    obtain ⟨e, y⟩ := y
    subst e y
    exact hs i σ _ hlt p
  · have e : i = n := by (first | lia | omega)
    subst e
    exact .inl ⟨Nat.le_refl _, hd σ H p⟩
end L2

namespace L2
open PySem PySem.Spec PyProof.Rows

abbrev R2 := V → V → Hp → VK → Prop
/-- a two-place operation on values: f is binaryOp op, inplaceOp op or compareOp op -/
def OpR (X : Cx) (f : Value → Value → Sem Value) (r : R2) : Prop :=
  ∀ (pins : List (Addr × Obj)) (s : Shared) (σ : St) (H : Hp) (x y : V) (v u : Value) (Q : VK), Inv X pins σ H s → RelV x v → RelV y u → r x y H Q →
    wpAny (model X.prog X.w) X.A (f v u) (EP X pins σ Q) X.xe s
/-- a one-place operation -/
def UnR (X : Cx) (f : Value → Sem Value) (r : V → Hp → VK → Prop) : Prop :=
  ∀ (pins : List (Addr × Obj)) (s : Shared) (σ : St) (H : Hp) (x : V) (v : Value) (Q : VK), Inv X pins σ H s → RelV x v → r x H Q →
    wpAny (model X.prog X.w) X.A (f v) (EP X pins σ Q) X.xe s
/-- a call of a value that is known (a builtin, a type) with values -/
def CallR (X : Cx) (f : Value) (r : List V → Hp → VK → Prop) : Prop :=
  ∀ (pins : List (Addr × Obj)) (s : Shared) (σ : St) (H : Hp) (xs : List V) (us : List Value) (Q : VK), Inv X pins σ H s → Vals xs us → r xs H Q →
    wpAny (model X.prog X.w) X.A (call f us) (EP X pins σ Q) X.xe s
/-- a value's truth -/
def TruR (X : Cx) (r : V → Hp → (Bool → Hp → Prop) → Prop) : Prop :=
  ∀ (pins : List (Addr × Obj)) (s : Shared) (σ : St) (H : Hp) (x : V) (v : Value) (Q : Bool → Hp → Prop), Inv X pins σ H s → RelV x v → r x H Q →
    wpAny (model X.prog X.w) X.A (truthy v) (TP X pins σ Q) X.xe s

def tOp (r : R2) (ta tb : TE) : TE := fun σ H Q => ta σ H fun x H1 => tb σ H1 fun y H2 => r x y H2 Q
def tUn (r : V → Hp → VK → Prop) (ta : TE) : TE := fun σ H Q => ta σ H fun x H1 => r x H1 Q
/-- ints in, under C, and a value out -/
def rI (C : Int → Int → Prop) (g : Int → Int → V) : R2 := fun x y H Q => ∃ i j, x = .int i ∧ y = .int j ∧ C i j ∧ Q (g i j) H
def rI0 (g : Int → Int → V) : R2 := fun x y H Q => ∃ i j, x = .int i ∧ y = .int j ∧ Q (g i j) H
def rU (g : Int → V) : V → Hp → VK → Prop := fun x H Q => ∃ i, x = .int i ∧ Q (g i) H

section
variable {X : Cx} {a b c : Expr} {ta tb tc : TE} {pos : Pos}

theorem binT (ha : PE X a ta) (hb : PE X b tb) {pins : List (Addr × Obj)} {s : Shared} {σ : St} {H : Hp} {R : V → V → Hp → Prop} (I : Inv X pins σ H s)
    (h : ta σ H fun x H1 => tb σ H1 fun y H2 => R x y H2) {Q : Value → Shared → Prop} {f : Value → Value → Sem Value}
    (hf : ∀ v u s2 x y H2, Inv X pins σ H2 s2 → RelV x v → RelV y u → R x y H2 → wpAny (model X.prog X.w) X.A (f v u) Q X.xe s2) :
    wpAny (model X.prog X.w) X.A (eval a X.env) (fun v s₁ => wpAny (model X.prog X.w) X.A (eval b X.env) (fun u s₂ => wpAny (model X.prog X.w) X.A (f v u) Q X.xe s₂) X.xe s₁) X.xe s := by
  refine thn (ha pins s σ H _ I h) fun v s1 ⟨x, H1, I1, r1, q1⟩ => ?_
  refine thn (hb pins s1 σ H1 _ I1 q1) fun u s2 ⟨y, H2, I2, r2, q2⟩ => ?_
  exact hf v u s2 x y H2 I2 r1 r2 q2

theorem pe_op {op : Operator} {r : R2} (ho : OpR X (binaryOp op) r) (ha : PE X a ta) (hb : PE X b tb) : PE X (.BinOp a op b pos) (tOp r ta tb) := by
  intro pins s σ H Q I h
  exact wpAny_BinOp (binT ha hb I h fun v u s2 x y H2 I2 rx ry q => ho pins s2 σ H2 x y v u Q I2 rx ry q)
theorem pe_un {op : UnaryOp} {r : V → Hp → VK → Prop} (ho : UnR X (unaryOp op) r) (ha : PE X a ta) : PE X (.UnaryOp op a pos) (tUn r ta) := by
  intro pins s σ H Q I h
  exact UnaryOp_ (thn (ha pins s σ H _ I h) fun v s1 ⟨x, H1, I1, r1, q1⟩ => ho pins s1 σ H1 x v Q I1 r1 q1)
/-! ### ints -/
theorem opI {f : Value → Value → Sem Value} {C : Int → Int → Prop} {g : Int → Int → Int}
    (rule : ∀ (i j : Int) (t u : Tok) (s : Shared) (Q : Value → Shared → Prop) (E : Value → Shared → Prop), C i j → Q (.int (g i j) s.toks) { s with toks := s.toks + 1 } → wpAny (model X.prog X.w) X.A (f (.int i t) (.int j u)) Q E s) :
    OpR X f (rI C fun i j => .int (g i j)) := by
  intro pins s σ H x y v u Q I rx ry h
  obtain ⟨i, j, rfl, rfl, hc, q⟩ := h
  obtain ⟨t, rfl⟩ := rx
  obtain ⟨t', rfl⟩ := ry
  exact rule i j t t' s _ _ hc ⟨.int (g i j), H, I.tok _, ⟨_, rfl⟩, q⟩
theorem opI0 {f : Value → Value → Sem Value} {g : Int → Int → Int}
    (rule : ∀ (i j : Int) (t u : Tok) (s : Shared) (Q : Value → Shared → Prop) (E : Value → Shared → Prop), Q (.int (g i j) s.toks) { s with toks := s.toks + 1 } → wpAny (model X.prog X.w) X.A (f (.int i t) (.int j u)) Q E s) :
    OpR X f (rI0 fun i j => .int (g i j)) := by
  intro pins s σ H x y v u Q I rx ry h
  obtain ⟨i, j, rfl, rfl, q⟩ := h
  obtain ⟨t, rfl⟩ := rx
  obtain ⟨t', rfl⟩ := ry
  exact rule i j t t' s _ _ ⟨.int (g i j), H, I.tok _, ⟨_, rfl⟩, q⟩
theorem opB0 {f : Value → Value → Sem Value} {g : Int → Int → Bool}
    (rule : ∀ (i j : Int) (t u : Tok) (s : Shared) (Q : Value → Shared → Prop) (E : Value → Shared → Prop), Q (.bool (g i j)) s → wpAny (model X.prog X.w) X.A (f (.int i t) (.int j u)) Q E s) :
    OpR X f (rI0 fun i j => .bl (g i j)) := by
  intro pins s σ H x y v u Q I rx ry h
  obtain ⟨i, j, rfl, rfl, q⟩ := h
  obtain ⟨t, rfl⟩ := rx
  obtain ⟨t', rfl⟩ := ry
  exact rule i j t t' s _ _ ⟨.bl (g i j), H, I, rfl, q⟩

def CDiv (i j : Int) : Prop := 0 < j ∧ j < 1073741824
def CPow (i j : Int) : Prop := 0 ≤ j ∧ j ≤ 1000000 ∧ i.natAbs < 2 ^ 64
def CMul (i j : Int) : Prop := (-(2 ^ 64) < i ∧ i < 2 ^ 64) ∨ (-(2 ^ 64) < j ∧ j < 2 ^ 64)
theorem CMul.ok {i j : Int} (h : CMul i j) : IntMulOk i j := by
  rcases h with ⟨h1, h2⟩ | ⟨h1, h2⟩
  · exact .of_left (intBits_le_64 h1 h2)
  · exact .of_right (intBits_le_64 h1 h2)
theorem op_add : OpR X (binaryOp .Add) (rI0 fun i j => .int (i + j)) := opI0 fun _ _ _ _ _ _ _ q => add_int q
theorem op_sub : OpR X (binaryOp .Sub) (rI0 fun i j => .int (i - j)) := opI0 fun _ _ _ _ _ _ _ q => sub_int q
theorem op_mul : OpR X (binaryOp .Mult) (rI CMul fun i j => .int (i * j)) := opI fun _ _ _ _ _ _ _ hc q => mul_int q hc.ok
/-- // by a positive divisor -/
theorem op_fdiv : OpR X (binaryOp .FloorDiv) (rI CDiv fun i j => .int (i / j)) := opI fun i j _ _ _ _ _ hc q => by
  have h1 : (0 : Int) < j := hc.1
  have h2 : j < 1073741824 := hc.2
  exact floordiv_int (by (first | lia | omega)) (by rw [Int.fdiv_eq_ediv_of_nonneg i (by (first | lia | omega))]; exact q) (.inl (PyProof.noPylong_small (by (first | lia | omega))))
/-- % by a positive divisor of any size -/
theorem op_mod : OpR X (binaryOp .Mod) (rI (fun _ j => 0 < j) fun i j => .int (i % j)) := opI fun i j _ _ _ _ _ hc q => by
  have h1 : (0 : Int) < j := hc
  exact mod_int' (by (first | lia | omega)) (by rw [Int.fmod_eq_emod_of_nonneg i (by (first | lia | omega))]; exact q)
theorem op_pow : OpR X (binaryOp .Pow) (rI CPow fun i j => .int (i ^ j.toNat)) := opI fun _ _ _ _ _ _ _ hc q => pow_int_small hc.1 hc.2.1 hc.2.2 q
theorem unI {f : Value → Sem Value} {g : Int → Int}
    (rule : ∀ (i : Int) (t : Tok) (s : Shared) (Q : Value → Shared → Prop) (E : Value → Shared → Prop), Q (.int (g i) s.toks) { s with toks := s.toks + 1 } → wpAny (model X.prog X.w) X.A (f (.int i t)) Q E s) :
    UnR X f (rU fun i => .int (g i)) := by
  intro pins s σ H x v Q I rx h
  obtain ⟨i, rfl, q⟩ := h
  obtain ⟨t, rfl⟩ := rx
  exact rule i t s _ _ ⟨.int (g i), H, I.tok _, ⟨_, rfl⟩, q⟩
theorem un_neg : UnR X (unaryOp .USub) (rU fun i => .int (-i)) := unI fun _ _ _ _ _ q => neg_int q
/-! ### bools among ints: n += (a < b) -/
end

/-! ### comparisons -/
/-- the scalars that == tells apart as data does -/
def scal : V → V → Bool
  | .non, .non => true | .non, .int _ => true | .int _, .non => true | .non, .bl _ => true | .bl _, .non => true | .non, .str _ => true | .str _, .non => true
  | .int _, .int _ => true | .bl _, .bl _ => true | .str _, .str _ => true | .byt _, .byt _ => true
  | .int _, .str _ => true | .str _, .int _ => true | .bl _, .str _ => true | .str _, .bl _ => true
  | _, _ => false
def rEq : R2 := fun x y H Q => scal x y = true ∧ Q (.bl (decide (x = y))) H
def rNe : R2 := fun x y H Q => scal x y = true ∧ Q (.bl (!decide (x = y))) H

theorem dec_int {i j : Int} : decide (V.int i = V.int j) = (i == j) := by
  rw [Bool.eq_iff_iff]
  simp
theorem dec_bl {i j : Bool} : decide (V.bl i = V.bl j) = (i == j) := by
  rw [Bool.eq_iff_iff]
  simp
theorem dec_str {i j : Str} : decide (V.str i = V.str j) = (i == j) := by
  rw [Bool.eq_iff_iff]
  simp
theorem dec_byt {i j : Array UInt8} : decide (V.byt i = V.byt j) = (i.toList == j.toList) := by
  rw [Bool.eq_iff_iff]
  cases i
  cases j
  simp

section
variable {X : Cx} {a b c : Expr} {ta tb tc : TE} {pos : Pos}
theorem fin_bl {pins : List (Addr × Obj)} {σ : St} {H : Hp} {s : Shared} {Q : VK} {k k' : Bool} (I : Inv X pins σ H s) (q : Q (.bl k) H) (e : k = k') : EP X pins σ Q (.bool k') s := by
  subst e
  exact ⟨.bl k, H, I, rfl, q⟩
theorem op_eq : OpR X (compareOp .Eq) rEq := by
  intro pins s σ H x y v u Q I rx ry h
  obtain ⟨hs, q⟩ := h
  cases x with
  | non =>
    cases rx
    cases y with
    | non => cases ry; exact PySem.EqNone.eq_none_none (fin_bl I q (by simp))
    | bl j => cases ry; exact PySem.EqNone.eq_none_bool (fin_bl I q (by simp))
    | int j => obtain ⟨t', rfl⟩ := ry; exact PySem.EqNone.eq_none_int (fin_bl I q (by simp))
    | str j => obtain ⟨t', rfl⟩ := ry; exact PySem.EqNone.eq_none_str (fin_bl I q (by simp))
    | _ => exact absurd (show false = true from hs) Bool.false_ne_true
  | bl i =>
    cases rx
    cases y with
    | non => cases ry; exact PySem.EqNone.eq_bool_none (fin_bl I q (by simp))
    | bl j => cases ry; exact eq_bool (fin_bl I q dec_bl)
    | str j => obtain ⟨t', rfl⟩ := ry; exact PySem.EqMixed.eq_bool_str (fin_bl I q (by simp))
    | _ => exact absurd (show false = true from hs) Bool.false_ne_true
  | int i =>
    obtain ⟨t, rfl⟩ := rx
    cases y with
    | non => cases ry; exact PySem.EqNone.eq_int_none (fin_bl I q (by simp))
    | int j => obtain ⟨t', rfl⟩ := ry; exact eq_int (fin_bl I q dec_int)
    | str j => obtain ⟨t', rfl⟩ := ry; exact PySem.EqMixed.eq_int_str (fin_bl I q (by simp))
    | _ => exact absurd (show false = true from hs) Bool.false_ne_true
  | str i =>
    obtain ⟨t, rfl⟩ := rx
    cases y with
    | non => cases ry; exact PySem.EqNone.eq_str_none (fin_bl I q (by simp))
    | bl j => cases ry; exact PySem.EqMixed.eq_str_bool (fin_bl I q (by simp))
    | int j => obtain ⟨t', rfl⟩ := ry; exact PySem.EqMixed.eq_str_int (fin_bl I q (by simp))
    | str j => obtain ⟨t', rfl⟩ := ry; exact eq_str (fin_bl I q dec_str)
    | _ => exact absurd (show false = true from hs) Bool.false_ne_true
  | byt i =>
    obtain ⟨t, rfl⟩ := rx
    cases y with
    | byt j => obtain ⟨t', rfl⟩ := ry; exact PySem.W.eq_bytes (fin_bl I q dec_byt)
    | _ => exact absurd (show false = true from hs) Bool.false_ne_true
  | _ => cases y <;> exact absurd (show false = true from hs) Bool.false_ne_true
theorem op_ne : OpR X (compareOp .NotEq) rNe := by
  intro pins s σ H x y v u Q I rx ry h
  obtain ⟨hs, q⟩ := h
  cases x with
  | non =>
    cases rx
    cases y with
    | non => cases ry; exact PySem.EqNone.ne_none_none (fin_bl I q (by simp))
    | bl j => cases ry; exact PySem.EqNone.ne_none_bool (fin_bl I q (by simp))
    | int j => obtain ⟨t', rfl⟩ := ry; exact PySem.EqNone.ne_none_int (fin_bl I q (by simp))
    | str j => obtain ⟨t', rfl⟩ := ry; exact PySem.EqNone.ne_none_str (fin_bl I q (by simp))
    | _ => exact absurd (show false = true from hs) Bool.false_ne_true
  | bl i =>
    cases rx
    cases y with
    | non => cases ry; exact PySem.EqNone.ne_bool_none (fin_bl I q (by simp))
    | bl j => cases ry; exact ne_bool (fin_bl I q (congrArg not dec_bl))
    | str j => obtain ⟨t', rfl⟩ := ry; exact PySem.EqMixed.ne_bool_str (fin_bl I q (by simp))
    | _ => exact absurd (show false = true from hs) Bool.false_ne_true
  | int i =>
    obtain ⟨t, rfl⟩ := rx
    cases y with
    | non => cases ry; exact PySem.EqNone.ne_int_none (fin_bl I q (by simp))
    | int j => obtain ⟨t', rfl⟩ := ry; exact ne_int (fin_bl I q (congrArg not dec_int))
    | str j => obtain ⟨t', rfl⟩ := ry; exact PySem.EqMixed.ne_int_str (fin_bl I q (by simp))
    | _ => exact absurd (show false = true from hs) Bool.false_ne_true
  | str i =>
    obtain ⟨t, rfl⟩ := rx
    cases y with
    | non => cases ry; exact PySem.EqNone.ne_str_none (fin_bl I q (by simp))
    | bl j => cases ry; exact PySem.EqMixed.ne_str_bool (fin_bl I q (by simp))
    | int j => obtain ⟨t', rfl⟩ := ry; exact PySem.EqMixed.ne_str_int (fin_bl I q (by simp))
    | str j => obtain ⟨t', rfl⟩ := ry; exact ne_str (fin_bl I q (congrArg not dec_str))
    | _ => exact absurd (show false = true from hs) Bool.false_ne_true
  | byt i =>
    obtain ⟨t, rfl⟩ := rx
    cases y with
    | byt j => obtain ⟨t', rfl⟩ := ry; exact PySem.W.ne_bytes (fin_bl I q (congrArg not dec_byt))
    | _ => exact absurd (show false = true from hs) Bool.false_ne_true
  | _ => cases y <;> exact absurd (show false = true from hs) Bool.false_ne_true

theorem op_lt : OpR X (compareOp .Lt) (rI0 fun i j => .bl (decide (i < j))) := opB0 fun _ _ _ _ _ _ _ q => lt_int q
theorem op_gt : OpR X (compareOp .Gt) (rI0 fun i j => .bl (decide (j < i))) := opB0 fun _ _ _ _ _ _ _ q => gt_int q
/-- is None, is not None: the right side a value none -/
theorem op_isN : OpR X (compareOp .Is) (fun x y H Q => y = .non ∧ Q (.bl (decide (x = .non))) H) := by
  intro pins s σ H x y v u Q I rx ry h
  obtain ⟨rfl, q⟩ := h
  cases ry
  refine is_none_gen (fin_bl I q ?_)
  cases x <;> first
    | (cases rx; rfl)
    | (obtain ⟨t, rfl⟩ := rx; rfl)
theorem op_notN : OpR X (compareOp .IsNot) (fun x y H Q => y = .non ∧ Q (.bl (!decide (x = .non))) H) := by
  intro pins s σ H x y v u Q I rx ry h
  obtain ⟨rfl, q⟩ := h
  cases ry
  refine isnot_none_gen (fin_bl I q ?_)
  cases x <;> first
    | (cases rx; rfl)
    | (obtain ⟨t, rfl⟩ := rx; rfl)

/-- two rules for one operation: by cases -/
theorem OpR.or {f : Value → Value → Sem Value} {r r' : R2} (h : OpR X f r) (h' : OpR X f r') : OpR X f (fun x y H Q => r x y H Q ∨ r' x y H Q) := by
  intro pins s σ H x y v u Q I rx ry q
  rcases q with q | q
  · exact h pins s σ H x y v u Q I rx ry q
  · exact h' pins s σ H x y v u Q I rx ry q

theorem nomark (b : Expr) {op : CmpOp} (h : op ≠ .In := by decide) (h2 : op ≠ .NotIn := by decide) : behindInMarks op b = false := by
  have e1 : (op == CmpOp.In) = false := by cases op <;> first | rfl | exact absurd rfl h
  have e2 : (op == CmpOp.NotIn) = false := by cases op <;> first | rfl | exact absurd rfl h2
  cases b <;> simp [behindInMarks, e1, e2]
/-- a comparison as a value; hm: nomark b, or (for in, not in) by with_unfolding_all rfl -/
theorem pe_cmpR {op : CmpOp} {r : R2} (ho : OpR X (compareOp op) r) (ha : PE X a ta) (hb : PE X b tb) (hm : behindInMarks op b = false) : PE X (.Compare a [op] [b] pos) (tOp r ta tb) := by
  intro pins s σ H Q I h
  exact wpAny_Compare1 (binT ha hb I h fun v u s2 x y H2 I2 rx ry q => ho pins s2 σ H2 x y v u Q I2 rx ry q) hm
/-- a reading of a value as a test -/
def tTest (t : TE) : TT := fun σ H Q => t σ H fun x H' => ∃ k, x = .bl k ∧ Q k H'
theorem pt_cmpR {op : CmpOp} {r : R2} (ho : OpR X (compareOp op) r) (ha : PE X a ta) (hb : PE X b tb) (hm : behindInMarks op b = false) : PT X (.Compare a [op] [b] pos) (tTest (tOp r ta tb)) := by
  intro pins s σ H Q I h
  refine wpAny_isTrue_Compare1 (thn (ha pins s σ H _ I h) fun v s1 ⟨x, H1, I1, r1, q1⟩ => thn (hb pins s1 σ H1 _ I1 q1) fun u s2 ⟨y, H2, I2, r2, q2⟩ =>
    thn (ho pins s2 σ H2 x y v u _ I2 r1 r2 q2) fun c s3 ⟨z, H3, I3, r3, k, e, q3⟩ => ?_) hm
  subst e
  cases r3
  exact wpAny_truthy_bool ⟨H3, I3, q3⟩
/-! ### truth -/
/-- a value's truth by the abstract heap -/
def TruV (K : PySem.W.Frag) (x : V) (H : Hp) (k : Bool) : Prop :=
  match x with
  | .non => k = false
  | .bl b => k = b
  | .int i => k = (i != 0)
  | .str y => y.length ≤ sizeLine ∧ k = ((y.length : Int) != 0)
  | .byt y => y.size ≤ sizeLine ∧ k = ((y.size : Int) != 0)
  | .ref p => (∃ xs, SqL K H p xs ∧ k = !xs.isEmpty) ∨ (∃ xs, SqT K H p xs ∧ k = !xs.isEmpty) ∨ ∃ kvs, H p = some (.dK kvs) ∧ k = !kvs.isEmpty
  | _ => False
theorem isEmpty_kv {κ : Type} {kvs : List (κ × V)} {vs : List (κ × Value)} (r : KV kvs vs) : (!vs.isEmpty) = !kvs.isEmpty := by
  cases r <;> rfl
theorem isEmpty_of {xs : List V} {its : List Value} (r : Vals xs its) : (!its.toArray.isEmpty) = !xs.isEmpty := by
  cases r <;> simp
theorem line63 : (sizeLine : Nat) < 2 ^ 63 := by rw [sizeLine_eq]; decide
theorem tru_ok : TruR X (fun x H Q => ∃ k, TruV X.K x H k ∧ Q k H) := by
  intro pins s σ H x v Q I rx h
  obtain ⟨k, e, q⟩ := h
  have hl := line63
  have hs : sizeLine = 16777216 := sizeLine_eq
  cases x with
  | non =>
    cases rx
    have e' : k = false := e
    subst e'
    exact truthy_none ⟨H, I, q⟩
  | bl b =>
    cases rx
    have e' : k = b := e
    subst e'
    exact wpAny_truthy_bool ⟨H, I, q⟩
  | int i =>
    obtain ⟨t, rfl⟩ := rx
    have e' : k = (i != 0) := e
    subst e'
    exact PySem.P.truthy_int ⟨H, I, q⟩
  | str y =>
    obtain ⟨t, rfl⟩ := rx
    obtain ⟨hy, e'⟩ : y.length ≤ sizeLine ∧ k = ((y.length : Int) != 0) := e
    subst e'
    exact PySem.P.truthy_str (by (first | lia | omega)) ⟨H, I.tok _, q⟩
  | byt y =>
    obtain ⟨t, rfl⟩ := rx
    obtain ⟨hy, e'⟩ : y.size ≤ sizeLine ∧ k = ((y.size : Int) != 0) := e
    subst e'
    exact PySem.W.truthy_bytes (by (first | lia | omega)) ⟨H, I.tok _, q⟩
  | ref p =>
    cases rx
    have e' : (∃ xs, SqL X.K H p xs ∧ k = !xs.isEmpty) ∨ (∃ xs, SqT X.K H p xs ∧ k = !xs.isEmpty) ∨ ∃ kvs, H p = some (.dK kvs) ∧ k = !kvs.isEmpty := e
    rcases e' with ⟨xs, hx, e'⟩ | ⟨xs, hx, e'⟩ | ⟨kvs, hx, e'⟩
    · subst e'
      obtain ⟨its, r, pl, hz⟩ := I.list hx
      have hlen := r.length
      exact wpAny_truthy_list pl.isList (by simp only [List.size_toArray]; (first | lia | omega)) ⟨H, I.tok _, by rw [isEmpty_of r]; exact q⟩
    · subst e'
      obtain ⟨its, r, pl, hz⟩ := I.tuple hx
      have hlen := r.length
      exact truthy_tuple pl (by simp only [List.size_toArray]; (first | lia | omega)) ⟨H, I.tok _, by rw [isEmpty_of r]; exact q⟩
    · subst e'
      obtain ⟨hz, hS, vs, r, m⟩ : kvs.length ≤ sizeLine ∧ (p == sysModules) = false ∧ ∃ vs, KV kvs vs ∧ s.heap.DictOf (mixKind X.prog X.w) p vs := I.hok p _ hx
      have hlen : kvs.length = vs.length := Paired.length r
      exact wpAny_truthy_dict hS m (by (first | lia | omega)) ⟨H, I.tok _, by rw [isEmpty_kv r]; exact q⟩
  | _ => exact (show False from e).elim
/-- any expression whose test is its value's truth (a name, a call, a subscript, a field ..: he by fun _ => rfl) -/
theorem pt_truth (ha : PE X a ta) (he : ∀ whole, isTrue a X.env whole = (do let v ← whole; standAt a.pos; holding [v] (truthy v))) :
    PT X a (fun σ H Q => ta σ H fun x H' => ∃ k, TruV X.K x H' k ∧ Q k H') := by
  intro pins s σ H Q I h
  exact isTrue_plain (thn (ha pins s σ H _ I h) fun v s1 ⟨x, H1, I1, r1, q1⟩ => tru_ok pins s1 σ H1 x v Q I1 r1 q1) (he _)

/-! ### strs and bytes -/
theorem op_add_str : OpR X (binaryOp .Add) (fun x y H Q => ∃ i j, x = .str i ∧ y = .str j ∧ i.length + j.length ≤ sizeLine ∧ Q (.str (i ++ j)) H) := by
  intro pins s σ H x y v u Q I rx ry h
  obtain ⟨i, j, rfl, rfl, hz, q⟩ := h
  obtain ⟨t, rfl⟩ := rx
  obtain ⟨t', rfl⟩ := ry
  exact add_str (fun t' tk => ⟨.str (i ++ j), H, I.tok _, ⟨_, rfl⟩, q⟩) hz
/-! ### scalar builtins, by CallR -/
theorem vals1 {x : V} {us : List Value} (r : Vals [x] us) : ∃ u, us = [u] ∧ RelV x u := by
  cases r with
  | cons r1 r2 => cases r2; exact ⟨_, rfl, r1⟩
theorem vals2 {x y : V} {us : List Value} (r : Vals [x, y] us) : ∃ u w', us = [u, w'] ∧ RelV x u ∧ RelV y w' := by
  cases r with
  | cons r1 r2 =>
    cases r2 with
    | cons r3 r4 => cases r4; exact ⟨_, _, rfl, r1, r3⟩
theorem call_max2 (hc : X.calm = true) : CallR X (.builtin "max") (fun xs H Q => ∃ i j, xs = [.int i, .int j] ∧ Q (.int (if j > i then j else i)) H) := by
  intro pins s σ H xs us Q I r h
  obtain ⟨i, j, rfl, q⟩ := h
  obtain ⟨u, w', rfl, ⟨t, rfl⟩, ⟨t', rfl⟩⟩ := vals2 r
  refine max_two_ints (I.ok.hd hc) fun h' tk k => ⟨_, H, I.kept k, ?_, q⟩
  by_cases hj : j > i
  · rw [if_pos hj, if_pos hj]; exact ⟨_, rfl⟩
  · rw [if_neg hj, if_neg hj]; exact ⟨_, rfl⟩
theorem call_min2 (hc : X.calm = true) : CallR X (.builtin "min") (fun xs H Q => ∃ i j, xs = [.int i, .int j] ∧ Q (.int (if j < i then j else i)) H) := by
  intro pins s σ H xs us Q I r h
  obtain ⟨i, j, rfl, q⟩ := h
  obtain ⟨u, w', rfl, ⟨t, rfl⟩, ⟨t', rfl⟩⟩ := vals2 r
  refine min_two_ints (I.ok.hd hc) fun h' tk k => ⟨_, H, I.kept k, ?_, q⟩
  by_cases hj : j < i
  · rw [if_pos hj, if_pos hj]; exact ⟨_, rfl⟩
  · rw [if_neg hj, if_neg hj]; exact ⟨_, rfl⟩
end
end L2

namespace L2
open PySem PySem.Spec PyProof.Rows

/-! ### an instance, its attributes a map -/
structure ObjM (h : Heap) (x dx C : Addr) (mA : Str → Option Value) : Prop where
  obj : h.get? x = some (PySem.W.instObj C dx)
  ns : h.Ns1 dx mA
  ne : dx ≠ x

theorem lookIn_ns {h : Heap} {dx : Addr} {mA : Str → Option Value} (n : h.Ns1 dx mA) : ∃ od, h.get? dx = some od ∧ ∀ name, PySem.W.lookIn name od = some (mA name) := by
  obtain ⟨o, es, ep, ho, hd, hk, _, hm⟩ := n
  refine ⟨o, ho, fun name => ?_⟩
  have e := hm name
  unfold nsFind findBy at e
  rw [← Array.find?_toList] at e
  unfold PySem.W.lookIn
  rw [hd]
  dsimp only
  split
  · rename_i y q
    rw [q] at e
    exact congrArg some e
  · rename_i q
    rw [q] at e
    have a : es.toList.any (·.refKey) = false := by
      rw [List.any_eq_false]
      intro y hy
      obtain ⟨z, t, hkey⟩ := hk y (Array.mem_toList_iff.mp hy)
      simp [DictEntry.refKey, hkey]
    have a' : ¬ es.toList.any (·.refKey) = true := by rw [a]; exact Bool.false_ne_true
    rw [if_neg a']
    exact congrArg some e

theorem ObjM.look {h : Heap} {x dx C : Addr} {mA : Str → Option Value} (I : ObjM h x dx C mA) : ∃ od, PySem.W.InstAt h x (PySem.W.instObj C dx) C (some od) ∧ ∀ name, PySem.W.lookIn name od = some (mA name) :=
  let ⟨od, ho, hl⟩ := lookIn_ns I.ns
  ⟨od, ⟨I.obj, rfl, rfl, ho⟩, hl⟩


/-! ### the attributes as a list of pairs -/
theorem RelO.some_of {v : V} {o : Option Value} (r : RelO (some v) o) : ∃ u, o = some u ∧ RelV v u := by
  cases o with
  | none => exact (show False from r).elim
  | some u => exact ⟨u, rfl, r⟩
section
variable {P : Program} {w : World} {H H' : Hp} {h h' : Heap} {a C dx : Addr} {fs fs' : List (Str × V)}
theorem ins_get (hok : HOk P w H h) (e : H a = some (.ins C dx fs)) : ∃ mA, ObjM h a dx C mA ∧ (∀ f, RelO (fs.lookup f) (mA f)) ∧ PySem.Within mA (fs.map (·.1)) ∧ fs.length ≤ 1000 ∧ H dx = some (.own a) := by
  obtain ⟨d, z, ne, ob, mA, n, r, q⟩ := (show ObjOk P w H h a (.ins C dx fs) from hok a _ e)
  exact ⟨mA, ⟨ob, n, ne⟩, r, q, z, d⟩
end

/-! ### what of the text a class must have -/
structure Cls (K : PySem.W.Frag) (C : Addr) : Prop where
  pg : PySem.W.plainGet K C Str.empty = true
  hd : PySem.W.hasDictIn K C = true
  po : PySem.W.plainOver K C = true
  sa : PySem.W.findIn K (.ref C) "__setattr__" = some (some (.builtin "object.__setattr__"))
theorem Cls.get {K : PySem.W.Frag} {C : Addr} (c : Cls K C) (f : Str) : PySem.W.plainGet K C f = true := c.pg

/-! ### readings and rules -/

/-! ### isinstance -/
section
variable {X : Cx} {pins : List (Addr × Obj)} {σ : St} {H : Hp} {s : Shared} {A : Around} {E : Value → Shared → Prop} {Q : Value → Shared → Prop} {c : Value} {b : Bool}
/-- the type of a value, as the fragment's deciders take it; for an instance its class -/
inductive TyOf (K : PySem.W.Frag) (H : Hp) : V → Value → Prop where
  | non : TyOf K H .non (.type "NoneType")
  | bl (x : Bool) : TyOf K H (.bl x) (.type "bool")
  | int (i : Int) : TyOf K H (.int i) (.type "int")
  | str (x : Str) : TyOf K H (.str x) (.type "str")
  | flt (x : UInt64) : TyOf K H (.flt x) (.type "float")
  | lst {a : Addr} {xs : List V} (e : H a = some (.lst xs)) : TyOf K H (.ref a) (.type "list")
  | frz {a : Addr} {o : Obj} {xs : List V} (e : H a = some (.frz o (.lst xs))) : TyOf K H (.ref a) (.type "list")
  | tup {a : Addr} {xs : List V} (e : H a = some (.tup xs)) : TyOf K H (.ref a) (.type "tuple")
  | dK {a : Addr} {kvs : List (Key × V)} (e : H a = some (.dK kvs)) : TyOf K H (.ref a) (.type "dict")
  | dT {a : Addr} {kvs : List (List Key × V)} (e : H a = some (.dT kvs)) : TyOf K H (.ref a) (.type "dict")
  | ins {a C dx : Addr} {fs : List (Str × V)} (e : H a = some (.ins C dx fs)) (cl : Cls K C) (ha : PySem.W.findIn K (.ref C) "__class__" = some (some (.builtin "object.__class__")))
      (hn : PySem.W.specialIn K (.builtin "object.__class__") "__get__" = some (some (.builtin "getset_descriptor.__get__"))) (htk : PySem.W.takesIn K (.builtin "object.__class__") = some true)
      (hm : PySem.W.mroIn K C (.type "object") = some true) : TyOf K H (.ref a) (.ref C)
/-- isinstance(x, c) for one class c, a built-in or an own one: kitOne's answer -/
theorem isinst_ok {x : V} {u t : Value} (I : Inv X pins σ H s) (rx : RelV x u) (ty : TyOf X.K H x t) (e : PySem.W.kitOne X.K t c = some b) (h : ∀ tk, Q (.bool b) { s with toks := tk }) :
    wpAny (model X.prog X.w) A (call (.builtin "isinstance") [u, c]) Q E s := by
  cases ty with
  | non => cases (show u = Value.none from rx); exact PySem.W.kia_one PySem.W.kitx_none I.kIn True.intro e (fun z => nomatch z) h
  | bl y => cases (show u = Value.bool y from rx); exact PySem.W.kia_one PySem.W.kitx_bool I.kIn True.intro e (fun z => nomatch z) h
  | int i => obtain ⟨t, q⟩ := (show ∃ t, u = Value.int i t from rx); cases q; exact PySem.W.kia_one PySem.W.kitx_int I.kIn True.intro e (fun z => nomatch z) h
  | str y => obtain ⟨t, q⟩ := (show ∃ t, u = Value.str y t from rx); cases q; exact PySem.W.kia_one PySem.W.kitx_str I.kIn True.intro e (fun z => nomatch z) h
  | flt y => obtain ⟨t, q⟩ := (show ∃ t, u = Value.float y t from rx); cases q; exact PySem.W.kia_one PySem.W.kitx_float I.kIn True.intro e (fun z => nomatch z) h
  | @lst a xs ea =>
    cases (show u = Value.ref a from rx)
    obtain ⟨_, _, n, _, h1⟩ := (show ObjOk X.prog X.w H s.heap a (.lst xs) from I.hok a _ ea)
    exact PySem.W.kia_one PySem.W.kitx_list I.kIn ⟨_, h1, rfl⟩ e (fun z => nomatch z) h
  | @frz a ob xs ea =>
    cases (show u = Value.ref a from rx)
    obtain ⟨_, _, _, n, _, h1⟩ := (show ObjOk X.prog X.w H s.heap a (.frz ob (.lst xs)) from I.hok a _ ea)
    exact PySem.W.kia_one PySem.W.kitx_list I.kIn ⟨_, h1, rfl⟩ e (fun z => nomatch z) h
  | @tup a xs ea =>
    cases (show u = Value.ref a from rx)
    obtain ⟨_, _, _, p⟩ := (show ObjOk X.prog X.w H s.heap a (.tup xs) from I.hok a _ ea)
    obtain ⟨o, h1, h2, _⟩ := p
    exact PySem.W.kia_one PySem.W.kitx_tuple I.kIn ⟨o, h1, h2⟩ e (fun z => nomatch z) h
  | @dK a kvs ea =>
    cases (show u = Value.ref a from rx)
    obtain ⟨_, _, vs, _, p⟩ := (show ObjOk X.prog X.w H s.heap a (.dK kvs) from I.hok a _ ea)
    obtain ⟨o, es, ep, h1, h2, _⟩ := p
    exact PySem.W.kia_one PySem.W.kitx_dict I.kIn ⟨o, h1, h2.1⟩ e (fun z => nomatch z) h
  | @dT a kvs ea =>
    cases (show u = Value.ref a from rx)
    obtain ⟨_, _, xs, _, o, es, ep, h1, h2, _⟩ := (show ObjOk X.prog X.w H s.heap a (.dT kvs) from I.hok a _ ea)
    exact PySem.W.kia_one PySem.W.kitx_dict I.kIn ⟨o, h1, h2.1⟩ e (fun z => nomatch z) h
  | @ins a C dx fs ea cl ha hn htk hm =>
    cases (show u = Value.ref a from rx)
    obtain ⟨mA, O, _⟩ := ins_get I.hok ea
    obtain ⟨od, J, _⟩ := O.look
    exact PySem.W.kia_one (PySem.W.kitx_own (cl.get _) cl.hd ha hn htk hm) I.kIn J e (fun z => nomatch z) h
end
end L2

namespace L2
open PySem PySem.Spec PyProof.Rows

/-! ### room -/
structure Room (k : Nat) (A : Around) : Prop where
  hd : A.handled = none
  dp : A.depth + 2 * k + 5 < recursionLimit
  un : A.units + 16 * k + 200 < cLine
  gd : A.guards = some []
theorem Room.mono {j k : Nat} {A : Around} (r : Room k A) (h : j ≤ k) : Room j A := ⟨r.hd, by have := r.dp; (first | lia | omega), by have := r.un; (first | lia | omega), r.gd⟩
theorem Room.deeper {k : Nat} {A : Around} (r : Room (k + 1) A) (env : Env) : Room k (A.deeper env) :=
  ⟨r.hd, by have := r.dp; show A.depth + 1 + 2 * k + 5 < _; (first | lia | omega), by have := r.un; show A.units + 3 + 16 * k + 200 < _; (first | lia | omega), r.gd⟩
theorem Room.depth {k : Nat} {A : Around} (r : Room k A) : A.depth < recursionLimit := by have := r.dp; (first | lia | omega)
/-! ### argument lists and displays -/
def tNil : TA := fun _ H Q => Q [] H
def tCons (ta : TE) (tr : TA) : TA := fun σ H Q => ta σ H fun x H1 => tr σ H1 fun xs H2 => Q (x :: xs) H2
section
variable {X : Cx} {e : Expr} {es : List Expr} {te : TE} {t : TA} {pos : Pos}
theorem pa_nil : PA X [] tNil := fun _ _ _ _ H Q I h => Calls.spliced_nil ⟨[], H, I, .nil, h⟩
theorem pa_cons (ha : PE X e te) (hr : PA X es t) (hs : starEach (e :: es) X.env = (false, eval e X.env) :: starEach es X.env := by rfl) : PA X (e :: es) (tCons te t) := by
  intro pos pins s σ H Q I h
  rw [hs]
  show wpAny _ _ (spliced ((false, eval e X.env) :: backTo pos (starEach es X.env))) _ _ s
  refine Calls.spliced_cons (thn (ha pins s σ H _ I h) fun u s1 ⟨x, H1, I1, r1, q1⟩ => ?_)
  exact thn (hr pos pins s1 σ H1 _ I1 q1) fun us s2 ⟨xs, H2, I2, r2, q2⟩ => ⟨x :: xs, H2, I2, .cons r1 r2, q2⟩

/-- a tuple, a list of written items -/
def tTup (t : TA) : TE := fun σ H Q => t σ H fun xs H1 => xs.length ≤ sizeLine ∧ ∀ p, H1 p = none → Q (.ref p) (upd H1 p (.tup xs))
def tLst (t : TA) : TE := fun σ H Q => t σ H fun xs H1 => xs.length ≤ sizeLine ∧ ∀ p, H1 p = none → Q (.ref p) (upd H1 p (.lst xs))
theorem pe_tup {x1} (h : PA X es t) : PE X (.Tuple es x1 pos) (tTup t) := by
  intro pins s σ H Q I hq
  refine wpAny_Tuple_spliced (thn (h pos pins s σ H _ I hq) fun us s1 ⟨xs, H1, I1, r, z, q⟩ => ⟨by rw [← r.length]; exact z, ?_⟩)
  have hf : H1 s1.heap.objs.size = none := I1.hok.fresh (Nat.le_refl _)
  refine ⟨.ref s1.heap.objs.size, upd H1 s1.heap.objs.size (.tup xs), I1.laid (t' := s1.toks) (fun b u e => Heap.get?_push_of_some _ e) (Nat.le_refl _) ?_, rfl, q _ hf⟩
  exact ⟨z, us, r, ⟨_, Heap.get?_push_size _ rfl, rfl, _, rfl⟩⟩
theorem pe_lst (h : PA X es t) : PE X (.List es pos) (tLst t) := by
  intro pins s σ H Q I hq
  refine wpAny_List_spliced (thn (h pos pins s σ H _ I hq) fun us s1 ⟨xs, H1, I1, r, z, q⟩ => ⟨by rw [← r.length]; exact z, ?_⟩)
  have hf : H1 s1.heap.objs.size = none := I1.hok.fresh (Nat.le_refl _)
  refine ⟨.ref s1.heap.objs.size, upd H1 s1.heap.objs.size (.lst xs), I1.laid (t' := s1.toks) (fun b u e => Heap.get?_push_of_some _ e) (Nat.le_refl _) ?_, rfl, q _ hf⟩
  exact ⟨z, us, 0, r, Heap.get?_push_size _ rfl⟩
end

/-! ### what a def promises -/
/-- a def's promise: the bound arguments in the parameters' order, the heap, the wanted end, the wanted exception -/
abbrev Sp := List V → Hp → VK → XK → Prop
/-- how an exception lies behind a call (file 08 gives it): the callers' frames, abstract heap and state ahead of the call, the wish, the exception, the state -/
abbrev CXT := List Env → Hp → Shared → XK → Value → Shared → Prop

/-- the state at a call -/
structure Env0 (P : Program) (w : World) (K : PySem.W.Frag) (mg : Str → Option Value) (base : Heap) (A : Around) (outer : List Env) (s : Shared) (H : Hp) : Prop where
  frames : A.frames = some outer
  mod : Mod K mg base
  bs : ∀ b o, base.get? b = some o → s.heap.get? b = some o ∧ H b = none
  bsz : base.objs.size ≤ s.heap.objs.size
  funs : s.heap.FunFrames base outer
  frf : ∀ b ∈ frs outer, H b = none
  hok : HOk P w H s.heap
  bare : AllBare s.gens
/-- a call's end -/
def CE (outer : List Env) (P : Program) (w : World) (H : Hp) (s : Shared) (Q : VK) (u : Value) (s' : Shared) : Prop :=
  ∃ v H', s'.os = s.os ∧ AllBare s'.gens ∧ Un (frs outer) [] H H' s.heap s'.heap ∧ HOk P w H' s'.heap ∧ RelV v u ∧ Q v H'
def CR (CX : CXT) (outer : List Env) (P : Program) (w : World) (H : Hp) (s : Shared) (Q : VK) (E : XK) (r : Result) (s' : Shared) : Prop :=
  match r with
  | .ok (.ret u) => CE outer P w H s Q u s'
  | .ok _ => False
  | .error e => CX outer H s E e s'
structure FnOk (P : Program) (w : World) (K : PySem.W.Frag) (mg : Str → Option Value) (base : Heap) (CX : CXT) (k : Nat) (f : Addr) (fd : FuncData) (ps : List Str) (sp : Sp) : Prop where
  len : ∀ vs H Q E, sp vs H Q E → vs.length = ps.length
  run : ∀ (A : Around) (outer : List Env) (s : Shared) (H : Hp) (args : Args) (us : List Value) (vs : List V) (Q : VK) (E : XK), Room k A → Env0 P w K mg base A outer s H → BindsTo s fd args (ps.zip us) → Vals vs us → sp vs H Q E →
    codeAny (model P w) A (.call (.ref f) args) (CR CX outer P w H s Q E) s
section
variable {X : Cx} {pins : List (Addr × Obj)} {σ : St} {H : Hp} {s s' : Shared}
/-- from a body: what a callee wants -/
theorem Inv.env0 (I : Inv X pins σ H s) : Env0 X.prog X.w X.K X.mg X.base X.A X.stack s H :=
  ⟨I.ok.frames, I.ok.mod, I.bs, Nat.le_trans I.ok.bsz I.sz, I.stack, I.stkFree, I.hok, I.bare⟩
/-- behind a call -/
theorem Inv.after {Q : VK} {u : Value} (I : Inv X pins σ H s) (h : CE X.stack X.prog X.w H s Q u s') : EP X pins σ Q u s' := by
  obtain ⟨v, H', os, bare, un, hok, r, q⟩ := h
  obtain ⟨hh, g, d, t, os'⟩ := s'
  obtain rfl : os' = s.os := os
  exact ⟨v, H', I.call (h' := hh) (g' := g) (d' := d) (t' := t) (ch := []) un hok bare (fun b z => absurd z (by simp)), r, q⟩
end

/-! ### calls -/
/-- f(..): the written arguments, then the defaults dvs; E: what is wanted of an exception -/
def tCall (sp : Sp) (dvs : List V) (E : XK) (t : TA) : TE := fun σ H Q => t σ H fun vs H1 => sp (vs ++ dvs) H1 Q E
/-- how the parameters are bound: us the positional arguments, kw the keywords' values by name, ds the defaults that fill up -/
def Binds (K : PySem.W.Frag) (fd : FuncData) (ps : List Str) (ds : List Value) : Prop :=
  ∀ (s : Shared) (us : List Value), K.In s.heap → (us ++ ds).length = ps.length → BindsTo s fd ⟨us, []⟩ (ps.zip (us ++ ds))
/-- every parameter is given -/
theorem Binds.all {K : PySem.W.Frag} {fd : FuncData} {ps : List Str} (h : ∀ us : List Value, us.length = ps.length → bindArgs fd ⟨us, []⟩ = pure (ps.zip us)) : Binds K fd ps [] := fun s us _ hl => by
  rw [List.append_nil] at hl ⊢
  exact .of_eq (h us hl)

/-- an exception of a callee reaches what this body wants of exceptions -/
def Passes (CX : CXT) (X : Cx) (E : XK) : Prop := ∀ (pins : List (Addr × Obj)) (σ : St) (H : Hp) (s : Shared) (e : Value) (s' : Shared), Inv X pins σ H s → CX X.stack H s E e s' → X.xe e s'

section
variable {X : Cx} {CX : CXT} {k : Nat} {f C : Addr} {fd : FuncData} {ps : List Str} {sp : Sp} {dvs : List V} {ds : List Value} {E : XK} {x m : Str} {p pos apos : Pos} {e o : Expr} {es : List Expr} {ta : TE} {t : TA}

/-- the callee runs -/
theorem run_fn {pins : List (Addr × Obj)} {σ : St} {H : Hp} {s : Shared} {Q : VK} {us : List Value} {vs : List V} (F : FnOk X.prog X.w X.K X.mg X.base CX k f fd ps sp) (hr : Room k X.A) (hb : Binds X.K fd ps ds) (hd : Vals dvs ds) (hx : Passes CX X E)
    (I : Inv X pins σ H s) (r : Vals vs us) (h : sp (vs ++ dvs) H Q E) : wpAny (model X.prog X.w) X.A (call (.ref f) us) (EP X pins σ Q) X.xe s := by
  have r2 : Vals (vs ++ dvs) (us ++ ds) := r.append hd
  have hl : (us ++ ds).length = ps.length := by rw [← r2.length]; exact F.len _ _ _ _ h
  refine wpAny_call (codeAny_mono (F.run X.A X.stack s H ⟨us, []⟩ (us ++ ds) (vs ++ dvs) Q E hr I.env0 (hb s us I.kIn hl) r2 h) fun r s' hq => ?_)
  cases r with
  | error e => exact hx pins σ H s e s' I hq
  | ok fl =>
    cases fl with
    | ret u => exact I.after hq
    | next => exact False.elim hq
    | brk => exact False.elim hq
    | cont => exact False.elim hq

theorem pe_call (F : FnOk X.prog X.w X.K X.mg X.base CX k f fd ps sp) (hr : Room k X.A) (hg : Gl X x) (hm : X.mg x = some (.ref f)) (hk : PySem.W.keepIn X.K (.ref f) = true) (hb : Binds X.K fd ps ds) (hd : Vals dvs ds) (hx : Passes CX X E)
    (ha : PA X (e :: es) t) (hdb : (x == ("__debug__" : Str)) = false := by decide) (he : starEach (e :: es) X.env = (false, eval e X.env) :: starEach es X.env := by rfl) (hpl : (backTo pos (starEach es X.env)).any (·.1) = false := by rfl) :
    PE X (.Call (.Name x p) (e :: es) [] pos) (tCall sp dvs E t) := by
  intro pins s σ H Q I h
  refine wpAny_Call_Name_kw (ld_glob I hg hm ?_ hdb)
  refine PySem.W.callWith_K (h₀ := X.base) I.ok.mod.kin hk (thn (ha pos pins s σ H _ I h) fun us s1 ⟨vs, H1, I1, r, q⟩ => ⟨I1.kIn, ?_⟩) he hpl
  exact run_fn F hr hb hd hx I1 r q
end

/-! ### keywords -/

/-! ### a def's body keeps its promise -/
/-- names: the parameters first -/
structure FnScope (N P : List Str) (sc : Scope) : Prop where
  kind : sc.kind = .function
  co : sc.isCoroutine = false
  gen : sc.isGenerator = false
  nd : N.Nodup
  pre : N.take P.length = P
  par : ∀ x ∈ P, sc.names.lookup x = some .local ∨ sc.names.lookup x = some .cell
  nofree : ∀ y ∈ sc.names, y.2 ≠ .free

theorem bindL_out {kindOf : Str → Option NameKind} {x : Str} : ∀ {binds : List (Str × Value)} {m : Str → Option Value}, (∀ v, (x, v) ∉ binds) → bindL kindOf binds m x = m x
  | [], _, _ => rfl
  | (n, v) :: r, m, h => by
    unfold bindL
    rw [bindL_out fun w hw => h w (List.mem_cons_of_mem _ hw)]
    split
    · have : x ≠ n := by rintro rfl; exact h v List.mem_cons_self
      simp [this]
    · rfl
theorem bindC_out {kindOf : Str → Option NameKind} {x : Str} : ∀ {binds : List (Str × Value)} {m : Str → Option Value}, (∀ v, (x, v) ∉ binds) → bindC kindOf binds m x = m x
  | [], _, _ => rfl
  | (n, v) :: r, m, h => by
    unfold bindC
    rw [bindC_out fun w hw => h w (List.mem_cons_of_mem _ hw)]
    split
    · rfl
    · have : x ≠ n := by rintro rfl; exact h v List.mem_cons_self
      simp [this]
theorem bindL_get {kindOf : Str → Option NameKind} {x : Str} {v : Value} : ∀ {P : List Str} {vs : List Value} {i : Nat} {m : Str → Option Value}, P.Nodup → P[i]? = some x → vs[i]? = some v → kindOf x = some .local →
    bindL kindOf (P.zip vs) m x = some v
  | [], _, _, _, _, h, _, _ => by simp at h
  | _ :: _, [], _, _, _, _, h, _ => by simp at h
  | p :: P, w :: vs, 0, m, nd, h1, h2, hk => by
    simp at h1 h2; subst h1; subst h2
    show bindL kindOf ((p, w) :: P.zip vs) m p = _
    unfold bindL
    rw [bindL_out fun v hv => (List.nodup_cons.mp nd).1 (List.of_mem_zip hv).1, if_pos hk]
    simp
  | p :: P, w :: vs, i + 1, m, nd, h1, h2, hk => by
    show bindL kindOf ((p, w) :: P.zip vs) m x = _
    unfold bindL
    exact bindL_get (i := i) (List.nodup_cons.mp nd).2 (by simpa using h1) (by simpa using h2) hk
theorem bindC_get {kindOf : Str → Option NameKind} {x : Str} {v : Value} : ∀ {P : List Str} {vs : List Value} {i : Nat} {m : Str → Option Value}, P.Nodup → P[i]? = some x → vs[i]? = some v → kindOf x ≠ some .local →
    bindC kindOf (P.zip vs) m x = some v
  | [], _, _, _, _, h, _, _ => by simp at h
  | _ :: _, [], _, _, _, _, h, _ => by simp at h
  | p :: P, w :: vs, 0, m, nd, h1, h2, hk => by
    simp at h1 h2; subst h1; subst h2
    show bindC kindOf ((p, w) :: P.zip vs) m p = _
    unfold bindC
    rw [bindC_out fun v hv => (List.nodup_cons.mp nd).1 (List.of_mem_zip hv).1, if_neg hk]
    simp
  | p :: P, w :: vs, i + 1, m, nd, h1, h2, hk => by
    show bindC kindOf ((p, w) :: P.zip vs) m x = _
    unfold bindC
    exact bindC_get (i := i) (List.nodup_cons.mp nd).2 (by simpa using h1) (by simpa using h2) hk

/-- the names' values at the entry -/
def start (N : List Str) (vs : List V) : St := vs.map some ++ List.replicate (N.length - vs.length) none

/-- the context of a def's body, at its entry; an exception leaves the frame, then lies as CX says -/
def cxOf (CX : CXT) (P : Program) (w : World) (K : PySem.W.Frag) (mg : Str → Option Value) (base : Heap) (N : List Str) (qual : Str) (scope : Scope) (f : Addr) (cd : Value) (A : Around) (outer : List Env) (s : Shared) (H : Hp) (E : XK) : Cx where
  prog := P
  w := w
  K := K
  mg := mg
  base := base
  A := A.deeper (envOfC qual scope s.heap.objs.size f cd)
  N := N
  s₀ := s
  H₀ := H
  env := envOfC qual scope s.heap.objs.size f cd
  outer := outer
  stack := envOfC qual scope s.heap.objs.size f cd :: outer
  ex := []
  calm := true
  fn := fun _ => true
  pn := []
  xe := fun e s' => wpAny (model P w) (A.deeper (envOfC qual scope s.heap.objs.size f cd)) (leaving (envOfC qual scope s.heap.objs.size f cd) e) (fun _ s'' => CX outer H s E e s'') (fun e' s'' => CX outer H s E e' s'') s'

theorem cell_has {sc : Scope} {n : Nat} {x : Str} (h : sc.names.lookup x = some .cell) : ∃ c, (cellsFrom n sc.names []).lookup x = some c := by
  have q := PySem.W.cellsFrom_some sc.names n [] (.inl h)
  exact Option.isSome_iff_exists.mp q

theorem inv_start {CX : CXT} {P : Program} {w : World} {K : PySem.W.Frag} {mg : Str → Option Value} {base : Heap} {N ps : List Str} {qual : Str} {scope : Scope} {f : Addr} {cd : Value} {A : Around} {outer : List Env} {s s1 : Shared} {H : Hp} {E : XK} {us : List Value} {vs : List V}
    (S : FnScope N ps scope) (hd : A.handled = none) (e0 : Env0 P w K mg base A outer s H) (hl : vs.length = ps.length) (r : Vals vs us)
    (x : InCallC s s.heap.objs.size (bindL (envOfC qual scope s.heap.objs.size f cd).kindOf (ps.zip us) fun _ => none) (cellsFrom (s.heap.objs.size + 1) scope.names []) (bindC (envOfC qual scope s.heap.objs.size f cd).kindOf (ps.zip us) fun _ => none) s1) :
    Inv (cxOf CX P w K mg base N qual scope f cd A outer s H E) [] (start N vs) H s1 := by
  have hpl : ps.length ≤ N.length := by have := congrArg List.length S.pre; rw [List.length_take] at this; (first | lia | omega)
  obtain ⟨h1, tk, rfl, hk⟩ := x.done
  have noA : ∀ b : Addr, b ∉ (cxOf CX P w K mg base N qual scope f cd A outer s H E).ex := fun b z => absurd (show b ∈ ([] : List Addr) from z) (by simp)
  refine ⟨⟨e0.mod, S.kind, rfl, rfl, Nat.le_refl _, fun y z c h1 h2 => ?_, fun y hy => ?_, fun y c _ h => ?_, fun _ => hd, Around.frames_deeper e0.frames, .inr ⟨rfl, rfl⟩, fun b z => absurd z (noA b), e0.bs, e0.bsz, fun b _ _ => noA b, fun b z => absurd z (noA b), e0.funs, e0.frf⟩,
    rfl, e0.bare, Un.kept hk, ⟨_, x.toInCall.ns, fun i y v h1 h2 h3 => ?_⟩, fun y c h => ⟨_, x.cell y c h⟩, e0.hok.fresh (Nat.le_refl _), fun y c h => ?_, fun p hp => absurd (show p ∈ ([] : List (Addr × Obj)) from hp) (by simp), e0.hok.kept hk, ?_⟩
  · exact name_of_addr x.apart (PySem.mem_of_lookup h1) (PySem.mem_of_lookup h2)
  · have hy : scope.names.lookup y = some .cell ∨ scope.names.lookup y = some .free := hy
    rcases hy with hy | hy
    · exact cell_has hy
    · exact absurd rfl (S.nofree _ (PySem.mem_of_lookup hy))
  · exact Nat.le_of_lt (x.above y c (PySem.mem_of_lookup h))
  · have hi : i < vs.length := by
      unfold start at h2
      by_cases hi : i < vs.length
      · exact hi
      · rw [List.getElem?_append_right (by simpa using hi)] at h2
        rw [List.getElem?_replicate] at h2
        split at h2 <;> cases h2
    have ha : vs[i]? = some v := by
      unfold start at h2
      rw [List.getElem?_append_left (by simpa using hi), List.getElem?_map] at h2
      cases e : vs[i]? with
      | none => rw [e] at h2; cases h2
      | some a => rw [e] at h2; cases h2; rfl
    obtain ⟨u, hu, rv⟩ := r.get ha
    have hp : ps[i]? = some y := by
      rw [← S.pre, List.getElem?_take_of_lt (by (first | lia | omega))]; exact h1
    have ndP : ps.Nodup := by rw [← S.pre]; exact S.nd.sublist (List.take_sublist _ _)
    refine ⟨u, rv, ?_⟩
    rcases S.par y (List.mem_of_getElem? hp) with k | k
    · exact .inl ⟨k, bindL_get ndP hp hu k⟩
    · obtain ⟨c, e⟩ := cell_has (n := s.heap.objs.size + 1) k
      refine .inr ⟨.inl k, c, e, ?_⟩
      have q := x.cell y c e
      rw [bindC_get ndP hp hu (by show scope.names.lookup y ≠ _; rw [k]; decide)] at q
      exact q
  · exact e0.hok.fresh (Nat.le_of_lt (x.above y c (PySem.mem_of_lookup h)))
  · unfold start
    show _ = N.length
    rw [List.length_append, List.length_map, List.length_replicate]
    (first | lia | omega)

/-- THE RULE: a def (or a method) of the text, by its body. The body's reading t is chosen for each entry; it is run at the parameters' values -/
theorem fn_of {CX : CXT} {P : Program} {w : World} {K : PySem.W.Frag} {mg : Str → Option Value} {base : Heap} {k : Nat} {f : Addr} {name qual : Str} {params : Arguments} {body : List Stmt} {scope : Scope} {dV kV doc pm cdv ct oc : Value} {an od : Option Addr}
    {osl : Array (Option Value)} {N ps : List Str} {sp : Sp} (lk : K.lookup f = some ⟨oc, od, .func (PySem.W.fnOf name qual params body scope dV kV doc pm an cdv ct), osl⟩) (hcd : PySem.W.codeIn K cdv qual = true) (S : FnScope N ps scope)
    (len : ∀ vs H Q E, sp vs H Q E → vs.length = ps.length)
    (hbody : ∀ (A : Around) (outer : List Env) (s : Shared) (H : Hp) (vs : List V) (Q : VK) (E : XK), Room k (A.deeper (envOfC qual scope s.heap.objs.size f cdv)) → sp vs H Q E →
      ∃ t, PSs (cxOf CX P w K mg base N qual scope f cdv A outer s H E) body t ∧ t { nx := fun _ H' => Q .non H', rt := Q } (start N vs) H) :
    FnOk P w K mg base CX (k + 1) f (PySem.W.fnOf name qual params body scope dV kV doc pm an cdv ct) ps sp := by
  refine ⟨len, fun A outer s H args us vs Q E hr e0 hb r hsp => ?_⟩
  have hl := len _ _ _ _ hsp
  have KX : K.In s.heap := e0.mod.kin.keeps fun b o e => (e0.bs b o e).1
  have lim : s.heap.NoLimit := e0.mod.nolimit.keeps fun b o e => (e0.bs b o e).1
  have hkind : ∀ y ∈ ps.zip us, scope.names.lookup y.1 = some .local ∨ (scope.names.lookup y.1 = some .cell ∧ ((cellsFrom (s.heap.objs.size + 1) scope.names []).lookup y.1).isSome = true) := fun ⟨n, v⟩ hy => by
    rcases S.par n (List.of_mem_zip hy).1 with q | q
    · exact .inl q
    · exact .inr ⟨q, PySem.W.cellsFrom_some _ _ _ (.inl q)⟩
  refine codeAny_call_function hr.depth (KX _ _ lk) rfl S.co S.gen rfl (PySem.W.codeRec_of KX hcd) (hb _ _ _ _ ?_)
  refine wpAny_newFunctionEnv_cells S.kind hkind fun env he s1 x => ?_
  subst he
  refine ⟨lim.keeps x.toInCall.keep, codeAny_func ?_⟩
  obtain ⟨t, ht, hq⟩ := hbody A outer s H vs Q E (hr.deeper _) hsp
  have I : Inv (cxOf CX P w K mg base N qual scope f cdv A outer s H E) [] (start N vs) H s1 := inv_start S hr.hd e0 hl r x
  refine wpAny_mono (ht [] s1 (start N vs) H _ I hq) (fun fl s' hs => ?_) fun e s' hs => hs
  have fin : ∀ {σ' : St} {H' : Hp} {v : V} {u : Value}, Inv (cxOf CX P w K mg base N qual scope f cdv A outer s H E) [] σ' H' s' → RelV v u → Q v H' → CE outer P w H s Q u s' :=
    fun {σ' H' v u} J rv q => ⟨v, H', J.os, J.bare, J.base, J.hok, rv, q⟩
  cases fl with
  | ret u =>
    obtain ⟨v, σ', H', J, rv, q⟩ := hs
    exact fin J rv q
  | next =>
    obtain ⟨σ', H', J, q⟩ := hs
    exact fin (v := V.non) (u := Value.none) J rfl q
  | brk =>
    obtain ⟨_, _, _, q⟩ := hs
    exact False.elim q
  | cont =>
    obtain ⟨_, _, _, q⟩ := hs
    exact False.elim q
end L2

namespace L2
open PySem PySem.Spec PyProof.Rows
section
variable {X : Cx} {x : Str} {p pos : Pos} {e : Expr} {es : List Expr} {t : TA} {id T : String} {r : List V → Hp → VK → Prop}

def tCB (r : List V → Hp → VK → Prop) (t : TA) : TE := fun σ H Q => t σ H fun vs H1 => r vs H1 Q
/-- f(e, ..), f a built-in function -/
theorem pe_callB (hc : CallR X (.builtin id) r) (hg : Gl X x) (hm : X.mg x = none) (hv : bootBuiltins x = some (.builtin id)) (ha : PA X (e :: es) t) (hn : x ≠ "__name__" := by decide) (hdb : (x == ("__debug__" : Str)) = false := by decide)
    (he : starEach (e :: es) X.env = (false, eval e X.env) :: starEach es X.env := by rfl) (hpl : (backTo pos (starEach es X.env)).any (·.1) = false := by rfl) : PE X (.Call (.Name x p) (e :: es) [] pos) (tCB r t) := by
  intro pins s σ H Q I h
  refine wpAny_Call_Name_kw (ld_blt I hg hm hv ?_ hn hdb)
  exact PyProof.Rows.callWith_builtin1 (thn (ha pos pins s σ H _ I h) fun us s1 ⟨vs, H1, I1, r1, q1⟩ => hc pins s1 σ H1 vs us Q I1 r1 q1) he hpl
/-- T(e, ..), T a built-in type -/
theorem pe_callTy (hc : CallR X (.type T) r) (hg : Gl X x) (hm : X.mg x = none) (hv : bootBuiltins x = some (.type T)) (ha : PA X (e :: es) t) (hn : x ≠ "__name__" := by decide) (hdb : (x == ("__debug__" : Str)) = false := by decide)
    (he : starEach (e :: es) X.env = (false, eval e X.env) :: starEach es X.env := by rfl) (hpl : (backTo pos (starEach es X.env)).any (·.1) = false := by rfl) : PE X (.Call (.Name x p) (e :: es) [] pos) (tCB r t) := by
  intro pins s σ H Q I h
  refine wpAny_Call_Name_kw (ld_blt I hg hm hv ?_ hn hdb)
  exact PyProof.Rows.callWith_type1 (thn (ha pos pins s σ H _ I h) fun us s1 ⟨vs, H1, I1, r1, q1⟩ => hc pins s1 σ H1 vs us Q I1 r1 q1) he hpl
end
end L2

namespace HT
open PySem PyProof.Rows


section
variable {prog : Program} {w : World} {A : Around} {E : Value → Shared → Prop} {s : Shared}

/-! ### t[a:b], not the whole -/
/-- a slice's bound as a place among n (d where it is left out) -/
def sIx (n d : Nat) : Option Int → Nat
  | none => d
  | some v => if v < 0 then (v + (n : Int)).toNat else min v.toNat n
theorem sIx_none (n d : Nat) : sIx n d none = d := rfl
theorem sIx_nat (n d k : Nat) : sIx n d (some (k : Int)) = min k n := by
  show (if (k : Int) < 0 then ((k : Int) + (n : Int)).toNat else min (k : Int).toNat n) = min k n
  rw [if_neg (by (first | lia | omega)), Int.toNat_natCast]
theorem slicePart_ {v : Value} {o : Option Int} {Q : Option Int → Shared → Prop} (p : IsPart v o) (h : Q o s) : wpAny (model prog w) A (Builtin.Slice.slicePartIndex v) Q E s := by
  cases p with
  | none => exact slicePart_none h
  | int i t => exact slicePart_int h
end
end HT

namespace L2
open PySem PySem.Spec PyProof.Rows

/-! ### the parts of a slice -/
abbrev TO := St → Hp → (Option Int → Hp → Prop) → Prop
/-- a slice's part (left out, or an int) -/
def PO (X : Cx) (e : Option Expr) (t : TO) : Prop :=
  ∀ (pins : List (Addr × Obj)) (s : Shared) (σ : St) (H : Hp) (Q : Option Int → Hp → Prop), Inv X pins σ H s → t σ H Q →
    wpAny (model X.prog X.w) X.A (evalPart e X.env) (fun u s' => ∃ o H', Inv X pins σ H' s' ∧ IsPart u o ∧ Q o H') X.xe s
def tNoPart : TO := fun _ H Q => Q none H
def tPart (t : TE) : TO := fun σ H Q => t σ H fun x H1 => ∃ i, x = .int i ∧ Q (some i) H1

theorem intsAre_of {ns : List Int} : ∀ {us : List Value}, Vals (ns.map V.int) us → IntsAre us ns := by
  induction ns with
  | nil => intro us r; rw [List.map_nil] at r; cases r; exact .nil
  | cons n ns ih =>
    intro us r
    rw [List.map_cons] at r
    cases r with
    | cons r1 r2 =>
      obtain ⟨t, e⟩ := r1
      subst e
      exact .cons n t (ih r2)

section
variable {X : Cx} {e : Expr} {te : TE} {lo hi : Option Expr} {tl th : TO} {pos p2 : Pos}

theorem po_none : PO X none tNoPart := by
  intro pins s σ H Q I h
  rw [evalPart_none]
  exact wpAny_pure ⟨none, H, I, .none, h⟩
theorem po_some (h : PE X e te) : PO X (some e) (tPart te) := by
  intro pins s σ H Q I hw
  rw [evalPart_some]
  refine thn (h pins s σ H _ I hw) fun u s1 ⟨x, H1, I1, r1, q1⟩ => ?_
  obtain ⟨i, rfl, q⟩ := q1
  obtain ⟨t, rfl⟩ := r1
  exact ⟨some i, H1, I1, .int i t, q⟩

/-- what a slice of a value is, by values: the slice object stands at sl -/
def SlR (X : Cx) (r : V → Option Int → Option Int → Hp → VK → Prop) : Prop :=
  ∀ (pins : List (Addr × Obj)) (s : Shared) (σ : St) (H : Hp) (x : V) (v vl vu : Value) (lo hi : Option Int) (sl : Addr) (Q : VK), Inv X pins σ H s → RelV x v → s.heap.IsSliceOf sl vl vu .none → IsPart vl lo → IsPart vu hi → r x lo hi H Q →
    ∃ T id, typeLookup (.type T) "__getitem__" = pure (some (.builtin id)) ∧ s.TypeIs v T ∧ wpAny (model X.prog X.w) X.A (getItem v (.ref sl)) (EP X pins σ Q) X.xe s
def tSl (r : V → Option Int → Option Int → Hp → VK → Prop) (te : TE) (tl th : TO) : TE := fun σ H Q => te σ H fun x H1 => tl σ H1 fun l H2 => th σ H2 fun u H3 => r x l u H3 Q
/-- a[lo:hi], any a -/
theorem pe_slice {r : V → Option Int → Option Int → Hp → VK → Prop} (hr : SlR X r) (he : PE X e te) (hl : PO X lo tl) (hu : PO X hi th) : PE X (.Subscript e (.Slice lo hi none p2) pos) (tSl r te tl th) := by
  intro pins s σ H Q I h
  refine Subscript_ (thn (he pins s σ H _ I h) fun v s1 ⟨x, H1, I1, r1, q1⟩ => ?_)
  refine wpAny_Slice (thn (hl pins s1 σ H1 _ I1 q1) fun vl s2 ⟨l, H2, I2, pl, q2⟩ => thn (hu pins s2 σ H2 _ I2 q2) fun vu s3 ⟨u, H3, I3, pu, q3⟩ => ?_)
  rw [evalPart_none]
  refine wpAny_pure ?_
  have I4 : Inv X pins σ H3 { s3 with heap := s3.heap.push { cls := .type "slice", data := .fields #[vl, vu, .none] } } := I3.kept (t' := s3.toks) fun b ob q => Heap.get?_push_of_some _ q
  obtain ⟨T, id, hT, ht, hg⟩ := hr pins { s3 with heap := s3.heap.push { cls := .type "slice", data := .fields #[vl, vu, .none] } } σ H3 x v vl vu l u s3.heap.objs.size Q I4 r1 (Heap.IsSliceOf.new ..) pl pu q3
  show wpAny (model X.prog X.w) X.A (subscriptTail e (.Slice lo hi none p2) v (.ref s3.heap.objs.size)) (EP X pins σ Q) X.xe { s3 with heap := s3.heap.push { cls := .type "slice", data := .fields #[vl, vu, .none] } }
  exact tail_any (ops := [.ref s3.heap.objs.size, v]) ht hT hg (by with_unfolding_all rfl)

/-- the items of xs[lo:hi] -/
def cutV (xs : List V) (lo hi : Option Int) : List V := (xs.drop (HT.sIx xs.length 0 lo)).take (HT.sIx xs.length xs.length hi - HT.sIx xs.length 0 lo)
theorem cutV_length (xs : List V) (lo hi : Option Int) : (cutV xs lo hi).length ≤ xs.length := by
  unfold cutV
  rw [List.length_take, List.length_drop]
  (first | lia | omega)
/-! ### t < u, t + u -/
end
end L2

namespace L2
open PySem PySem.Spec PyProof.Rows

/-! ### places -/
/-- the place that an index of any sign means -/
def ixN (n : Nat) (i : Int) : Option Nat := if 0 ≤ i then (if i < n then some i.toNat else none) else if -(n : Int) ≤ i then some (i + n).toNat else none
def atI {α : Type} (xs : List α) (i : Int) : Option α := (ixN xs.length i).bind fun j => xs[j]?
theorem ixN_seq {n : Nat} {i : Int} {j : Nat} (h : ixN n i = some j) : seqIndex? i n = some j ∧ j < n ∧ -(n : Int) ≤ i ∧ i < n := by
  unfold ixN at h
  by_cases h0 : 0 ≤ i
  · rw [if_pos h0] at h
    by_cases h1 : i < n
    · rw [if_pos h1] at h
      have e : i.toNat = j := Option.some.inj h
      exact ⟨by rw [seqIndex_of h0 h1, e], by (first | lia | omega), by (first | lia | omega), h1⟩
    · rw [if_neg h1] at h; cases h
  · rw [if_neg h0] at h
    by_cases h1 : -(n : Int) ≤ i
    · rw [if_pos h1] at h
      have e : (i + n).toNat = j := Option.some.inj h
      exact ⟨by rw [seqIndex_neg (by (first | lia | omega)) h1, e], by (first | lia | omega), h1, by (first | lia | omega)⟩
    · rw [if_neg h1] at h; cases h
theorem atI_get {α : Type} {xs : List α} {i : Int} {v : α} (h : atI xs i = some v) : ∃ j, seqIndex? i xs.length = some j ∧ xs[j]? = some v ∧ j < xs.length ∧ -(xs.length : Int) ≤ i ∧ i < xs.length := by
  unfold atI at h
  cases e : ixN xs.length i with
  | none => rw [e] at h; cases h
  | some j =>
    rw [e] at h
    obtain ⟨h1, h2, h3, h4⟩ := ixN_seq e
    exact ⟨j, h1, h, h2, h3, h4⟩
theorem atI_nat {α : Type} {xs : List α} {j : Nat} {v : α} (h : xs[j]? = some v) : atI xs (j : Int) = some v := by
  have hj : j < xs.length := (List.getElem?_eq_some_iff.mp h).1
  have e : ixN xs.length (j : Int) = some j := by
    unfold ixN
    rw [if_pos (by (first | lia | omega)), if_pos (by (first | lia | omega))]; simp
  unfold atI; rw [e]; exact h
theorem atI_last {α : Type} (xs : List α) (v : α) : atI (xs ++ [v]) (-1) = some v := by
  have hl : (xs ++ [v]).length = xs.length + 1 := by simp
  have e : ixN (xs ++ [v]).length (-1) = some xs.length := by
    unfold ixN
    rw [hl, if_neg (by decide), if_pos (by (first | lia | omega))]
    congr 1
    (first | lia | omega)
  unfold atI
  rw [e]
  show (xs ++ [v])[xs.length]? = some v
  simp

/-! ### what may be subscripted -/
/-- what stands as an index of a plain subscript -/
def PlainIx (b : Expr) : Prop := ∀ o i, subscripted b false o i = operate [o, i] (getItem o i)
/-- a subscript by values -/
def IxR (X : Cx) (r : R2) : Prop :=
  ∀ (value slice : Expr) (pins : List (Addr × Obj)) (s : Shared) (σ : St) (H : Hp) (x y : V) (v u : Value) (Q : VK), Inv X pins σ H s → RelV x v → RelV y u → r x y H Q →
    subscripted slice false v u = operate [v, u] (getItem v u) → wpAny (model X.prog X.w) X.A (subscriptTail value slice v u) (EP X pins σ Q) X.xe s
/-- a call of a builtin's method by values: the receiver, the arguments -/
def MtR (X : Cx) (id : String) (r : V → List V → Hp → VK → Prop) : Prop :=
  ∀ (pins : List (Addr × Obj)) (s : Shared) (σ : St) (H : Hp) (x : V) (xs : List V) (v : Value) (us : List Value) (Q : VK), Inv X pins σ H s → RelV x v → Vals xs us → r x xs H Q →
    wpAny (model X.prog X.w) X.A (call (.builtin id) (v :: us)) (EP X pins σ Q) X.xe s
section
variable {X : Cx} {a b : Expr} {ta tb : TE} {pos : Pos}
/-- a[b] -/
theorem pe_ix {r : R2} (hr : IxR X r) (ha : PE X a ta) (hb : PE X b tb) (hs : PlainIx b) : PE X (.Subscript a b pos) (tOp r ta tb) := by
  intro pins s σ H Q I h
  exact Subscript_ (binT ha hb I h fun v u s2 x y H2 I2 rx ry q => hr a b pins s2 σ H2 x y v u Q I2 rx ry q (hs _ _))

def rIxL (K : PySem.W.Frag) : R2 := fun x y H Q => ∃ p xs i v, x = .ref p ∧ y = .int i ∧ SqL K H p xs ∧ atI xs i = some v ∧ Q v H
def rIxT (K : PySem.W.Frag) : R2 := fun x y H Q => ∃ p xs i v, x = .ref p ∧ y = .int i ∧ SqT K H p xs ∧ atI xs i = some v ∧ Q v H
def rIxS : R2 := fun x y H Q => ∃ z i c, x = .str z ∧ y = .int i ∧ z.length ≤ sizeLine ∧ atI z.cps.toList i = some c ∧ Q (.str ⟨#[c]⟩) H
theorem ix_list : IxR X (rIxL X.K) := by
  intro value slice pins s σ H x y v u Q I rx ry h hs
  obtain ⟨p, xs, i, z, rfl, rfl, hq, he, q⟩ := h
  cases rx
  obtain ⟨t, rfl⟩ := ry
  obtain ⟨its, r, pl, hz⟩ := I.list hq
  obtain ⟨j, h1, h2, h3, h4, h5⟩ := atI_get he
  obtain ⟨w, ew, rw'⟩ := r.get h2
  have hl := r.length
  have hn := line63
  have fin : EP X pins σ Q w s := ⟨z, H, I, rw', q⟩
  by_cases h0 : 0 ≤ i
  · have hj : i.toNat = j := by
      rw [seqIndex_of h0 h5] at h1
      exact Option.some.inj h1
    exact item_listR pl.isList h0 (by (first | lia | omega)) (by rw [hj]; simpa using ew) fin hs
  · have hj : (i + (its.toArray.size : Int)).toNat = j := by
      rw [seqIndex_neg (by (first | lia | omega)) h4] at h1
      rw [List.size_toArray, ← hl]
      exact Option.some.inj h1
    exact subscriptTail_builtinR (x := w) pl.isList.typeIs slot_list_getitem.lookup
      (wpAny_getItem_list_neg (Q := fun r s' => r = w ∧ EP X pins σ Q r s') pl.isList (by (first | lia | omega)) (by rw [List.size_toArray] <;> (first | lia | omega)) (by (first | lia | omega)) (by rw [hj]; simpa using ew) ⟨rfl, fin⟩) hs
theorem ix_tup : IxR X (rIxT X.K) := by
  intro value slice pins s σ H x y v u Q I rx ry h hs
  obtain ⟨p, xs, i, z, rfl, rfl, hq, he, q⟩ := h
  cases rx
  obtain ⟨t, rfl⟩ := ry
  obtain ⟨its, r, pl, hz⟩ := I.tuple hq
  obtain ⟨j, h1, h2, h3, h4, h5⟩ := atI_get he
  obtain ⟨w, ew, rw'⟩ := r.get h2
  have hl := r.length
  have hn := line63
  have fin : EP X pins σ Q w s := ⟨z, H, I, rw', q⟩
  exact subscriptTail_builtinR (x := w) pl.typeIs slot_tuple_getitem.lookup
    (getItem_tuple (j := j) (Q := fun r s' => r = w ∧ EP X pins σ Q r s') pl (by (first | lia | omega)) (by (first | lia | omega)) (by rw [List.size_toArray, ← hl]; exact h1) (by simpa using ew) ⟨rfl, fin⟩) hs
theorem ix_str : IxR X rIxS := by
  intro value slice pins s σ H x y v u Q I rx ry h hs
  obtain ⟨z, i, c, rfl, rfl, hz, he, q⟩ := h
  obtain ⟨t, rfl⟩ := rx
  obtain ⟨t', rfl⟩ := ry
  obtain ⟨j, h1, h2, h3, h4, h5⟩ := atI_get he
  have hl : z.cps.toList.length = z.length := by simp [Str.length]
  rw [hl] at h1 h4 h5
  have hn := line63
  exact tail_any (typeIs_str s z t) slot_str_getitem.lookup (getItem_str (c := c) (by
    have e1 : decide (i < -(2 ^ 63 : Int)) = false := decide_eq_false (by (first | lia | omega))
    have e2 : decide (i ≥ 2 ^ 63) = false := decide_eq_false (by (first | lia | omega))
    rw [e1, e2, Bool.or_false]) (by rw [h1]; simpa using h2) ⟨.str ⟨#[c]⟩, H, I.tok _, ⟨_, rfl⟩, q⟩) hs
/-! ### xs[i] = v, any sign -/
/-- the list's object behind a store -/
theorem mapSeq_set (its : List Value) (n j : Nat) (u : Value) : Obj.mapSeq (·.setIfInBounds j u) { cls := .type "list", data := .seq its.toArray n } = { cls := .type "list", data := .seq (its.set j u).toArray n } := by
  simp [Obj.mapSeq]
theorem Inv.lst {pins : List (Addr × Obj)} {σ : St} {H : Hp} {s : Shared} {p : Addr} {xs : List V} (I : Inv X pins σ H s) (h : H p = some (.lst xs)) :
    ∃ (its : List Value) (n : Nat), Vals xs its ∧ s.heap.get? p = some { cls := .type "list", data := .seq its.toArray n } ∧ xs.length ≤ sizeLine := by
  obtain ⟨z, its, n, r, e⟩ := I.hok p _ h
  exact ⟨its, n, r, e, z⟩
/-- the list at p is written by an update of its object -/
theorem Inv.lstUpd {pins : List (Addr × Obj)} {σ : St} {H : Hp} {s : Shared} {p : Addr} {xs ys : List V} {its its' : List Value} {n n' : Nat} {f : Obj → Obj} (I : Inv X pins σ H s) (h : H p = some (.lst xs))
    (ho : s.heap.get? p = some { cls := .type "list", data := .seq its.toArray n }) (hf : f { cls := .type "list", data := .seq its.toArray n } = { cls := .type "list", data := .seq its'.toArray n' }) (r : Vals ys its') (hz : ys.length ≤ sizeLine) (t : Nat) :
    Inv X pins σ (upd H p (.lst ys)) { s with heap := s.heap.update p f, toks := t } := by
  have e : (s.heap.update p f).get? p = some { cls := .type "list", data := .seq its'.toArray n' } := by
    rw [Heap.get?_update_self f ho (by rw [hf] <;> rfl), hf]
  refine I.write (x := p) (e := p) (by rw [h]; trivial) (.inl rfl) (fun b u hb q => (Heap.get?_update_other _ _ (Ne.symm hb)).trans q) ⟨_, e⟩ ?_
  exact ⟨hz, its', n', r, e⟩
def rSetL : V → V → V → Hp → (Hp → Prop) → Prop := fun o i v H Q => ∃ p xs k j, o = .ref p ∧ i = .int k ∧ H p = some (.lst xs) ∧ ixN xs.length k = some j ∧ Q (upd H p (.lst (xs.set j v)))
theorem set_list : PSet X rSetL := by
  intro pins s σ H o i v ov iv u Q I ro ri rv h
  obtain ⟨p, xs, k, j, rfl, rfl, hp, hj, q⟩ := h
  cases ro
  obtain ⟨t, rfl⟩ := ri
  obtain ⟨its, n, r, ho, hz⟩ := I.lst hp
  obtain ⟨h1, h2, h3, h4⟩ := ixN_seq hj
  have hl := r.length
  have hn := line63
  have I' : Inv X pins σ (upd H p (.lst (xs.set j v))) { s with heap := s.heap.update p (Obj.mapSeq (·.setIfInBounds j u)) } :=
    I.lstUpd hp ho (mapSeq_set its n j u) (r.set rv j) (by rw [List.length_set]; exact hz) s.toks
  by_cases h0 : 0 ≤ k
  · have hk : k.toNat = j := by
      rw [seqIndex_of h0 h4] at h1
      exact Option.some.inj h1
    exact PySem.W.ki_setAt ho h0 (by (first | lia | omega)) (by rw [List.size_toArray, ← hl]; exact h4) (by rw [hk]; exact ⟨_, I', q⟩)
  · have hk : (k + (its.toArray.size : Int)).toNat = j := by
      rw [seqIndex_neg (by (first | lia | omega)) h3] at h1
      rw [List.size_toArray, ← hl]
      exact Option.some.inj h1
    exact PySem.W.ki_setBack ho (by (first | lia | omega)) (by rw [List.size_toArray, ← hl]; exact h3) (by (first | lia | omega)) (by rw [hk]; exact ⟨_, I', q⟩)

/-! ### slices -/
theorem slice_bounds (lo hi : Option Int) (n : Nat) : (sliceBounds lo hi none n).1 = ((HT.sIx n 0 lo : Nat) : Int) ∧ (sliceBounds lo hi none n).2.1 = ((HT.sIx n n hi : Nat) : Int) ∧ (sliceBounds lo hi none n).2.2 = 1 := by
  refine ⟨?_, ?_, rfl⟩
  · cases lo with
    | none => simp [sliceBounds, HT.sIx]
    | some i =>
      simp only [sliceBounds, HT.sIx, Option.getD_none, show (1 : Int) > 0 by decide, if_true]
      by_cases h : i < 0
      · simp only [h, if_true] <;> (first | lia | omega)
      · simp only [h, if_false] <;> (first | lia | omega)
  · cases hi with
    | none => simp [sliceBounds, HT.sIx]
    | some i =>
      simp only [sliceBounds, HT.sIx, Option.getD_none, show (1 : Int) > 0 by decide, if_true]
      by_cases h : i < 0
      · simp only [h, if_true] <;> (first | lia | omega)
      · simp only [h, if_false] <;> (first | lia | omega)
theorem slicePick_cut (its : List Value) (lo hi : Option Int) : slicePick its.toArray lo hi none = ((its.drop (HT.sIx its.length 0 lo)).take (HT.sIx its.length its.length hi - HT.sIx its.length 0 lo)).toArray := by
  obtain ⟨h1, h2, h3⟩ := slice_bounds lo hi its.toArray.size
  unfold slicePick
  rw [h1, h2, h3]
  simp only [sliceRange_one, pick_run, List.size_toArray] <;> rfl
/-- xs[lo:hi] of a list: a new list -/
def rSlL (K : PySem.W.Frag) : V → Option Int → Option Int → Hp → VK → Prop := fun x lo hi H Q => ∃ a xs, x = .ref a ∧ SqL K H a xs ∧ ∀ p, H p = none → Q (.ref p) (upd H p (.lst (cutV xs lo hi)))
theorem sl_list : SlR X (rSlL X.K) := by
  intro pins s σ H x v vl vu lo hi sl Q I rx hs pl pu h
  obtain ⟨a, xs, rfl, hx, q⟩ := h
  cases rx
  obtain ⟨its, r, ht, hz⟩ := I.list hx
  have hlen := r.length
  refine ⟨"list", _, slot_list_getitem.lookup, ht.isList.typeIs, ?_⟩
  refine wpAny_getItem_list_slice ht.isList hs pl pu .none (by simp) ?_ (by rw [List.size_toArray] <;> (first | lia | omega))
  rw [slicePick_cut, ← hlen]
  refine ⟨.ref s.heap.objs.size, _, I.laid (t' := s.toks) (o := .lst (cutV xs lo hi)) (fun b ob q => Heap.get?_push_of_some _ q) (Nat.le_refl _) ?_, rfl, q _ (I.hok.fresh (Nat.le_refl _))⟩
  exact ⟨Nat.le_trans (cutV_length xs lo hi) hz, _, 0, (r.drop (HT.sIx xs.length 0 lo)).take (HT.sIx xs.length xs.length hi - HT.sIx xs.length 0 lo), Heap.get?_push_size _ rfl⟩

/-! ### in, not in: flat items -/
def flatV : V → Bool
  | .non => true
  | .bl _ => true
  | .int _ => true
  | .str _ => true
  | _ => false
/-- == of flat values -/
def eqV : V → V → Bool
  | .non, .non => true
  | .bl a, .bl b => a == b
  | .bl a, .int b => (if a then 1 else 0) == b
  | .int a, .bl b => a == (if b then 1 else 0)
  | .int a, .int b => a == b
  | .str a, .str b => a == b
  | _, _ => false
theorem eqAt_V {A : Around} {s : Shared} {y x : V} {u v : Value} (ry : RelV y u) (rx : RelV x v) (fy : flatV y = true) (fx : flatV x = true) : SeqAt.EqAt A s u v (eqV y x) := by
  cases y with
  | non =>
    cases ry
    cases x with
    | non => cases rx; exact SeqAt.EqAt.same _
    | bl b => cases rx; exact SeqAt.EqAt.none_bool b
    | int b => obtain ⟨t, rfl⟩ := rx; exact SeqAt.EqAt.none_int b t
    | str b => obtain ⟨t, rfl⟩ := rx; exact SeqAt.EqAt.none_str b t
    | _ => exact absurd (show false = true from fx) Bool.false_ne_true
  | bl a =>
    cases ry
    cases x with
    | non => cases rx; exact SeqAt.EqAt.bool_none a
    | bl b => cases rx; exact SeqAt.EqAt.bool_bool a b
    | int b => obtain ⟨t, rfl⟩ := rx; exact SeqAt.EqAt.bool_int a b t
    | str b => obtain ⟨t, rfl⟩ := rx; exact SeqAt.EqAt.bool_str a b t
    | _ => exact absurd (show false = true from fx) Bool.false_ne_true
  | int a =>
    obtain ⟨t', rfl⟩ := ry
    cases x with
    | non => cases rx; exact SeqAt.EqAt.int_none a t'
    | bl b => cases rx; exact SeqAt.EqAt.int_bool a t' b
    | int b => obtain ⟨t, rfl⟩ := rx; exact SeqAt.EqAt.int_int a t' b t
    | str b => obtain ⟨t, rfl⟩ := rx; exact SeqAt.EqAt.int_str a t' b t
    | _ => exact absurd (show false = true from fx) Bool.false_ne_true
  | str a =>
    obtain ⟨t', rfl⟩ := ry
    cases x with
    | non => cases rx; exact SeqAt.EqAt.str_none a t'
    | bl b => cases rx; exact SeqAt.EqAt.str_bool a t' b
    | int b => obtain ⟨t, rfl⟩ := rx; exact SeqAt.EqAt.str_int a t' b t
    | str b => obtain ⟨t, rfl⟩ := rx; exact SeqAt.EqAt.str_str a t' b t
    | _ => exact absurd (show false = true from fx) Bool.false_ne_true
  | _ => exact absurd (show false = true from fy) Bool.false_ne_true
/-- the items' answers, read off the values (a value's own answer does not lean on its token) -/
def eqU (x : V) (u : Value) : Bool := match u with
  | .none => eqV .non x
  | .bool b => eqV (.bl b) x
  | .int i _ => eqV (.int i) x
  | .str z _ => eqV (.str z) x
  | _ => false
theorem eqU_of {x y : V} {u : Value} (r : RelV y u) (f : flatV y = true) : eqU x u = eqV y x := by
  cases y with
  | non => cases r; rfl
  | bl b => cases r; rfl
  | int i => obtain ⟨t, rfl⟩ := r; rfl
  | str z => obtain ⟨t, rfl⟩ := r; rfl
  | _ => exact absurd (show false = true from f) Bool.false_ne_true
theorem any_eqU {x : V} : ∀ {xs : List V} {us : List Value}, Vals xs us → xs.all flatV = true → us.any (eqU x) = xs.any fun y => eqV y x
  | _, _, .nil, _ => rfl
  | y :: xs, u :: us, .cons r t, f => by
    rw [List.all_cons, Bool.and_eq_true] at f
    rw [List.any_cons, List.any_cons, eqU_of r f.1, any_eqU t f.2]
theorem mem_eqAt {A : Around} {s : Shared} {x : V} {v : Value} (rx : RelV x v) (fx : flatV x = true) : ∀ {xs : List V} {us : List Value}, Vals xs us → xs.all flatV = true → ∀ u ∈ us, SeqAt.EqAt A s u v (eqU x u)
  | _, _, .nil, _ => fun u hu => by cases hu
  | y :: xs, u :: us, .cons r t, f => fun u' hu => by
    rw [List.all_cons, Bool.and_eq_true] at f
    rcases List.mem_cons.mp hu with rfl | hu
    · rw [eqU_of r f.1]; exact eqAt_V r rx f.1 fx
    · exact mem_eqAt rx fx t f.2 u' hu
def inV (x : V) (xs : List V) : Bool := xs.any fun y => eqV y x
/-- x in a list or tuple of flat items -/
def rIn (K : PySem.W.Frag) (neg : Bool) : R2 := fun x y H Q => ∃ p xs, y = .ref p ∧ (SqL K H p xs ∨ SqT K H p xs) ∧ flatV x = true ∧ xs.all flatV = true ∧ Q (.bl (if neg then !inV x xs else inV x xs)) H
theorem op_in_seq : OpR X (compareOp .In) (rIn X.K false) := by
  intro pins s σ H x y v u Q I rx ry h
  obtain ⟨p, xs, rfl, hq, fx, fs, q⟩ := h
  cases ry
  rcases hq with hq | hq
  · obtain ⟨its, r, pl, hz⟩ := I.list hq
    refine SeqAt.in_listAt (eqU x) pl.isList (fun w hw => mem_eqAt rx fx r fs w (by simpa using hw)) ⟨.bl _, H, I, rfl, ?_⟩
    rw [show its.toArray.any (eqU x) = its.any (eqU x) by simp, any_eqU r fs]
    exact q
  · obtain ⟨its, r, pl, hz⟩ := I.tuple hq
    refine SeqAt.in_tupleAt (eqU x) pl (fun w hw => mem_eqAt rx fx r fs w (by simpa using hw)) ⟨.bl _, H, I, rfl, ?_⟩
    rw [show its.toArray.any (eqU x) = its.any (eqU x) by simp, any_eqU r fs]
    exact q
/-! ### len, list(x), tuple(x) of any list or tuple that is read -/
theorem call_len_seq : CallR X (.builtin "len") (fun xs H Q => ∃ p ys, xs = [.ref p] ∧ (SqL X.K H p ys ∨ SqT X.K H p ys) ∧ Q (.int ys.length) H) := by
  intro pins s σ H xs us Q I r h
  obtain ⟨p, ys, rfl, hq, q⟩ := h
  obtain ⟨u, rfl, rx⟩ := vals1 r
  cases rx
  have hn := line63
  rcases hq with hq | hq
  · obtain ⟨its, r', pl, hz⟩ := I.list hq
    have hlen := r'.length
    exact Calls.call_len_list pl.isList (by simp only [List.size_toArray] <;> (first | lia | omega)) ⟨.int ys.length, H, I.tok _, ⟨s.toks + 1, by rw [List.size_toArray, hlen]⟩, q⟩
  · obtain ⟨its, r', pl, hz⟩ := I.tuple hq
    have hlen := r'.length
    exact len_tuple pl (by simp only [List.size_toArray] <;> (first | lia | omega)) ⟨.int ys.length, H, I.tok _, ⟨s.toks + 1, by rw [List.size_toArray, hlen]⟩, q⟩
theorem call_len_str : CallR X (.builtin "len") (fun xs H Q => ∃ z, xs = [.str z] ∧ z.length ≤ sizeLine ∧ Q (.int z.length) H) := by
  intro pins s σ H xs us Q I r h
  obtain ⟨z, rfl, hz, q⟩ := h
  obtain ⟨u, rfl, t, rfl⟩ := vals1 r
  have hn := line63
  exact len_str (by (first | lia | omega)) ⟨.int z.length, H, I.tok _, ⟨_, rfl⟩, q⟩
theorem call_list_of : CallR X (.type "list") (fun xs H Q => ∃ p ys, xs = [.ref p] ∧ (SqL X.K H p ys ∨ SqT X.K H p ys) ∧ ∀ l, H l = none → Q (.ref l) (upd H l (.lst ys))) := by
  intro pins s σ H xs us Q I r h
  obtain ⟨p, ys, rfl, hq, q⟩ := h
  obtain ⟨u, rfl, rx⟩ := vals1 r
  cases rx
  have fin : ∀ (its : List Value), Vals ys its → ys.length ≤ sizeLine → ∀ (h' : Heap) (c' : Nat), (∀ b o', s.heap.get? b = some o' → h'.get? b = some o') →
      h'.get? s.heap.objs.size = some { cls := .type "list", dict := none, data := .seq its.toArray c', slots := #[] } → EP X pins σ Q (.ref s.heap.objs.size) { s with heap := h' } := fun its r' hz h' c' kp e =>
    ⟨.ref s.heap.objs.size, _, I.laid (t' := s.toks) kp (Nat.le_refl _) (show ObjOk X.prog X.w _ h' _ (.lst ys) from ⟨hz, its, c', r', e⟩), rfl, q _ (I.hok.fresh (Nat.le_refl _))⟩
  rcases hq with hq | hq
  · obtain ⟨its, r', pl, hz⟩ := I.list hq
    have hlen := r'.length
    obtain ⟨o, ho, hc, n, hd⟩ := pl.isList
    exact call_list_seq p (.inl rfl) ho hc hd (fun h' c' kp e => fin its r' hz h' c' kp e) (by simp only [List.size_toArray] <;> (first | lia | omega))
  · obtain ⟨its, r', pl, hz⟩ := I.tuple hq
    have hlen := r'.length
    obtain ⟨o, ho, hc, n, hd⟩ := pl
    exact call_list_seq p (.inr rfl) ho hc hd (fun h' c' kp e => fin its r' hz h' c' kp e) (by simp only [List.size_toArray] <;> (first | lia | omega))
theorem call_tuple_of : CallR X (.type "tuple") (fun xs H Q => ∃ p ys, xs = [.ref p] ∧ ((SqL X.K H p ys ∧ ∀ l, H l = none → Q (.ref l) (upd H l (.tup ys))) ∨ (SqT X.K H p ys ∧ Q (.ref p) H))) := by
  intro pins s σ H xs us Q I r h
  obtain ⟨p, ys, rfl, h⟩ := h
  obtain ⟨u, rfl, rx⟩ := vals1 r
  cases rx
  rcases h with ⟨hq, q⟩ | ⟨hq, q⟩
  · obtain ⟨its, r', pl, hz⟩ := I.list hq
    have hlen := r'.length
    refine call_tuple_list pl.isList (fun h' kp => ?_) (by simp only [List.size_toArray] <;> (first | lia | omega))
    have I1 : Inv X pins σ H { s with heap := h' } := I.kept (t' := s.toks) kp
    have I2 : Inv X pins σ (upd H h'.objs.size (.tup ys)) { s with heap := h'.push { cls := .type "tuple", data := .seq its.toArray } } :=
      I1.laid (t' := s.toks) (fun b o e => Heap.get?_push_of_some _ e) (Nat.le_refl _) (show ObjOk X.prog X.w _ _ _ (.tup ys) from ⟨hz, its, r', IsTup.new _ _⟩)
    exact ⟨.ref h'.objs.size, _, I2, rfl, q _ (I1.hok.fresh (Nat.le_refl _))⟩
  · obtain ⟨its, r', pl, hz⟩ := I.tuple hq
    exact call_tuple_same pl ⟨.ref p, H, I, rfl, q⟩

/-! ### the call of a builtin's method: o.m(..) -/
/-- the value is of that builtin type -/
def tyV (K : PySem.W.Frag) (T : String) (x : V) (H : Hp) : Prop := match x with
  | .str _ => T = "str"
  | .int _ => T = "int"
  | .ref p => (T = "list" ∧ ∃ xs, SqL K H p xs) ∨ (T = "tuple" ∧ ∃ o, K.lookup p = some o ∧ o.cls = .type "tuple" ∧ o.dict = none) ∨
      (T = "dict" ∧ ((∃ kvs, H p = some (.dK kvs)) ∨ ∃ kvs, H p = some (.dT kvs))) ∨ (T = "set" ∧ ∃ S n, H p = some (.set S n))
  | _ => False
theorem tyV_is {pins : List (Addr × Obj)} {σ : St} {H : Hp} {s : Shared} {T : String} {x : V} {v : Value} (I : Inv X pins σ H s) (r : RelV x v) (ty : tyV X.K T x H) :
    s.TypeIs v T ∧ ∀ a, v = .ref a → ∃ ob, s.heap.get? a = some ob ∧ ob.dict = none := by
  cases x with
  | str z =>
    obtain ⟨t, rfl⟩ := r
    cases (show T = "str" from ty)
    exact ⟨typeIs_str s z t, fun _ e => nomatch e⟩
  | int i =>
    obtain ⟨t, rfl⟩ := r
    cases (show T = "int" from ty)
    exact ⟨typeIs_int s i t, fun _ e => nomatch e⟩
  | ref p =>
    cases r
    rcases ty with ⟨rfl, xs, hq⟩ | ⟨rfl, o, hk, hc, hd⟩ | ⟨rfl, hk⟩ | ⟨rfl, S, n, hk⟩
    · obtain ⟨its, _, pl, _⟩ := I.list hq
      refine ⟨pl.isList.typeIs, fun a e => ?_⟩
      cases e
      obtain ⟨o, n, e, c, hd, _⟩ := pl
      exact ⟨o, e, hd⟩
    · refine ⟨⟨o, I.kIn p o hk, hc⟩, fun a e => ?_⟩
      cases e
      exact ⟨o, I.kIn _ o hk, hd⟩
    · have z : ∃ o, s.heap.get? p = some o ∧ o.ExactDict := by
        rcases hk with ⟨kvs, hk⟩ | ⟨kvs, hk⟩
        · obtain ⟨_, _, _, _, o, _, _, e, ex, _⟩ := I.hok p _ hk
          exact ⟨o, e, ex⟩
        · obtain ⟨_, _, _, _, o, _, _, e, ex, _⟩ := I.hok p _ hk
          exact ⟨o, e, ex⟩
      obtain ⟨o, e, ex⟩ := z
      refine ⟨⟨o, e, ex.1⟩, fun a e2 => ?_⟩
      cases e2
      exact ⟨o, e, ex.2.1⟩
    · obtain ⟨o, _, _, _, e, ex, _⟩ := I.hok p _ hk
      refine ⟨⟨o, e, ex.1⟩, fun a e2 => ?_⟩
      cases e2
      exact ⟨o, e, ex.2.1⟩
  | _ => exact False.elim ty
def tBM0 (K : PySem.W.Frag) (T : String) (r : V → List V → Hp → VK → Prop) (to : TE) : TE := fun σ H Q => to σ H fun x H1 => tyV K T x H1 ∧ r x [] H1 Q
def tBM (K : PySem.W.Frag) (T : String) (r : V → List V → Hp → VK → Prop) (to : TE) (t : TA) : TE := fun σ H Q => to σ H fun x H1 => tyV K T x H1 ∧ t σ H1 fun xs H2 => r x xs H2 Q
variable {o e : Expr} {es : List Expr} {to : TE} {t : TA} {name : Str} {apos cpos : Pos} {T id : String} {r : V → List V → Hp → VK → Prop}
theorem pe_bm0 (pa : PlainAttrs T) (slot : Slot T name id) (hty : typeOf (.builtin id) = pure (.type "method_descriptor")) (hm : MtR X id r) (ho : PE X o to)
    (hbase : attributeBase o name X.env (eval o X.env) = eval o X.env := by rfl) (hline : (apos.endLine == cpos.line) = true := by rfl) : PE X (.Call (.Attribute o name apos) [] [] cpos) (tBM0 X.K T r to) := by
  intro pins s σ H Q I h
  refine wpAny_Call_method0_late hbase hline (thn (ho pins s σ H _ I h) fun v s1 ⟨x, H1, I1, r1, ty, q1⟩ => ?_)
  obtain ⟨h1, h2⟩ := tyV_is I1 r1 ty
  exact ⟨T, id, pa, slot, hty, h1, h2, Calls.callWith_builtin rfl (PySem.evalArgs_none (hm pins s1 σ H1 x [] v [] Q I1 r1 .nil q1))⟩
theorem pe_bm (pa : PlainAttrs T) (slot : Slot T name id) (hty : typeOf (.builtin id) = pure (.type "method_descriptor")) (hm : MtR X id r) (ho : PE X o to) (ha : PA X (e :: es) t)
    (hbase : attributeBase o name X.env (eval o X.env) = eval o X.env := by rfl)
    (hfew : ((backTo cpos (starEach (e :: es) X.env)).all (fun x => !x.1) && (backToKw cpos (keywordEach [] X.env)).all (fun x => x.1.isSome)
      && decide ((e :: es).length + ([] : List Keyword).length + (if ([] : List Keyword).isEmpty then 0 else 1) < 30)) = true := by rfl)
    (hline : (apos.endLine == cpos.line) = true := by rfl) (hs : starEach (e :: es) X.env = (false, eval e X.env) :: starEach es X.env := by rfl) (hplain : (backTo cpos (starEach es X.env)).any (·.1) = false := by rfl) :
    PE X (.Call (.Attribute o name apos) (e :: es) [] cpos) (tBM X.K T r to t) := by
  intro pins s σ H Q I h
  refine wpAny_Call_method_late hbase hfew hline rfl (thn (ho pins s σ H _ I h) fun v s1 ⟨x, H1, I1, r1, ty, q1⟩ => ?_)
  obtain ⟨h1, h2⟩ := tyV_is I1 r1 ty
  refine ⟨T, id, pa, slot, hty, h1, h2, ?_⟩
  have hA := ha cpos pins s1 σ H1 _ I1 q1
  rw [hs] at hA ⊢
  refine Calls.callWith_builtin (by show (false || (backTo cpos (starEach es X.env)).any (·.1)) = false; rw [hplain] <;> rfl) (Calls.evalArgs_plain ?_)
  exact thn hA fun us s2 ⟨vs, H2, I2, r2, q2⟩ => hm pins s2 σ H2 x vs v us Q I2 r1 r2 q2
/- xs.append(e), list.index on a module's tuple .. are MtR facts of 06m -/
end
end L2

namespace L2
open PySem PySem.Spec PyProof.Rows

def MtM (X : Cx) (id : String) (r : V → List V → Hp → VK → Prop) : Prop :=
  ∀ (pins : List (Addr × Obj)) (s : Shared) (σ : St) (H : Hp) (x : V) (xs : List V) (v : Value) (us : List Value) (Q : VK), Inv X pins σ H s → RelV x v → Vals xs us → r x xs H Q →
    wpAny (model X.prog X.w) X.A (call (.builtin id) (v :: us)) (EP X pins σ Q) X.xe s

/-! ### lists of values -/
theorem Vals.one : ∀ {x : V} {us : List Value}, Vals [x] us → ∃ u, us = [u] ∧ RelV x u
  | _, _, .cons r .nil => ⟨_, rfl, r⟩
theorem Vals.two : ∀ {x y : V} {us : List Value}, Vals [x, y] us → ∃ u v, us = [u, v] ∧ RelV x u ∧ RelV y v
  | _, _, _, .cons r (.cons q .nil) => ⟨_, _, rfl, r, q⟩
theorem Vals.zero : ∀ {us : List Value}, Vals [] us → us = []
  | _, .nil => rfl
theorem Vals.dropLast {xs : List V} {us : List Value} (h : Vals xs us) : Vals xs.dropLast us.dropLast := by
  induction h with
  | nil => exact .nil
  | cons r t ih =>
    cases t with
    | nil => exact .nil
    | cons q t' => exact .cons r ih
theorem Vals.reverse {xs : List V} {us : List Value} (h : Vals xs us) : Vals xs.reverse us.reverse := by
  induction h with
  | nil => exact .nil
  | cons r t ih => rw [List.reverse_cons, List.reverse_cons]; exact Vals.append ih (.cons r .nil)
theorem Vals.rep {xs : List V} {us : List Value} (h : Vals xs us) : ∀ k : Nat, Vals (List.replicate k xs).flatten (List.replicate k us).flatten
  | 0 => .nil
  | k + 1 => by
    rw [List.replicate_succ, List.replicate_succ, List.flatten_cons, List.flatten_cons]
    exact Vals.append h (Vals.rep h k)
theorem erase_last {α : Type} (l : List α) : l.eraseIdx (l.length - 1) = l.dropLast := by
  induction l with
  | nil => rfl
  | cons a r ih =>
    cases r with
    | nil => rfl
    | cons b r =>
      have e : (a :: b :: r).length - 1 = ((b :: r).length - 1) + 1 := by
        have h1 : (a :: b :: r).length = r.length + 2 := rfl
        have h2 : (b :: r).length = r.length + 1 := rfl
        (first | lia | omega)
      rw [e, List.eraseIdx_cons_succ, ih]
      all_goals rfl
theorem foldl_rep (its : List Value) : ∀ (k : Nat) (acc : List Value),
    List.foldl (fun x1 x2 => x1 ++ x2) acc.toArray (List.replicate k its.toArray) = (acc ++ (List.replicate k its).flatten).toArray
  | 0, acc => by simp
  | k + 1, acc => by
    have e : acc.toArray ++ its.toArray = (acc ++ its).toArray := by simp
    have e2 : (acc ++ its) ++ (List.replicate k its).flatten = acc ++ (List.replicate (k + 1) its).flatten := by
      rw [List.replicate_succ, List.flatten_cons, List.append_assoc]
    rw [← e2, ← foldl_rep its k (acc ++ its), ← e, List.replicate_succ, List.foldl_cons]

section
variable {X : Cx} {pins : List (Addr × Obj)} {σ : St} {H : Hp} {s : Shared} {l b : Addr} {xs ys zs : List V}

/-! ### the two steps: a tracked list is rewritten, a new list is laid -/
theorem Inv.lset {its its' : List Value} {n : Nat} {f : Array Value → Array Value} {t' : Nat} (I : Inv X pins σ H s) (hH : H l = some (.lst xs))
    (e : s.heap.get? l = some { cls := .type "list", data := .seq its.toArray n }) (hf : f its.toArray = its'.toArray) (hv : Vals ys its') (hz : ys.length ≤ sizeLine) :
    Inv X pins σ (upd H l (.lst ys)) { s with heap := s.heap.update l (Obj.mapSeq f), toks := t' } := by
  have q := PySem.IsL.update e f
  rw [hf] at q
  refine I.write (x := l) (e := l) (by rw [hH]; exact trivial) (.inl rfl) (fun b' u hb hu => (Heap.get?_update_other s.heap (Obj.mapSeq f) (Ne.symm hb)).trans hu) ⟨_, q⟩ ?_
  exact ⟨hz, its', _, hv, q⟩
theorem Inv.lnew {its : List Value} {t' : Nat} (I : Inv X pins σ H s) (hv : Vals ys its) (hz : ys.length ≤ sizeLine) :
    Inv X pins σ (upd H s.heap.objs.size (.lst ys)) { s with heap := s.heap.push { cls := .type "list", data := .seq its.toArray }, toks := t' } :=
  I.laid (fun _ _ q => Heap.get?_push_of_some _ q) (Nat.le_refl _) ⟨hz, its, 0, hv, Heap.get?_push_size _ rfl⟩
theorem Inv.fresh (I : Inv X pins σ H s) : H s.heap.objs.size = none := I.hok.fresh (Nat.le_refl _)
theorem Inv.lstM (I : Inv X pins σ H s) (hH : H l = some (.lst xs)) : xs.length ≤ sizeLine ∧ ∃ (its : List Value) (n : Nat), Vals xs its ∧ xs.length = its.length ∧ s.heap.get? l = some { cls := .type "list", data := .seq its.toArray n } := by
  obtain ⟨z, its, n, r, e⟩ := I.hok l _ hH
  exact ⟨z, its, n, r, r.length, e⟩

theorem notLongL {n : Nat} (h : n ≤ sizeLine) : Builtin.List.listTooLong n = false := by
  unfold Builtin.List.listTooLong
  exact decide_eq_false (by (first | lia | omega))
end

section
variable {X : Cx}

/-! ### methods -/
def rAppend : V → List V → Hp → VK → Prop := fun x vs H Q => ∃ l xs y, x = .ref l ∧ vs = [y] ∧ H l = some (.lst xs) ∧ xs.length < sizeLine ∧ Q .non (upd H l (.lst (xs ++ [y])))
theorem mt_append : MtM X "list.append" rAppend := by
  intro pins s σ H x vs v us Q I rx rv h
  obtain ⟨l, xs, y, rfl, rfl, hH, hz, q⟩ := h
  cases rx
  obtain ⟨u, rfl, ru⟩ := rv.one
  obtain ⟨z, its, n, r, hl, e⟩ := I.lstM hH
  refine call_meets F.slot_list_append ⟨_, e, rfl⟩ F.entry_list_append (F.args_list_append_2 _ _) (PySem.list_append l its.toArray n u (by rw [List.size_toArray]; (first | lia | omega))) ⟨e, ?_⟩
  refine ⟨.non, _, I.lset (its' := its ++ [u]) hH e (by simp) (r.append (.cons ru .nil)) ?_, rfl, q⟩
  rw [List.length_append, List.length_singleton]
  (first | lia | omega)

def rPop : V → List V → Hp → VK → Prop := fun x vs H Q => ∃ l xs y, x = .ref l ∧ vs = [] ∧ H l = some (.lst xs) ∧ xs[xs.length - 1]? = some y ∧ Q y (upd H l (.lst xs.dropLast))
theorem mt_pop : MtM X "list.pop" rPop := by
  intro pins s σ H x vs v us Q I rx rv h
  obtain ⟨l, xs, y, rfl, rfl, hH, hy, q⟩ := h
  cases rx
  have hus := rv.zero
  subst hus
  obtain ⟨z, its, n, r, hl, e⟩ := I.lstM hH
  obtain ⟨u, hu, ru⟩ := r.get hy
  have hy' : its.toArray[its.toArray.size - 1]? = some u := by
    show its.toArray[its.length - 1]? = some u
    rw [← Array.getElem?_toList, ← hl]
    exact hu
  refine call_meets F.slot_list_pop ⟨_, e, rfl⟩ F.entry_list_pop (F.args_list_pop_1 _) (MeetsSeq.list_pop_last l its.toArray n u hy' (by rw [List.size_toArray]; (first | lia | omega))) ⟨e, ?_⟩
  refine ⟨y, _, I.lset (its' := its.dropLast) hH e ?_ r.dropLast ?_, ru, q⟩
  · show its.toArray.eraseIdxIfInBounds (its.toArray.size - 1) = its.dropLast.toArray
    rw [List.size_toArray, List.eraseIdxIfInBounds_toArray, erase_last]
  · rw [List.length_dropLast]
    (first | lia | omega)

/-! ### list + list, list += list, list * int -/
def rCat : R2 := fun x y H Q => ∃ l b xs zs, x = .ref l ∧ y = .ref b ∧ H l = some (.lst xs) ∧ H b = some (.lst zs) ∧ xs.length + zs.length ≤ sizeLine ∧ ∀ p, H p = none → Q (.ref p) (upd H p (.lst (xs ++ zs)))
theorem op_cat : OpR X (binaryOp .Add) rCat := by
  intro pins s σ H x y v u Q I rx ry h
  obtain ⟨l, b, xs, zs, rfl, rfl, hH, hB, hz, q⟩ := h
  cases rx
  cases ry
  obtain ⟨z, its, n, r, hl, e⟩ := I.lstM hH
  obtain ⟨z2, its2, n2, r2, hl2, e2⟩ := I.lstM hB
  refine PySem.P.add_list e e2 ?_ (by rw [List.size_toArray, List.size_toArray]; (first | lia | omega))
  have ea : its.toArray ++ its2.toArray = (its ++ its2).toArray := by simp
  rw [ea]
  exact ⟨.ref _, _, I.lnew (t' := s.toks) (r.append r2) (by rw [List.length_append]; (first | lia | omega)), rfl, q _ I.fresh⟩
/-- a list times an int (a negative one is nothing) -/
def rRep : R2 := fun x y H Q => ∃ l k xs, x = .ref l ∧ y = .int k ∧ H l = some (.lst xs) ∧ -(2 ^ 63) ≤ k ∧ k < 2 ^ 63 ∧ xs.length * k.toNat ≤ sizeLine ∧
  ∀ p, H p = none → Q (.ref p) (upd H p (.lst (List.replicate k.toNat xs).flatten))
theorem len_rep {α : Type} (xs : List α) (k : Nat) : (List.replicate k xs).flatten.length = k * xs.length := by
  induction k with
  | zero => simp
  | succ k ih => rw [List.replicate_succ, List.flatten_cons, List.length_append, ih, Nat.succ_mul, Nat.add_comm]
theorem op_rep : OpR X (binaryOp .Mult) rRep := by
  intro pins s σ H x y v u Q I rx ry h
  obtain ⟨l, k, xs, rfl, rfl, hH, h1, h2, hz, q⟩ := h
  cases rx
  obtain ⟨t, rfl⟩ := ry
  obtain ⟨z, its, n, r, hl, e⟩ := I.lstM hH
  have hlen : its.toArray.size * k.toNat ≤ sizeLine := by rw [List.size_toArray, ← hl]; exact hz
  have hcap : ¬ its.toArray.size * k.toNat > (2 ^ 63 - 1) / 8 := by
    have : (sizeLine : Nat) ≤ (2 ^ 63 - 1) / 8 := by decide
    (first | lia | omega)
  have hfit : ¬ (!Builtin.List.listFitsIndex k) = true := by
    rw [fitsIndex_both h1 h2]
    exact Bool.false_ne_true
  have hlong : ¬ Builtin.List.listTooLong (its.toArray.size * k.toNat) = true := by
    rw [notLongL hlen]
    exact Bool.false_ne_true
  have hnew : List.foldl (fun x1 x2 => x1 ++ x2) #[] (List.replicate (if its.toArray.isEmpty = true then 0 else k.toNat) its.toArray) = (List.replicate k.toNat its).flatten.toArray := by
    have f0 : ∀ m : Nat, List.foldl (fun x1 x2 => x1 ++ x2) #[] (List.replicate m its.toArray) = (List.replicate m its).flatten.toArray := fun m => by
      have := foldl_rep its m []
      rw [List.nil_append] at this
      exact this
    rw [f0]
    cases its with
    | nil => simp
    | cons a r' => rw [if_neg (by simp)]
  refine wpAny_binaryOp_repeat_ref (T := "list") (U := "int") (by decide) ⟨_, e, rfl⟩ (fun s' => typeIs_int s' k t) noFill_list_mul F.fills_int_mul F.slot_int_rmul repeat_list F.slot_int_index.lookup
    (call_meets F.slot_int_rmul (typeIs_int s k t) F.entry_int_rmul (F.args_int_rmul_2 _ _) (int___rmul___int_list k t l its.toArray n)
      ⟨e, rfl, ⟨_, e, rfl⟩, call_meets F.slot_list_mul ⟨_, e, rfl⟩ F.entry_list_mul (F.args_list_mul_2 _ _) (AutoListH.list___mul___list_int_3 l its.toArray n k t hfit hcap hlong) ⟨e, ?_⟩⟩)
  rw [hnew]
  exact ⟨.ref _, _, I.lnew (t' := s.toks) (r.rep k.toNat) (by rw [len_rep, Nat.mul_comm]; exact hz), rfl, q _ I.fresh⟩

/-! ### del xs[i] -/
end

/-! ### xs[a:b] = ys -/

end L2

namespace Att
open PySem PySem.W PySem.Calls PyProof.Rows

/-! ### the script -/
theorem ints_of_wellAll {P : Params} {h : Heap} : ∀ (ns : List Int) (vs : List Value), WellAll P h vs (ns.map WData.int) → IntsAre vs ns := by
  intro ns
  induction ns with
  | nil =>
    intro vs w
    rw [List.map_nil] at w
    cases w
    exact .nil
  | cons n ns ih =>
    intro vs w
    rw [List.map_cons] at w
    cases w with
    | cons a b =>
      cases a
      exact .cons _ _ (ih _ b)

theorem script_of {l : OpenLaw} {n : Nat} (hn : l.most = some n) {P : Params} {h : Heap} {args : List WData} {vals : List Value}
    (hpre : l.row.toRowW.claim.pre args = true) (hwl : WellAll P h vals args) :
    ∃ a vs ns, vals = [Value.ref a] ∧ args = [WData.list (ns.map WData.int)] ∧ h.get? a = some { cls := .type "list", data := .seq vs.toArray } ∧ IntsAre vs ns ∧ ns.length ≤ n := by
  have hsh : WShape.hasAll [] args [.list .int] = true := (pre_splitW hpre).1
  have hc : l.pre.holds [] { args := args } = true := (pre_splitW hpre).2
  obtain ⟨d, r, rfl, h1, h2⟩ := hasAllW_cons hsh
  obtain rfl := hasAllW_nil h2
  obtain ⟨xs, rfl, h3⟩ := hasW_list h1
  obtain ⟨ns, rfl⟩ := items_int h3
  have hlen : ns.length ≤ n := by
    unfold OpenLaw.pre at hc
    have h4 : (WTm.not (.lt (.lit (.int (n : Int))) (.len (.arg 0)))).holds [] { args := [.list (ns.map .int)] } = true := by
      have h4 := (holds_andW hc).1
      rw [hn] at h4
      exact h4
    have h5 := condW_of h4 (w_not (w_lt w_lit (w_len_list (w_arg rfl))))
    rw [List.length_map] at h5
    refine Nat.le_of_not_lt fun q => ?_
    have q' : (n : Int) < ((ns.length : Nat) : Int) := by (first | lia | omega)
    first
      | (rw [decide_eq_true q'] at h5; exact absurd h5 (by decide))
      | (simp at h5; (first | lia | omega))
  cases hwl with
  | cons w1 w2 =>
    cases w2
    cases w1 with
    | list ho hall => exact ⟨_, _, ns, rfl, rfl, ho, ints_of_wellAll ns _ hall, hlen⟩

theorem post_true (l : OpenLaw) (args : List WData) : l.row.toRowW.claim.post args (.bool true) args = true :=
  postW_of (r := l.row.toRowW) (X := (true == true))
    (show WShape.has [] (.bool true) .bool = true by first | rfl | decide | simp [WShape.has, WShape.arms, WShape.armsAll])
    (show (WTm.eq .res (.lit (.bool true))).value [] { args := args, res := some (.bool true), after := args } = some (.bool (true == true)) from w_eq_bool (w_res rfl) w_lit) rfl

/-! ### the attachment: holds_open's last premise (the goal 'hc' behind k_head) from a wpAny of the law's body -/
/-- the same from a codeAny of the CALL (for a layer whose function contracts speak of calls) -/
theorem attach_call {l : OpenLaw} {n : Nat} {q : Program} {loose : List Str} {XP : (Str → Option Value) → Heap → Prop} {YP : World → Heap → Prop} {d : DefRec}
    (hn : l.most = some n) (hdf : d.params.defaults = [])
    (call : ∀ (w : World) (s₀ s₁ : Shared) (mg mb : Str → Option Value) (fa : Addr) (o : Obj) (pm cd doc : Value) (a : Addr) (vs : List Value) (ns : List Int),
      Ground q loose [] XP w s₀ mg mb s₁.heap → YP w s₁.heap →
      s₁.heap.get? fa = some o → o.data = .func (docDef d.name d.params d.body d.scope pm cd doc) → s₁.heap.CodeRec cd d.name → mg d.name = some (.ref fa) →
      s₁.heap.get? a = some { cls := .type "list", data := .seq vs.toArray } → IntsAre vs ns → ns.length ≤ n → s₁.gens = #[] →
      codeAny (model l.prog w) callerA (.call (.ref fa) ⟨[.ref a], []⟩) (fun r s' => r = .ok (.ret (.bool true)) ∧ OldK s₁.heap s'.heap ∧ s'.os = s₁.os ∧ AllBare s'.gens) s₁) :
    WalkO q loose XP YP l.row.toRowW d [] (fun f vs => PySem.call f vs) := by
  intro w s₀ s₁ mg mb G Y fa o pm cd doc dV kV ho hd hcd hD hmg hg args vals as hpre hlay hrd hwl hlo
  obtain rfl : dV = .none := Dflts.none hD hdf
  obtain rfl : kV = .none := Dflts.noKw hD
  obtain ⟨a, vs, ns, rfl, rfl, hobj, hints, hlen⟩ := script_of hn hpre hwl
  refine enter_call (codeAny_mono (call w s₀ s₁ mg mb fa o pm cd doc a vs ns G Y ho (fd_plain hd) hcd hmg hobj hints hlen hg) fun r s' hq => ?_)
  obtain ⟨rfl, h2, h3, h4⟩ := hq
  exact ⟨.inl ⟨.bool true, .bool true, [], rfl, fun _ => rfl, .bool true, post_true l _, fun _ => ⟨List.Pairwise.nil, fun _ hm => (nomatch hm)⟩⟩, h2, h3, h4⟩

/-! ### rules over ANY heap (no ledger) from facts about the written part K: the library's own take a ledger (News) for what they write -/
end Att

namespace L2
open PySem PySem.Spec PyProof.Rows

theorem vals_ints : ∀ {vs : List Value} {ns : List Int}, IntsAre vs ns → Vals (ns.map V.int) vs
  | _, _, .nil => .nil
  | _, _, .cons n t h => .cons ⟨t, rfl⟩ (vals_ints h)

/-- nothing is tracked but the script, known to the object (or it is an object of the module) -/
def Only (H : Hp) : Prop := ∀ b, H b = none ∨ ∃ o xs, H b = some (.frz o (.lst xs))

/-- THE HEAD: the law's promise, at the heap behind the top. F, the promise of the law's def, may use that base is part of the heap (so K.In base, base.Ns mainGlobals mg stand in Mod) -/
theorem law_call {P : Program} {w : World} {K : PySem.W.Frag} {mg mb : Str → Option Value} {CX : CXT} {k : Nat} {fa a : Addr} {fd : FuncData} {x : Str} {sp : Sp} {s₁ : Shared} {vs : List Value} {ns : List Int}
    (KX : K.In s₁.heap) (hns : s₁.heap.Ns mainGlobals mg) (hb : s₁.heap.Ns builtinsNs mb) (hbb : ∀ x : Str, x ≠ "__name__" → mb x = bootBuiltins x) (hlim : s₁.heap.NoLimit) (hg : s₁.gens = #[])
    (ha : s₁.heap.get? a = some { cls := .type "list", data := .seq vs.toArray }) (hi : IntsAre vs ns) (hl : ns.length ≤ sizeLine) (hr : Room k callerA)
    (F : ∀ base : Heap, K.In base → base.Ns mainGlobals mg → FnOk P w K mg base CX k fa fd [x] sp) (hbind : ∀ (s : Shared) (u : Value), BindsTo s fd ⟨[u], []⟩ [(x, u)])
    (hsp : ∀ H : Hp, Only H → SqL K H a (ns.map V.int) → sp [.ref a] H (fun v _ => v = .bl true) fun _ _ _ => False)
    (hCX : ∀ H e s', CX [] H s₁ (fun _ _ _ => False) e s' → False) :
    codeAny (model P w) callerA (.call (.ref fa) ⟨[.ref a], []⟩) (fun r s' => r = .ok (.ret (.bool true)) ∧ OldK s₁.heap s'.heap ∧ s'.os = s₁.os ∧ AllBare s'.gens) s₁ := by
  have rv := vals_ints hi
  have lenV := hi.length
  -- from an abstract heap in which nothing but the script may be tracked
  have core : ∀ H : Hp, Only H → SqL K H a (ns.map V.int) → HOk P w H s₁.heap → (∀ b, H b ≠ none → b = a) → (H a ≠ none → K.lookup a = none) →
      codeAny (model P w) callerA (.call (.ref fa) ⟨[.ref a], []⟩) (fun r s' => r = .ok (.ret (.bool true)) ∧ OldK s₁.heap s'.heap ∧ s'.os = s₁.os ∧ AllBare s'.gens) s₁ := by
    intro H hO hS hok hA hK
    have base_of : ∀ {b : Addr} {o : Obj}, s₁.heap.get? b = some o → H b = none → (hidT s₁.heap H).get? b = some o := fun e n => hidT_get e n
    have noA : ∀ {b : Addr} {o : Obj} {es : Array DictEntry} {ep : Nat}, s₁.heap.get? b = some o → o.data = .dict es ep → H b = none := fun {b o es ep} e d => by
      cases q : H b with
      | none => rfl
      | some u =>
        have e' : b = a := hA b (by rw [q]; simp)
        subst e'
        rw [ha] at e; cases e
        have d' : Data.seq vs.toArray _ = Data.dict es ep := d
        cases d'
    have nsK : ∀ {b : Addr} {m : Str → Option Value}, s₁.heap.Ns b m → (hidT s₁.heap H).Ns b m := fun {b m} ⟨o, es, ep, e, d, r⟩ => ⟨o, es, ep, base_of e (noA e d), d, r⟩
    have hKb : K.In (hidT s₁.heap H) := fun b o e => base_of (KX b o e) (by
      cases q : H b with
      | none => rfl
      | some u =>
        have e' : b = a := hA b (by rw [q]; simp)
        subst e'
        rw [hK (by rw [q]; simp)] at e; cases e)
    have hM : Mod K mg (hidT s₁.heap H) := ⟨hKb, nsK hns, ⟨mb, nsK hb, hbb⟩, let ⟨mc, h1, h2⟩ := hlim; ⟨mc, nsK h1, h2⟩⟩
    have e0 : Env0 P w K mg (hidT s₁.heap H) callerA [] s₁ H := ⟨rfl, hM, fun b o e => of_hidT e, Nat.le_of_eq (hidT_size _ _), trivial, fun b hb => absurd (show b ∈ ([] : List Addr) from hb) (by simp), hok, .of_eq hg⟩
    refine codeAny_mono ((F _ hKb (nsK hns)).run callerA [] s₁ H ⟨[.ref a], []⟩ [.ref a] [.ref a] _ _ hr e0 (hbind s₁ (.ref a)) (.cons rfl .nil) (hsp H hO hS)) fun r s' h => ?_
    cases r with
    | error e => exact (hCX H e s' h).elim
    | ok fl =>
      cases fl with
      | next => exact False.elim h
      | brk => exact False.elim h
      | cont => exact False.elim h
      | ret u =>
        obtain ⟨v, H', os, bare, un, hok', r', q⟩ := h
        have q' : v = .bl true := q
        subst q'
        obtain rfl : u = Value.bool true := r'
        refine ⟨rfl, OldK.of_keep fun b o e => ?_, os, bare⟩
        cases q : H b with
        | none => exact un.keep b o e q (by intro z; exact absurd (show b ∈ ([] : List Addr) from z) (by simp)) (by simp)
        | some u =>
          rcases hO b with z | ⟨ob, xs, z⟩
          · rw [q] at z; cases z
          · have z2 := un.frzs b ob _ z
            obtain ⟨e1, _⟩ := hok b _ z
            obtain ⟨e2, _⟩ := hok' b _ z2
            rw [e] at e1; cases e1
            exact e2
  cases hk : K.lookup a with
  | some o =>
    -- the script is one of the module's own objects
    have e := KX a o hk
    rw [ha] at e
    cases e
    refine core (fun _ => none) (fun _ => .inl rfl) (.inr ⟨_, vs.toArray, _, hk, rfl, rfl, rfl, by rw [List.size_toArray, lenV]; exact hl, by simpa using rv⟩) (fun b u z => by have z' : (none : Option HO) = some u := z; cases z') (fun b z => absurd rfl z) fun z => absurd rfl z
  | none =>
    refine core (fun b => if b = a then some (.frz { cls := .type "list", data := .seq vs.toArray } (.lst (ns.map V.int))) else none) (fun b => ?_) (.inl (.inr ⟨{ cls := .type "list", data := .seq vs.toArray }, if_pos rfl⟩)) (fun b u z => ?_) (fun b z => ?_) fun _ => hk
    · by_cases hb : b = a
      · exact .inr ⟨_, _, if_pos hb⟩
      · exact .inl (if_neg hb)
    · by_cases hb : b = a
      · have z' := (if_pos hb).symm.trans z
        cases z'
        subst hb
        exact ⟨ha, by rw [List.length_map]; exact hl, vs, _, rv, ha⟩
      · have z' := (if_neg hb).symm.trans z
        cases z'
    · by_cases hb : b = a
      · exact hb
      · exact absurd (if_neg hb) z
end L2

namespace L2
open PySem PySem.Spec PyProof.Rows

/-- the goal that k_head leaves (case hc), from the law's promise. F gives the function object fd (K's own) once, then the promise over every base -/
theorem walk_of {l : PySem.W.OpenLaw} {n k : Nat} {q : Program} {loose : List Str} {XP : (Str → Option Value) → Heap → Prop} {YP : World → Heap → Prop} {d : DefRec} {K : Params → PySem.W.Frag} {CX : World → CXT} {sp : World → Sp} {x : Str}
    (hn : l.most = some n) (hn2 : n ≤ sizeLine) (hdf : d.params.defaults = []) (hr : Room k callerA)
    (hY : ∀ (w : World) (h : Heap), YP w h → (K w.params).In h)
    (F : ∀ (w : World) (mg : Str → Option Value) (fa : Addr) (h : Heap), (K w.params).In h → h.Ns mainGlobals mg → mg d.name = some (.ref fa) →
      ∃ fd : FuncData, (∀ (s : Shared) (u : Value), BindsTo s fd ⟨[u], []⟩ [(x, u)]) ∧
        ∀ base : Heap, (K w.params).In base → base.Ns mainGlobals mg → FnOk l.prog w (K w.params) mg base (CX w) k fa fd [x] (sp w))
    (hsp : ∀ (w : World) (H : Hp) (a : Addr) (ns : List Int), ns.length ≤ n → Only H → SqL (K w.params) H a (ns.map V.int) → sp w [.ref a] H (fun v _ => v = .bl true) fun _ _ _ => False)
    (hCX : ∀ (w : World) (H : Hp) (s : Shared) (e : Value) (s' : Shared), CX w [] H s (fun _ _ _ => False) e s' → False) :
    PySem.W.WalkO q loose XP YP l.row.toRowW d [] (fun f vs => PySem.call f vs) := by
  refine Att.attach_call hn hdf fun w s₀ s₁ mg mb fa o pm cd doc a vs ns G Y ho hd hcd hmg hobj hints hlen hg => ?_
  have KX := hY w _ Y
  obtain ⟨fd, hb, hF⟩ := F w mg fa _ KX G.T.g hmg
  exact law_call KX G.T.g G.T.b G.T.builtins G.T.nolimit hg hobj hints (Nat.le_trans hlen hn2) hr hF hb (fun H hO hS => hsp w H a ns hlen hO hS) fun H e s' => hCX w H s₁ e s'
end L2

/- THE LAST THEOREM (shape; LID, My.* are yours):
   My.Adr: a structure of the addresses that your layer names (classes, functions); My.Txt K t: a structure (Prop) of the equations over K;
   My.txt_mk : {K} {implicit addresses ..} (e1 : nsIn K mainGlobals "law" = some (some (.ref f))) (e2 : K.lookup f = some ⟨oc, od, .func (fnOf "law" "law" params body scope dV kV doc pm an cdv ct), sl⟩) (e3 : codeIn K cdv "law" = true) .. : ∃ t, My.Txt K t

set_option maxRecDepth 100000 in
set_option maxHeartbeats 0 in
theorem PySem.Challenge.cw_LID_holds : PySem.Challenge.rw_LID.Holds := by
  w_on; o_law; k_head; (case hw => w_witness2)
  k_fill
  refine L2.walk_of (l := PySem.Challenge.rw_LID) (n := 63) (k := 40) (x := "script") (CX := fun w => ..) (sp := fun _ => My.sp_law) rfl (by decide) rfl ⟨rfl, by decide, by decide⟩ (fun w h Y => PySem.W.kIn_of Y) ?F ?S ?C
  case F =>
    intro w mg fa h KX G hmg
    have T : ∃ t, My.Txt (L2.KOf KX) t := by
      dsimp only [L2.KOf]                          -- K must stand as «<heap const> w.params» for k_is
      refine' My.txt_mk ?e1 ?e2 ?e3 ..
      (case e1 => PySem.W.k_is)                    -- in the order: a name -> its address -> its object -> its parts
      (case e2 => PySem.W.k_is)
      ..
    obtain ⟨t, T⟩ := T
    have e0 := hmg.symm.trans (PySem.W.mg_of KX G T.law)
    cases e0                                       -- fa is the law's own address
    exact ⟨_, fun s u => .of_eq rfl, fun base kb nb => My.law_fn T kb nb⟩     -- if «.of_eq rfl» comes too early: refine' ⟨_, ?b, fun base kb nb => My.law_fn T kb nb⟩; exact fun s u => .of_eq rfl
  case S => exact fun w H a ns hl hO hS => ..
  case C => exact ..
(the tactic k_is has no namespace: write k_is) -/

/-! SHORT WORDS over the layer: a def of the text, its body, what a loop and a test want. -/
namespace L2
open PySem PySem.Spec PyProof.Rows

/-! ### the text by places -/
def defArgs (s : Stmt) : Arguments := match s with
  | .FunctionDef _ a _ _ _ _ _ _ _ _ => a
  | _ => { posonlyargs := [], args := [], vararg := none, kwonlyargs := [], kw_defaults := [], kwarg := none, defaults := [] }
def defBody (s : Stmt) : List Stmt := match s with
  | .FunctionDef _ _ b _ _ _ _ _ _ _ => b
  | _ => []
def defScope (s : Stmt) : Scope := match s with
  | .FunctionDef _ _ _ _ _ _ sc _ _ _ => sc
  | _ => { kind := .function, names := [], isGenerator := false, isCoroutine := false }

/-! ### no exception leaves a def -/
abbrev CX0 : CXT := fun _ _ _ _ _ _ => False
abbrev E0 : XK := fun _ _ _ => False
theorem pass0 {X : Cx} : Passes CX0 X E0 := fun _ _ _ _ _ _ _ h => h.elim

/-! ### a def (or method) of the text as it stands behind the top -/
structure Fun (K : PySem.W.Frag) (x qual : Str) (st : Stmt) (f : Addr) (fd : FuncData) : Prop where
  ex : ∃ (oc : Value) (od : Option Addr) (kV doc pm : Value) (an : Option Addr) (cdv ct : Value) (osl : Array (Option Value)),
    fd = PySem.W.fnOf x qual (defArgs st) (defBody st) (defScope st) .none kV doc pm an cdv ct ∧ K.lookup f = some ⟨oc, od, .func fd, osl⟩ ∧ PySem.W.codeIn K cdv qual = true
  kp : PySem.W.keepIn K (.ref f) = true
section
variable {P : Program} {w : World} {K : PySem.W.Frag} {mg : Str → Option Value} {base : Heap}
/-- THE RULE for a def: its body as a term of rules, and the reading of that term -/
theorem Fun.ok {x qual : Str} {st : Stmt} {f : Addr} {fd : FuncData} {N ps : List Str} {k : Nat} {sp : Sp} (F : Fun K x qual st f fd) (S : FnScope N ps (defScope st)) (len : ∀ vs H Q E, sp vs H Q E → vs.length = ps.length)
    (hbody : ∀ (cdv : Value) (A : Around) (outer : List Env) (s : Shared) (H : Hp) (vs : List V) (Q : VK) (E : XK), Room k (A.deeper (envOfC qual (defScope st) s.heap.objs.size f cdv)) → sp vs H Q E →
      ∃ t, PSs (cxOf CX0 P w K mg base N qual (defScope st) f cdv A outer s H E).nox (defBody st) t ∧ t { nx := fun _ H' => Q .non H', rt := Q } (start N vs) H) : FnOk P w K mg base CX0 (k + 1) f fd ps sp := by
  obtain ⟨oc, od, kV, doc, pm, an, cdv, ct, osl, rfl, lk, hcd⟩ := F.ex
  refine fn_of lk hcd S len fun A outer s H vs Q E hr hsp => ?_
  obtain ⟨t, h, q⟩ := hbody cdv A outer s H vs Q E hr hsp
  exact ⟨t, h.nox, q⟩
/-- how its arguments bind (no defaults): h is «fun _ _ _ _ _ _ us hl => match us, hl with | [_, _], _ => rfl», one _ a parameter -/
theorem Fun.binds {x qual : Str} {st : Stmt} {f : Addr} {fd : FuncData} {ps : List Str} (F : Fun K x qual st f fd)
    (h : ∀ (kV doc pm : Value) (an : Option Addr) (cdv ct : Value) (us : List Value), us.length = ps.length → bindArgs (PySem.W.fnOf x qual (defArgs st) (defBody st) (defScope st) .none kV doc pm an cdv ct) ⟨us, []⟩ = pure (ps.zip us)) : Binds K fd ps [] := by
  obtain ⟨oc, od, kV, doc, pm, an, cdv, ct, osl, rfl, lk, hcd⟩ := F.ex
  exact .all (h kV doc pm an cdv ct)
theorem fun_mk {x qual : Str} {st : Stmt} {f : Addr} {oc : Value} {od an : Option Addr} {osl : Array (Option Value)} {kV doc pm cdv ct : Value} (l : K.lookup f = some ⟨oc, od, .func (PySem.W.fnOf x qual (defArgs st) (defBody st) (defScope st) .none kV doc pm an cdv ct), osl⟩)
    (c : PySem.W.codeIn K cdv qual = true) (k : PySem.W.keepIn K (.ref f) = true) : Fun K x qual st f (PySem.W.fnOf x qual (defArgs st) (defBody st) (defScope st) .none kV doc pm an cdv ct) := ⟨⟨oc, od, kV, doc, pm, an, cdv, ct, osl, rfl, l, c⟩, k⟩
end
/-! ### expressions in short: the name that stands in the i-th slot -/
section
variable {X : Cx}
theorem pv (i : Nat) {x : Str} {pos : Pos} (hN : X.N[i]? = some x := by rfl) (hv : Vis X.env.scope x := by first | exact Or.inl rfl | exact Or.inr (Or.inl rfl) | exact Or.inr (Or.inr rfl)) (hd : (x == ("__debug__" : Str)) = false := by decide)
    (hcd : (x == ("__classdict__" : Str)) = false := by decide) : PE X (.Name x pos) (tVar i) := pe_var hN hv hd hcd
end

/-! ### tests -/
theorem iteF {A B : Prop} (h : B) : if false = true then A else B := by
  rw [if_neg Bool.false_ne_true]
  exact h
theorem iteT {A B : Prop} (h : A) : if true = true then A else B := by
  rw [if_pos rfl]
  exact h
theorem ite2 {c A B : Prop} [Decidable c] (h1 : c → A) (h2 : ¬ c → B) : if c then A else B := by
  by_cases h : c
  · rw [if_pos h]
    exact h1 h
  · rw [if_neg h]
    exact h2 h
/-! ### heaps -/
/-- all that was tracked is as it was -/
def Same (H H' : Hp) : Prop := ∀ b o, H b = some o → H' b = some o
theorem Same.trans {H H1 H2 : Hp} (a : Same H H1) (b : Same H1 H2) : Same H H2 := fun c o h => b c o (a c o h)
theorem Same.free {H H' : Hp} (e : Same H H') {l : Addr} (h : H' l = Option.none) : H l = Option.none := by
  cases q : H l with
  | none => rfl
  | some o =>
    rw [e l o q] at h
    cases h
theorem Same.seq {K : PySem.W.Frag} {H H' : Hp} {a : Addr} {xs : List V} (e : Same H H') (h : SqL K H a xs) : SqL K H' a xs := by
  rcases h with (h | ⟨o, h⟩) | h
  · exact .inl (.inl (e _ _ h))
  · exact .inl (.inr ⟨o, e _ _ h⟩)
  · exact .inr h

end L2

/-! Groves as data: a grove is nil, or a first tree (tag, what is within) and the others. Words with an end sl. -/
namespace FgM
inductive Gr (A : Type) where
  | nil
  | cons (t : A) (w o : Gr A)
section
variable {A : Type}
def words (sl : A) : Gr A → List A
  | .nil => []
  | .cons t w o => t :: (words sl w ++ sl :: words sl o)
def snoc : Gr A → A → Gr A → Gr A
  | .nil, t, w => .cons t w .nil
  | .cons t' w' o, t, w => .cons t' w' (snoc o t w)
theorem words_snoc (sl : A) (t : A) (w : Gr A) : ∀ g : Gr A, words sl (snoc g t w) = words sl g ++ t :: (words sl w ++ [sl])
  | .nil => by simp [snoc, words]
  | .cons t' w' o => by simp [snoc, words, words_snoc sl t w o]
/-- rows (the innermost first) with the open tags (the innermost first): the words so far -/
def flatR (sl : A) : List (Gr A) → List A → List A
  | [r], [] => words sl r
  | r :: rs, t :: ts => flatR sl rs ts ++ t :: words sl r
  | _, _ => []
theorem flatR_open (sl : A) (t : A) {rs : List (Gr A)} {ts : List A} : flatR sl (.nil :: rs) (t :: ts) = flatR sl rs ts ++ [t] := by
  cases rs <;> simp [flatR, words]
theorem flatR_grow (sl : A) (t : A) (w : Gr A) {r : Gr A} {rs : List (Gr A)} {ts : List A} (h : rs.length = ts.length) :
    flatR sl (snoc r t w :: rs) ts = flatR sl (r :: rs) ts ++ t :: (words sl w ++ [sl]) := by
  cases ts with
  | nil =>
    have : rs = [] := List.eq_nil_of_length_eq_zero (by simpa using h)
    subst this
    simp [flatR, words_snoc]
  | cons t' ts =>
    cases rs with
    | nil => simp at h
    | cons r' rs => simp [flatR, words_snoc]
theorem flatR_close (sl : A) (t : A) {w r : Gr A} {rs : List (Gr A)} {ts : List A} (h : rs.length = ts.length) :
    flatR sl (snoc r t w :: rs) ts = flatR sl (w :: r :: rs) (t :: ts) ++ [sl] := by
  rw [flatR_grow sl t w h]
  simp [flatR]
theorem flatR_ge (sl : A) {r : Gr A} {rs : List (Gr A)} {ts : List A} (h : rs.length = ts.length) : (words sl r).length ≤ (flatR sl (r :: rs) ts).length := by
  cases ts with
  | nil =>
    have : rs = [] := List.eq_nil_of_length_eq_zero (by simpa using h)
    subst this
    simp [flatR]
  | cons t' ts =>
    cases rs with
    | nil => simp at h
    | cons r' rs => simp [flatR]; (first | lia | omega)
section
variable [DecidableEq A]
/-- from h open tags on these words end all tags and no more -/
def Can (sl : A) : Nat → List A → Prop
  | h, [] => h = 0
  | h, w :: ws => if w = sl then 1 ≤ h ∧ Can sl (h - 1) ws else Can sl (h + 1) ws
theorem can_tag {sl w : A} (hw : w ≠ sl) {h : Nat} {ws : List A} : Can sl h (w :: ws) ↔ Can sl (h + 1) ws := by
  simp [Can, hw]
theorem can_end {sl : A} {h : Nat} {ws : List A} : Can sl h (sl :: ws) ↔ 1 ≤ h ∧ Can sl (h - 1) ws := by
  simp [Can]
/-- the words of a grove leave the open tags as they were -/
def Clean (sl : A) : Gr A → Prop
  | .nil => True
  | .cons t w o => t ≠ sl ∧ Clean sl w ∧ Clean sl o
theorem clean_snoc {sl t : A} {w : Gr A} (ht : t ≠ sl) (hw : Clean sl w) : ∀ {g : Gr A}, Clean sl g → Clean sl (snoc g t w)
  | .nil, _ => ⟨ht, hw, trivial⟩
  | .cons _ _ _, ⟨a, b, c⟩ => ⟨a, b, clean_snoc ht hw c⟩
/-- one more open by a tag, one fewer by an end -/
def hgt (sl : A) : List A → Int
  | [] => 0
  | w :: ws => (if w = sl then -1 else 1) + hgt sl ws
end
/-- the stack of words_of: none is an end, some a tree -/
abbrev Item (A : Type) := Option (A × Gr A)
def wi (sl : A) : Item A → List A
  | none => [sl]
  | some (t, w) => t :: (words sl w ++ [sl])
def items : Gr A → List (Item A)
  | .nil => []
  | .cons t w o => some (t, w) :: items o
theorem items_words (sl : A) : ∀ g : Gr A, (items g).flatMap (wi sl) = words sl g
  | .nil => rfl
  | .cons t w o => by simp [items, wi, words, items_words sl o]
/-- what is still to come of a stack, its last one first -/
def toCome (sl : A) (st : List (Item A)) : List A := st.reverse.flatMap (wi sl)
theorem toCome_nil (sl : A) : toCome sl ([] : List (Item A)) = [] := rfl
theorem toCome_snoc (sl : A) (st : List (Item A)) (x : Item A) : toCome sl (st ++ [x]) = wi sl x ++ toCome sl st := by
  simp [toCome]
theorem toCome_grove (sl : A) (g : Gr A) : toCome sl (items g).reverse = words sl g := by
  simp [toCome, items_words]
theorem toCome_tree (sl : A) (st : List (Item A)) (w : Gr A) : toCome sl (st ++ [none] ++ (items w).reverse) = words sl w ++ sl :: toCome sl st := by
  simp [toCome, items_words, wi]
theorem toCome_len (sl : A) : ∀ st : List (Item A), st.length ≤ (toCome sl st).length := by
  intro st
  have h : ∀ l : List (Item A), l.length ≤ (l.flatMap (wi sl)).length := by
    intro l
    induction l with
    | nil => exact Nat.le_refl _
    | cons x l ih =>
      rw [List.flatMap_cons, List.length_append, List.length_cons]
      have : 1 ≤ (wi sl x).length := by cases x with
        | none => exact Nat.le_refl _
        | some p => obtain ⟨t, w⟩ := p; simp [wi]
      (first | lia | omega)
  have := h st.reverse
  rw [List.length_reverse] at this
  exact this
end
end FgM

/-! RULES OF OUR OWN over the layer: isinstance, t[::-1], whole slices of tuples, extend by a tuple, text * int, == of data at any depth, calls of own defs in short. -/
namespace L2
open PySem PySem.Spec PyProof.Rows
theorem bt_list : bootBuiltins "list" = some (.type "list") := by decide +kernel
theorem bt_tuple : bootBuiltins "tuple" = some (.type "tuple") := by decide +kernel
theorem bt_int : bootBuiltins "int" = some (.type "int") := by decide +kernel
theorem bt_bool : bootBuiltins "bool" = some (.type "bool") := by decide +kernel
theorem bt_max : bootBuiltins "max" = some (.builtin "max") := by decide +kernel
theorem bt_min : bootBuiltins "min" = some (.builtin "min") := by decide +kernel
theorem bt_isinstance : bootBuiltins "isinstance" = some (.builtin "isinstance") := by decide +kernel
section
variable {X : Cx}
/-- the name of a built-in type -/
theorem pe_ty {x : Str} {n : String} {pos : Pos} (hg : Gl X x) (hm : X.mg x = none) (hv : bootBuiltins x = some (.type n)) (hn : x ≠ "__name__" := by decide) (hd : (x == ("__debug__" : Str)) = false := by decide) : PE X (.Name x pos) (tC (.ty n)) :=
  pe_bltn (v := .ty n) hg hm hv rfl hn hd
/-- isinstance(x, T), T a built-in type -/
theorem call_isinst : CallR X (.builtin "isinstance") (fun xs H Q => ∃ x n t b, xs = [x, .ty n] ∧ TyOf X.K H x t ∧ PySem.W.kitOne X.K t (.type n) = some b ∧ Q (.bl b) H) := by
  intro pins s σ H xs us Q I r h
  obtain ⟨x, n, t, b, rfl, ty, e, q⟩ := h
  obtain ⟨u, v, rfl, rx, ry⟩ := Vals.two r
  obtain rfl : v = Value.type n := ry
  exact isinst_ok I rx ty e fun tk => ⟨.bl b, H, I.tok tk, rfl, q⟩
end
/-! ### calls of own defs -/
structure Has (P : Program) (w : World) (K : PySem.W.Frag) (mg : Str → Option Value) (base : Heap) (x : Str) (ps : List Str) (k : Nat) (sp : Sp) : Prop where
  ex : ∃ (f : Addr) (fd : FuncData), FnOk P w K mg base CX0 k f fd ps sp ∧ Binds K fd ps [] ∧ PySem.W.keepIn K (.ref f) = true ∧ mg x = some (.ref f)
section
variable {X : Cx} {x : Str} {ps : List Str} {j k : Nat} {sp : Sp} {e : Expr} {es : List Expr} {t : TA} {p pos : Pos}
theorem FnOk.room {P : Program} {w : World} {K : PySem.W.Frag} {mg : Str → Option Value} {base : Heap} {CX : CXT} {f : Addr} {fd : FuncData} (F : FnOk P w K mg base CX j f fd ps sp) (h : j ≤ k) : FnOk P w K mg base CX k f fd ps sp :=
  ⟨F.len, fun A outer s H args us vs Q E hr => F.run A outer s H args us vs Q E (hr.mono h)⟩
theorem pe_has (G : Has X.prog X.w X.K X.mg X.base x ps j sp) (hr : Room k X.A) (hg : Gl X x) (ha : PA X (e :: es) t) (hk : j ≤ k := by decide) (hdb : (x == ("__debug__" : Str)) = false := by decide)
    (he : starEach (e :: es) X.env = (false, eval e X.env) :: starEach es X.env := by rfl) (hpl : (backTo pos (starEach es X.env)).any (·.1) = false := by rfl) :
    PE X (.Call (.Name x p) (e :: es) [] pos) (tCall sp [] E0 t) := by
  obtain ⟨f, fd, F, b, kp, m⟩ := G.ex
  exact pe_call (F.room hk) hr hg m kp b .nil pass0 ha hdb he hpl
end
/-! ### extend by a tuple -/
section
variable {X : Cx}
theorem list_extend_tup (l : Addr) (items : Array Value) (n : Nat) (b : Addr) (items2 : Array Value) (n2 : Nat) (dd2 : Option Addr) (sl2 : Array (Option Value))
    (hs0 : ¬(!items.isEmpty && Builtin.List.listTooLong (items.size + items2.size)) = true) (hs1 : items.size ≤ sizeLine) (hs2 : items.size + items2.size ≤ sizeLine + 1) :
    Meets (Builtin.«list.extend» ⟨[.ref l, .ref b], []⟩) (fun _ R s => s.heap.get? l = some { cls := .type "list", dict := none, data := .seq items n, slots := #[] }
      ∧ s.heap.get? b = some { cls := .type "tuple", dict := dd2, data := .seq items2 n2, slots := sl2 } ∧ R (.ok (.ret Value.none)) { s with heap := s.heap.update l (Obj.mapSeq fun x => x ++ items2), toks := s.toks }) :=
  .of_wp fun prog w A R s h => by
    obtain ⟨hp, g, d, tk, os⟩ := s
    obtain ⟨hl, hb, h⟩ := h
    have f2 := AutoSeq1.sub_tuple_tuple
    have f3 := AutoSeq1.sub_list_list
    have f4 := AutoSeq1.sub_tuple_list
    have f5 := AutoSeq1.sub_list_tuple
    have hz' : (items ++ items2).size ≤ sizeLine + 1 := by
      rw [Array.size_append]
      exact hs2
    wp_walk using (wpAny_updateSeq hl rfl (hz := hs1) (_hz' := hz')), AutoSeq1.wpAny_loadPart' hl, AutoSeq1.wpAny_loadPart' hb
    exact ⟨_, rfl, h⟩
def rExtendT (K : PySem.W.Frag) : V → List V → Hp → VK → Prop := fun x vs H Q => ∃ l b xs zs, x = .ref l ∧ vs = [.ref b] ∧ H l = some (.lst xs) ∧ SqT K H b zs ∧ xs.length + zs.length ≤ sizeLine ∧ Q .non (upd H l (.lst (xs ++ zs)))
theorem mt_extendT : MtM X "list.extend" (rExtendT X.K) := by
  intro pins s σ H x vs v us Q I rx rv h
  obtain ⟨l, b, xs, zs, rfl, rfl, hH, hB, hz, q⟩ := h
  cases rx
  obtain ⟨u, rfl, ru⟩ := rv.one
  cases ru
  obtain ⟨z, its, n, r, hl, e⟩ := I.lstM hH
  obtain ⟨its2, r2, tup, z2⟩ := I.tuple hB
  obtain ⟨⟨cls, dd, data, sl⟩, ho, hc, n2, hd⟩ := tup
  simp only at hc hd
  subst hc hd
  have hl2 := r2.length
  have hsz : its.toArray.size + its2.toArray.size ≤ sizeLine := by
    rw [List.size_toArray, List.size_toArray, ← hl, ← hl2]
    exact hz
  have hlong : ¬ (!its.toArray.isEmpty && Builtin.List.listTooLong (its.toArray.size + its2.toArray.size)) = true := by
    rw [notLongL hsz, Bool.and_false]
    exact Bool.false_ne_true
  refine call_meets F.slot_list_extend ⟨_, e, rfl⟩ F.entry_list_extend (F.args_list_extend_2 _ _)
    (list_extend_tup l its.toArray n b its2.toArray n2 dd sl hlong (by rw [List.size_toArray]; (first | lia | omega)) (by (first | lia | omega))) ⟨e, ho, ?_⟩
  refine ⟨.non, _, I.lset (its' := its ++ its2) hH e (by simp) (r.append r2) ?_, rfl, q⟩
  rw [List.length_append]
  (first | lia | omega)
end
/-! ### text * int -/
end L2
namespace HT
open PySem PyProof.Rows
section
variable {prog : Program} {w : World} {A : Around} {E : Value → Shared → Prop} {s : Shared}
theorem adjust_rev (n : Nat) : Builtin.Slice.sliceAdjust none none (-1) (n : Int) = ((n : Int) - 1, -1) := by
  unfold Builtin.Slice.sliceAdjust
  rfl
theorem places_rev (n : Nat) : Builtin.Slice.slicePlaces ((n : Int) - 1) (-1) (-1) = n := by
  unfold Builtin.Slice.slicePlaces
  have h1 : ¬ ((-1 : Int) > 0) := by (first | lia | omega)
  have h2 : (-(-1 : Int)) = 1 := rfl
  simp only [h1, if_false, h2, Int.ediv_one]
  split <;> (first | lia | omega)
theorem sliceApplied_rev {sl : Addr} {vl vu vs : Value} {n : Nat} {Q : Int × Int × Nat → Shared → Prop} (hs : s.heap.IsSliceOf sl vl vu vs) (pl : IsPart vl none) (pu : IsPart vu none) (ps : IsPart vs (some (-1)))
    (h : Q ((n : Int) - 1, -1, n) s) : wpAny (model prog w) A (Builtin.Slice.sliceApplied (.ref sl) (pure (n : Int))) Q E s := by
  obtain ⟨os, hos, hcs, hds⟩ := id hs
  unfold Builtin.Slice.sliceApplied Builtin.Slice.sliceFields
  refine wpAny_bind (wpAny_bind (wpAny_field hos hds (x := vl) rfl (wpAny_bind (wpAny_field hos hds (x := vu) rfl (wpAny_bind (wpAny_field hos hds (x := vs) rfl (wpAny_pure ?_)))))))
  refine wpAny_bind (slicePart_ ps ?_)
  show wpAny _ _ (if ((-1 : Int) == 0) = true then _ else _) _ _ s
  rw [if_neg (by decide)]
  refine wpAny_bind (slicePart_ pl (wpAny_bind (slicePart_ pu (wpAny_bind (wpAny_pure ?_)))))
  show wpAny _ _ (match Builtin.Slice.sliceAdjust none none (-1) (n : Int) with | (lo, hi) => pure (lo, (-1 : Int), Builtin.Slice.slicePlaces lo hi (-1))) _ _ s
  rw [adjust_rev n]
  show wpAny _ _ (pure ((n : Int) - 1, (-1 : Int), Builtin.Slice.slicePlaces ((n : Int) - 1) (-1) (-1))) _ _ s
  rw [places_rev]
  exact wpAny_pure h
theorem pick_rev {α : Type} (l : List α) : ∀ k : Nat, k ≤ l.length → ((List.range k).filterMap fun (m : Nat) => l.toArray[((l.length : Int) - 1 + (m : Int) * (-1)).toNat]?) = l.reverse.take k
  | 0, _ => by simp
  | k + 1, hk => by
    rw [List.range_succ, List.filterMap_append, pick_rev l k (by (first | lia | omega)), List.take_succ]
    congr 1
    have e : ((l.length : Int) - 1 + (k : Int) * (-1)).toNat = l.length - 1 - k := by (first | lia | omega)
    simp only [List.filterMap_cons, List.filterMap_nil, e, List.getElem?_toArray]
    rw [List.getElem?_reverse (by (first | lia | omega))]
    cases l[l.length - 1 - k]? <;> rfl
theorem getItem_tuple_rev {t sl : Addr} {its : List Value} {vl vu vs : Value} {Q : Value → Shared → Prop} (ht : IsTup s.heap t its.toArray) (hs : s.heap.IsSliceOf sl vl vu vs) (pl : IsPart vl none) (pu : IsPart vu none) (ps : IsPart vs (some (-1)))
    (h : Q (.ref s.heap.objs.size) { s with heap := s.heap.push { cls := .type "tuple", data := .seq its.reverse.toArray } })
    (hsz : its.length ≤ sizeLine) : wpAny (model prog w) A (getItem (.ref t) (.ref sl)) Q E s := by
  have hok : sizeOk (.seq its.reverse.toArray) := by
    show its.reverse.toArray.size ≤ sizeLine
    rw [List.size_toArray, List.length_reverse]
    exact hsz
  obtain ⟨os, hos, hcs, hds⟩ := id hs
  have hTs : s.TypeIs (.ref sl) "slice" := ⟨os, hos, hcs⟩
  unfold getItem
  try with_reducible refine wpAny_holding ?_
  first | refine wpAny_bind (wpAny_pure ?_) | skip
  refine wpAny_bind (wpAny_sequenceKey ht.typeIs (by decide) ?_)
  refine wpAny_bind (wpAny_callSpecial?_slot (name := Str.ofString "__getitem__") ht.typeIs PyProof.Rows.slot_tuple_getitem
    (wpAny_call_entry PyProof.Rows.slot_tuple_getitem ht.typeIs entry_tuple_getitem ?_ (args_tuple_getitem _ _)))
  show wpAny _ _ (Builtin.Tuple.tupleItemsOf (.ref t) >>= _) _ _ s
  refine wpAny_bind (tupleItemsOf_ ht ?_)
  refine wpAny_bind (wpAny_typeOf hTs ?_)
  rw [if_pos (by decide)]
  refine wpAny_bind (sliceApplied_rev (n := its.toArray.size) hs pl pu ps ?_)
  have hno : ¬ (((its.toArray.size : Int) - 1 == 0 && (-1 : Int) == 1 && its.toArray.size == its.toArray.size) = true) := by
    intro q
    rw [Bool.and_eq_true, Bool.and_eq_true] at q
    exact absurd q.1.2 (by decide)
  show wpAny _ _ (if ((its.toArray.size : Int) - 1 == 0 && (-1 : Int) == 1 && its.toArray.size == its.toArray.size) = true then _ else _) _ _ s
  have hp := pick_rev its its.length (Nat.le_refl _)
  rw [List.take_of_length_le (by simp)] at hp
  rw [if_neg hno]
  simp only [List.size_toArray]
  rw [hp]
  first
    | exact wpAny_bind (m := Builtin.Tuple.tupleExact _) (wpAny_newObj_type (wpAny_pure ⟨_, rfl, wpAny_pure h⟩) hok)
    | exact wpAny_bind (m := Builtin.Tuple.tupleExact _) (wpAny_newObj_type (wpAny_bind (wpAny_pure (wpAny_pure ⟨_, rfl, wpAny_pure h⟩))) hok)
    | exact wpAny_bind (wpAny_bind (m := Builtin.Tuple.tupleExact _) (wpAny_newObj_type (wpAny_pure (wpAny_pure ⟨_, rfl, wpAny_pure h⟩)) hok))
    | exact wpAny_bind (wpAny_bind (m := Builtin.Tuple.tupleExact _) (wpAny_newObj_type (wpAny_pure ⟨_, rfl, wpAny_pure h⟩) hok))
end
end HT

namespace L2
open PySem PySem.Spec PyProof.Rows
/-! ### == and != of data at any depth -/
mutual
inductive Dp (K : PySem.W.Frag) (H : Hp) : V → PyData → Prop
  | non : Dp K H .non .none
  | bl (b : Bool) : Dp K H (.bl b) (.bool b)
  | int (i : Int) : Dp K H (.int i) (.int i)
  | str (x : Str) : Dp K H (.str x) (.str x)
  | lst {a : Addr} {xs : List V} {ds : List PyData} : SqL K H a xs → DpAll K H xs ds → Dp K H (.ref a) (.list ds)
  | tup {a : Addr} {xs : List V} {ds : List PyData} : SqT K H a xs → DpAll K H xs ds → Dp K H (.ref a) (.tuple ds)
inductive DpAll (K : PySem.W.Frag) (H : Hp) : List V → List PyData → Prop
  | nil : DpAll K H [] []
  | cons {v : V} {vs : List V} {d : PyData} {ds : List PyData} : Dp K H v d → DpAll K H vs ds → DpAll K H (v :: vs) (d :: ds)
end
section
variable {X : Cx} {pins : List (Addr × Obj)} {σ : St} {H : Hp} {s : Shared}
mutual
theorem Dp.reads (I : Inv X pins σ H s) : ∀ {v : V} {d : PyData} {u : Value}, Dp X.K H v d → RelV v u → ∃ as, Reads s.heap u d as
  | _, _, u, .non, r => by
    obtain rfl : u = Value.none := r
    exact ⟨_, .none⟩
  | _, _, u, .bl b, r => by
    obtain rfl : u = Value.bool b := r
    exact ⟨_, .bool b⟩
  | _, _, _, .int i, ⟨t, e⟩ => by
    subst e
    exact ⟨_, .int i t⟩
  | _, _, _, .str x, ⟨t, e⟩ => by
    subst e
    exact ⟨_, .str x t⟩
  | _, _, u, @Dp.lst _ _ a xs ds hq hall, r => by
    obtain rfl : u = Value.ref a := r
    obtain ⟨its, rv, ⟨o, n, e, hc, _, hd⟩, _⟩ := I.list hq
    obtain ⟨as, ha⟩ := DpAll.reads I hall rv
    exact ⟨_, .list e hc hd (by simpa using ha)⟩
  | _, _, u, @Dp.tup _ _ a xs ds hq hall, r => by
    obtain rfl : u = Value.ref a := r
    obtain ⟨its, rv, ⟨o, e, hc, n, hd⟩, _⟩ := I.tuple hq
    obtain ⟨as, ha⟩ := DpAll.reads I hall rv
    exact ⟨_, .tuple e hc hd (by simpa using ha)⟩
theorem DpAll.reads (I : Inv X pins σ H s) : ∀ {vs : List V} {ds : List PyData} {us : List Value}, DpAll X.K H vs ds → Vals vs us → ∃ as, ReadsAll s.heap us ds as
  | _, _, _, .nil, .nil => ⟨_, .nil⟩
  | _, _, _, .cons h t, .cons r rs => by
    obtain ⟨as, ha⟩ := Dp.reads I h r
    obtain ⟨bs, hb⟩ := DpAll.reads I t rs
    exact ⟨_, .cons ha hb⟩
end
end
section
variable {X : Cx}
def rEqD (K : PySem.W.Frag) (neg : Bool) : R2 := fun x y H Q => ∃ d e, Dp K H x d ∧ Dp K H y e ∧ d.canLay0 = true ∧ e.canLay0 = true ∧ min d.depth e.depth ≤ 200 ∧ Q (.bl (if neg then !PyData.eqv d e else PyData.eqv d e)) H
theorem op_eqD (hu : X.A.units + 200 < cLine) : OpR X (compareOp .Eq) (rEqD X.K false) := by
  intro pins s σ H x y v u Q I rx ry h
  obtain ⟨d, e, hx, hy, h1, h2, hd, q⟩ := h
  obtain ⟨as, ra⟩ := hx.reads I rx
  obtain ⟨bs, rb⟩ := hy.reads I ry
  exact PySem.SeqAt.compareEq_reads ra rb h1 h2 (by (first | lia | omega)) ⟨.bl _, H, I, rfl, q⟩
theorem op_neD (hu : X.A.units + 200 < cLine) : OpR X (compareOp .NotEq) (rEqD X.K true) := by
  intro pins s σ H x y v u Q I rx ry h
  obtain ⟨d, e, hx, hy, h1, h2, hd, q⟩ := h
  obtain ⟨as, ra⟩ := hx.reads I rx
  obtain ⟨bs, rb⟩ := hy.reads I ry
  exact PySem.SeqAt.compareNe_reads ra rb h1 h2 (by (first | lia | omega)) ⟨.bl _, H, I, rfl, q⟩
theorem hu_room {A : Around} {k : Nat} (hr : Room k A) : A.units + 200 < cLine := by
  have := hr.un
  (first | lia | omega)
end
/-! ### t[::-1], slices of tuples whole or not -/
section
variable {X : Cx} {e : Expr} {te : TE} {pos p2 p3 p4 : Pos} {j : Nat}
def rRevT (K : PySem.W.Frag) : V → Hp → VK → Prop := fun x H Q => ∃ a xs, x = .ref a ∧ SqT K H a xs ∧ ∀ p, H p = none → Q (.ref p) (upd H p (.tup xs.reverse))
theorem pe_revT (he : PE X e te) : PE X (.Subscript e (.Slice none none (some (.UnaryOp .USub (.Constant (.int 1) j p4) p3)) p2) pos) (tUn (rRevT X.K) te) := by
  intro pins s σ H Q I h
  refine Subscript_ (thn (he pins s σ H _ I h) fun v s1 ⟨x, H1, I1, r1, q1⟩ => ?_)
  obtain ⟨a, xs, rfl, hx, q⟩ := q1
  cases r1
  refine wpAny_Slice (thn (po_none pins s1 σ H1 (fun o H' => o = none ∧ H' = H1) I1 ⟨rfl, rfl⟩) fun vl s2 ⟨l, H2, I2, pl, el, eh⟩ => ?_)
  subst el eh
  refine thn (po_none pins s2 σ H2 (fun o H' => o = none ∧ H' = H2) I2 ⟨rfl, rfl⟩) fun vu s3 ⟨u, H3, I3, pu, el, eh⟩ => ?_
  subst el eh
  refine thn (po_some (pe_un un_neg pe_int) pins s3 σ H3 (fun o H' => o = some (-1) ∧ H' = H3) I3 ⟨1, rfl, -1, rfl, rfl, rfl⟩) fun vt s4 ⟨o, H4, I4, pt, el, eh⟩ => ?_
  subst el eh
  have I5 : Inv X pins σ H4 { s4 with heap := s4.heap.push { cls := .type "slice", data := .fields #[vl, vu, vt] } } := I4.kept (t' := s4.toks) fun b ob q => Heap.get?_push_of_some _ q
  obtain ⟨its, r, ht, hz⟩ := I5.tuple hx
  have hlen := r.length
  show wpAny (model X.prog X.w) X.A (subscriptTail e (.Slice none none (some (.UnaryOp .USub (.Constant (.int 1) j p4) p3)) p2) (.ref a) (.ref s4.heap.objs.size)) (EP X pins σ Q) X.xe { s4 with heap := s4.heap.push { cls := .type "slice", data := .fields #[vl, vu, vt] } }
  refine tail_any (ops := [.ref a, .ref s4.heap.objs.size]) ht.typeIs PyProof.Rows.slot_tuple_getitem.lookup (HT.getItem_tuple_rev ht (Heap.IsSliceOf.new ..) pl pu pt ?_ (by (first | lia | omega))) (by with_unfolding_all rfl)
  refine ⟨.ref _, _, I5.laid (t' := s4.toks) (o := .tup xs.reverse) (fun b ob q => Heap.get?_push_of_some _ q) (Nat.le_refl _) ?_, rfl, q _ (I5.hok.fresh (Nat.le_refl _))⟩
  exact ⟨by rw [List.length_reverse]; exact hz, _, r.reverse, IsTup.new _ _⟩
end
/-! ### heaps: tuples are kept -/
/-- what is no list that may change: the tuples stay -/
def TK (H H' : Hp) : Prop := ∀ b xs, H b = some (.tup xs) → H' b = some (.tup xs)
theorem TK.trans {H H1 H2 : Hp} (a : TK H H1) (b : TK H1 H2) : TK H H2 := fun c xs h => b c xs (a c xs h)
theorem TK.new {H : Hp} {p : Addr} {o : HO} (h : H p = none) : TK H (upd H p o) := fun b xs q => by
  rw [upd_ne (ne_of_none q h)]
  exact q
theorem TK.lst {H : Hp} {p : Addr} {xs : List V} {o : HO} (h : H p = some (.lst xs)) : TK H (upd H p o) := fun b ys q => by
  by_cases e : b = p
  · subst e
    rw [h] at q
    cases q
  · rw [upd_ne e]
    exact q
theorem Same.tk {H H' : Hp} (h : Same H H') : TK H H' := fun b xs q => h b _ q
theorem Same.new {H : Hp} {p : Addr} {o : HO} (h : H p = none) : Same H (upd H p o) := fun b u q => by
  rw [upd_ne (ne_of_none q h)]
  exact q
theorem Same.upd_new {H H' : Hp} {p : Addr} {o : HO} (h : Same H H') (hp : H p = none) : Same H (upd H' p o) := fun b u q => by
  rw [upd_ne (ne_of_none q hp)]
  exact h b u q
end L2
namespace L2
open PySem PySem.Spec PyProof.Rows
theorem Same.seqT {K : PySem.W.Frag} {H H' : Hp} {a : Addr} {xs : List V} (e : Same H H') (h : SqT K H a xs) : SqT K H' a xs := by
  rcases h with (h | ⟨o, h⟩) | h
  · exact .inl (.inl (e _ _ h))
  · exact .inl (.inr ⟨o, e _ _ h⟩)
  · exact .inr h
theorem upd_none {H : Hp} {p b : Addr} {o : HO} (h : upd H p o b = none) : b ≠ p ∧ H b = none := by
  by_cases e : b = p
  · subst e
    rw [upd_same] at h
    cases h
  · rw [upd_ne e] at h
    exact ⟨e, h⟩
end L2
namespace L2
open PySem PySem.Spec PyProof.Rows
end L2
namespace L2
open PySem PySem.Spec PyProof.Rows
end L2
namespace L2
end L2

namespace L2
open PySem PySem.Spec PyProof.Rows
section
variable {X : Cx}
/-- a tuple is no text -/
theorem op_eq_tupstr (hu : X.A.units + 200 < cLine) : OpR X (compareOp .Eq) (fun x y H Q => ∃ a xs z, x = .ref a ∧ y = .str z ∧ SqT X.K H a xs ∧ Q (.bl false) H) := by
  intro pins s σ H x y v u Q I rx ry h
  obtain ⟨a, xs, z, rfl, rfl, hx, q⟩ := h
  cases rx
  obtain ⟨t, rfl⟩ := ry
  obtain ⟨its, r, ⟨o, e, hc, n, hd⟩, _⟩ := I.tuple hx
  exact PySem.SeqAt.RcAt.tuple_str z t ⟨o, e, hc, n, hd⟩ (by (first | lia | omega)) X.prog X.w X.xe _ ⟨.bl false, H, I, rfl, q⟩
theorem op_eqTS (hu : X.A.units + 200 < cLine) : OpR X (compareOp .Eq) (fun x y H Q => (∃ a xs z, x = .ref a ∧ y = .str z ∧ SqT X.K H a xs ∧ Q (.bl false) H) ∨ rEq x y H Q) := (op_eq_tupstr hu).or op_eq
end
theorem Paired.app {α β : Type} {F : α → β → Prop} : ∀ {l₁ k₁ : List α} {l₂ k₂ : List β}, Paired F l₁ l₂ → Paired F k₁ k₂ → Paired F (l₁ ++ k₁) (l₂ ++ k₂)
  | _, _, _, _, .nil, s => s
  | _, _, _, _, .cons r t, s => .cons r (Paired.app t s)
theorem Paired.unsnoc {α β : Type} {F : α → β → Prop} : ∀ {l : List α} {a : α} {l₂ : List β}, Paired F (l ++ [a]) l₂ → ∃ k b, l₂ = k ++ [b] ∧ Paired F l k ∧ F a b
  | [], _, _, .cons r .nil => ⟨[], _, rfl, .nil, r⟩
  | x :: l, a, _, .cons r t => by
    obtain ⟨k, b, e, p, f⟩ := Paired.unsnoc (l := l) t
    exact ⟨_ :: k, b, by rw [e]; rfl, .cons r p, f⟩
theorem snoc_of {α : Type} {l : List α} (h : l ≠ []) : ∃ k a, l = k ++ [a] := ⟨l.dropLast, l.getLast h, (List.dropLast_concat_getLast h).symm⟩
theorem snoc_last {α : Type} (l : List α) (a : α) : (l ++ [a])[(l ++ [a]).length - 1]? = some a := by
  simp
theorem snoc_drop {α : Type} (l : List α) (a : α) : (l ++ [a]).dropLast = l := by
  simp
end L2
namespace Fg
open PySem L2 FgM
abbrev SL : Str := "/"
/-- the tuples bear a grove -/
inductive RepG (H : Hp) : List V → Gr Str → Prop
  | nil : RepG H [] .nil
  | cons {p q : Addr} {t : Str} {ys vs : List V} {w o : Gr Str} : H p = some (.tup [.str t, .ref q]) → H q = some (.tup ys) → RepG H ys w → RepG H vs o → RepG H (.ref p :: vs) (.cons t w o)
theorem RepG.mono {H H' : Hp} (k : TK H H') : ∀ {vs : List V} {g : Gr Str}, RepG H vs g → RepG H' vs g
  | _, _, .nil => .nil
  | _, _, .cons h1 h2 h3 h4 => .cons (k _ _ h1) (k _ _ h2) (h3.mono k) (h4.mono k)
theorem RepG.snoc {H : Hp} {p q : Addr} {t : Str} {ys : List V} {w : Gr Str} (h1 : H p = some (.tup [.str t, .ref q])) (h2 : H q = some (.tup ys)) (h3 : RepG H ys w) :
    ∀ {vs : List V} {g : Gr Str}, RepG H vs g → RepG H (vs ++ [.ref p]) (snoc g t w)
  | _, _, .nil => .cons h1 h2 h3 .nil
  | _, _, .cons a b c d => .cons a b c (RepG.snoc h1 h2 h3 d)
theorem RepG.length {H : Hp} : ∀ {vs : List V} {g : Gr Str}, RepG H vs g → vs.length ≤ (words SL g).length
  | _, _, .nil => Nat.le_refl _
  | _, _, .cons _ _ _ d => by
    have := d.length
    simp only [List.length_cons, words, List.length_append]
    (first | lia | omega)
/-- an item of the stack -/
def RepI (H : Hp) (v : V) : Item Str → Prop
  | none => v = .str SL
  | some (t, w) => ∃ p q ys, v = .ref p ∧ H p = some (.tup [.str t, .ref q]) ∧ H q = some (.tup ys) ∧ RepG H ys w
theorem RepI.mono {H H' : Hp} (k : TK H H') {v : V} : ∀ {x : Item Str}, RepI H v x → RepI H' v x
  | none, h => h
  | some _, ⟨p, q, ys, e, a, b, c⟩ => ⟨p, q, ys, e, k _ _ a, k _ _ b, c.mono k⟩
theorem RepG.items {H : Hp} : ∀ {vs : List V} {g : Gr Str}, RepG H vs g → Paired (RepI H) vs (items g)
  | _, _, .nil => .nil
  | _, _, .cons a b c d => .cons ⟨_, _, _, rfl, a, b, c⟩ d.items
theorem paired_rev {α β : Type} {F : α → β → Prop} : ∀ {l₁ : List α} {l₂ : List β}, Paired F l₁ l₂ → Paired F l₁.reverse l₂.reverse
  | _, _, .nil => .nil
  | _, _, .cons r t => by
    rw [List.reverse_cons, List.reverse_cons]
    exact Paired.app (paired_rev t) (.cons r .nil)
theorem stk_mono {H H' : Hp} (k : TK H H') {vs : List V} {st : List (Item Str)} (h : Paired (RepI H) vs st) : Paired (RepI H') vs st := Paired.mapP h fun _ _ r => r.mono k
/-- rows under way, the innermost first -/
abbrev RowsR (H : Hp) : List Addr → List (Gr Str) → Prop := Paired fun a g => ∃ vs, H a = some (.lst vs) ∧ RepG H vs g
theorem rows_mono {H H' : Hp} (k : TK H H') : ∀ {as : List Addr} {gs : List (Gr Str)}, RowsR H as gs → (∀ b ∈ as, ∀ o, H b = some o → H' b = some o) → RowsR H' as gs
  | _, _, .nil, _ => .nil
  | _, _, .cons ⟨vs, h1, h2⟩ t, hk => .cons ⟨vs, hk _ (List.mem_cons_self ..) _ h1, h2.mono k⟩ (rows_mono k t fun b hb => hk b (List.mem_cons_of_mem _ hb))
theorem rows_there {H : Hp} : ∀ {as : List Addr} {gs : List (Gr Str)}, RowsR H as gs → ∀ b ∈ as, ∃ o, H b = some o
  | _, _, .nil, _, hb => nomatch hb
  | _, _, .cons ⟨vs, h1, _⟩ t, b, hb => by
    rcases List.mem_cons.mp hb with rfl | hb
    · exact ⟨_, h1⟩
    · exact rows_there t b hb
/-- small letters, one or more -/
def Lets (t : Str) : Prop := t.cps.toList ≠ [] ∧ ∀ c ∈ t.cps.toList, 97 ≤ c ∧ c ≤ 122
def Let0 (t : Str) : Prop := ∀ c ∈ t.cps.toList, 97 ≤ c ∧ c ≤ 122
theorem app_cps (x y : Str) : (x ++ y).cps.toList = x.cps.toList ++ y.cps.toList := by
  show (x.cps ++ y.cps).toList = _
  simp
theorem let0_app {x y : Str} (hx : Let0 x) (hy : Let0 y) : Let0 (x ++ y) := fun c hc => by
  rw [app_cps] at hc
  exact (List.mem_append.mp hc).elim (hx c) (hy c)
theorem Lets.let0 {t : Str} (h : Lets t) : Let0 t := h.2
theorem Lets.ne {t : Str} (h : Lets t) : t ≠ SL := fun e => by
  subst e
  have := h.2 47 (by decide)
  (first | lia | omega)
def ABC : Str := "abcdefghijklmnopqrstuvwxyz"
theorem abc_all : ∀ n : _root_.Fin 26, 97 ≤ ABC.cps.toList.getD n.val 0 ∧ ABC.cps.toList.getD n.val 0 ≤ 122 ∧ n.val < ABC.cps.toList.length := by decide
theorem abc_at {i : Int} (h0 : 0 ≤ i) (h1 : i < 26) : ∃ c, atI ABC.cps.toList i = some c ∧ 97 ≤ c ∧ c ≤ 122 := by
  obtain ⟨n, rfl⟩ := Int.eq_ofNat_of_zero_le h0
  obtain ⟨a, b, c⟩ := abc_all ⟨n, by (first | lia | omega)⟩
  refine ⟨_, atI_nat (List.getElem?_eq_getElem c), ?_, ?_⟩
  · rw [List.getD_eq_getElem?_getD, List.getElem?_eq_getElem c] at a
    exact a
  · rw [List.getD_eq_getElem?_getD, List.getElem?_eq_getElem c] at b
    exact b
theorem ints_at {ns : List Int} {k : Int} (h0 : 0 ≤ k) (h : k < (ns.length : Int)) : ∃ v : Int, atI (ns.map V.int) k = some (.int v) := by
  obtain ⟨n, rfl⟩ := Int.eq_ofNat_of_zero_le h0
  have hn : n < ns.length := by (first | lia | omega)
  exact ⟨ns[n], atI_nat (by rw [List.getElem?_map, List.getElem?_eq_getElem hn]; rfl)⟩
theorem strs_at {ws : List Str} {n : Nat} (h : n < ws.length) : atI (ws.map V.str) ((n : Nat) : Int) = some (.str ws[n]) := atI_nat (by rw [List.getElem?_map, List.getElem?_eq_getElem h]; rfl)
end Fg

namespace Fg
open PySem L2 FgM
/-! ### what the laws' own helpers promise -/
/-- script[k], or 0: some int -/
def spCell (K : PySem.W.Frag) : Sp := fun vs H Q _ => ∃ (a : Addr) (ns : List Int) (k : Int), vs = [.ref a, .int k] ∧ SqL K H a (ns.map V.int) ∧ ns.length ≤ 63 ∧ 0 ≤ k ∧ ∀ v : Int, Q (.int v) H
/-- the words of a grove -/
def spWords (K : PySem.W.Frag) : Sp := fun vs H Q _ => ∃ (a : Addr) (xs : List V) (g : Gr Str), vs = [.ref a] ∧ SqT K H a xs ∧ RepG H xs g ∧ (words SL g).length ≤ 1000 ∧
  ∀ (r : Addr) (H' : Hp), Same H H' → H r = none → H' r = some (.lst ((words SL g).map V.str)) → Q (.ref r) H'
def spLaw (K : PySem.W.Frag) : Sp := fun vs H Q _ => ∃ (a : Addr) (ns : List Int), vs = [.ref a] ∧ SqL K H a (ns.map V.int) ∧ ns.length ≤ 63 ∧ ∀ H', Q (.bl true) H'
theorem len1000 {n : Nat} (h : n ≤ 100000) : n ≤ sizeLine := Nat.le_trans h (by decide)
theorem len1000' {n : Nat} (h : n ≤ 100000) : n < sizeLine := Nat.lt_of_le_of_lt h (by decide)
end Fg
namespace Fg
open PySem L2 FgM
theorem app_len (x y : Str) : (x ++ y).length = x.length + y.length := by
  show (x.cps ++ y.cps).size = _
  rw [Array.size_append]
  rfl
end Fg
namespace Fg
open PySem L2 FgM
theorem max_pos (j : Int) : (0 : Int) < if j > 1 then j else 1 := by
  split
  · rename_i h
    exact Int.lt_trans (by decide) h
  · decide
end Fg
namespace Fg
open PySem L2 FgM
theorem cut_from (xs : List V) (n : Nat) : cutV xs (some (n : Int)) none = xs.drop n := by
  unfold cutV
  rw [HT.sIx_nat, HT.sIx_none]
  rw [List.take_of_length_le (by rw [List.length_drop]; exact Nat.le_refl _)]
  by_cases h : n ≤ xs.length
  · rw [Nat.min_eq_left h]
  · rw [Nat.min_eq_right (by (first | lia | omega)), List.drop_length, List.drop_eq_nil_of_le (by (first | lia | omega))]
end Fg
namespace Fg
open PySem L2 FgM
end Fg

namespace L2
open PySem PySem.Spec PyProof.Rows
section
variable {X : Cx}
/-- xs == [] -/
theorem op_eq_nil (hu : X.A.units + 200 < cLine) : OpR X (compareOp .Eq) (fun x y H Q => ∃ a b xs, x = .ref a ∧ y = .ref b ∧ SqL X.K H a xs ∧ SqL X.K H b [] ∧ Q (.bl xs.isEmpty) H) := by
  intro pins s σ H x y v u Q I rx ry h
  obtain ⟨a, b, xs, rfl, rfl, ha, hb, q⟩ := h
  cases xs with
  | nil => exact op_eqD hu pins s σ H _ _ v u Q I rx ry ⟨.list [], .list [], .lst ha .nil, .lst hb .nil, rfl, rfl, by decide, q⟩
  | cons x xs =>
    cases rx
    cases ry
    obtain ⟨its, r, pl, _⟩ := I.list ha
    obtain ⟨its2, r2, pl2, _⟩ := I.list hb
    have l1 := r.length
    have l2 := r2.length
    refine PySem.SeqAt.RcAt.lists_lengths pl.isList pl2.isList ?_ (by (first | lia | omega)) X.prog X.w X.xe _ ⟨.bl _, H, I, rfl, q⟩
    rw [List.size_toArray, List.size_toArray, ← l1, ← l2]
    rfl
end
end L2
namespace Fg
open PySem L2 FgM
/-! ### groves as texts -/
/-! ### what the laws want of texts -/
end Fg

/-! Texts: their signs walked, cut and compared; all(..) of truths; the comprehension of a tag's test. -/
namespace L2
open PySem PySem.Spec PyProof.Rows
/-! ### for x in text -/
/-! ### all(..), texts compared and cut -/
section
variable {X : Cx}
theorem sl_str : SlR X (fun x lo hi H Q => ∃ z, x = .str z ∧ z.length ≤ sizeLine ∧ Q (.str (PySem.StrLaws.sliceText z lo hi)) H) := by
  intro pins s σ H x v vl vu lo hi sl Q I rx hs pl pu h
  obtain ⟨z, rfl, hz, q⟩ := h
  obtain ⟨t, rfl⟩ := rx
  refine ⟨"str", _, F.slot_str_getitem.lookup, typeIs_str s z t, ?_⟩
  have key : ∀ l u : Option (Int × Tok), s.heap.IsSlice sl l u none → l.map (·.1) = lo → u.map (·.1) = hi → wpAny (model X.prog X.w) X.A (getItem (.str z t) (.ref sl)) (EP X pins σ Q) X.xe s := by
    intro l u hsl el eu
    refine wpAny_getItem_str_slice hsl rfl ?_
    unfold sliceMade slicePicked
    rw [el, eu]
    unfold PySem.StrLaws.sliceText at q
    by_cases c : ((1 : Int) == 1 && (Builtin.Str.strSliceIndices lo hi 1 z.length).length == z.length) = true
    · rw [if_pos c] at q
      rw [if_pos (show ((((none : Option (Int × Tok)).map (·.1)).getD 1 == 1) && (Builtin.Str.strSliceIndices lo hi (((none : Option (Int × Tok)).map (·.1)).getD 1) z.length).length == z.length) = true from c)]
      exact ⟨.str z, H, I, ⟨_, rfl⟩, q⟩
    · rw [if_neg c] at q
      rw [if_neg (show ¬ ((((none : Option (Int × Tok)).map (·.1)).getD 1 == 1) && (Builtin.Str.strSliceIndices lo hi (((none : Option (Int × Tok)).map (·.1)).getD 1) z.length).length == z.length) = true from c)]
      refine ⟨?_, .str _, H, I.tok _, ⟨_, rfl⟩, q⟩
      show (((Builtin.Str.strSliceIndices lo hi 1 z.length).filterMap (z.cps[·]?)).toArray).size ≤ sizeLine
      rw [List.size_toArray]
      refine Nat.le_trans (List.length_filterMap_le _ _) (Nat.le_trans ?_ hz)
      refine sliceRange_length_le _ _ _ _ (fun _ => ?_) (fun z => absurd (by decide) z)
      cases lo with
      | none =>
        cases hi with
        | none => exact ⟨Int.le_refl 0, Int.le_refl _⟩
        | some j => exact ⟨Int.le_refl 0, by simp only [show (1 : Int) > 0 by decide, if_true]; (first | lia | omega)⟩
      | some i =>
        cases hi with
        | none => exact ⟨by simp only [show (1 : Int) > 0 by decide, if_true]; (first | lia | omega), Int.le_refl _⟩
        | some j => exact ⟨by simp only [show (1 : Int) > 0 by decide, if_true]; (first | lia | omega), by simp only [show (1 : Int) > 0 by decide, if_true]; (first | lia | omega)⟩
  cases pl with
  | none =>
    cases pu with
    | none => exact key none none hs rfl rfl
    | int j tj => exact key none (some (j, tj)) hs rfl rfl
  | int i ti =>
    cases pu with
    | none => exact key (some (i, ti)) none hs rfl rfl
    | int j tj => exact key (some (i, ti)) (some (j, tj)) hs rfl rfl
end
/-! ### ['a' <= x <= 'z' for x in text] -/
end L2

namespace L2
open PySem
end L2
namespace Fg
open PySem L2 FgM
end Fg

/-! for i, x in enumerate(xs) -/
namespace L2
open PySem PySem.Spec PyProof.Rows
theorem bt_enumerate : bootBuiltins "enumerate" = some (.type "enumerate") := by decide +kernel
def Ite (K : PySem.W.Frag) (l : Addr) : It :=
  ⟨fun i H => ∃ xs x, SqL K H l xs ∧ xs[i]? = some x, fun i H x H' => ∃ p, H p = none ∧ x = .ref p ∧ ∀ xs, SqL K H l xs → ∃ y, xs[i]? = some y ∧ H' = upd H p (.tup [.int i, y]), fun i H => ∃ xs, SqL K H l xs ∧ xs.length ≤ i⟩
theorem turn_enum {P : Program} {w : World} {K : PySem.W.Frag} {elts : List Expr} {x1} {tp : Pos} (l e it : Addr) (hne : e ≠ it) :
    Turn P w K (.Tuple elts x1 tp) (Ite K l) [e, it] e (fun i h => (∃ old, IsEnum h e it (i : Int) old) ∧ h.IsListIter it l i) where
  mem := by simp
  obj := fun i h st b hb => by
    obtain ⟨⟨old, he⟩, o, ho, hc, hd⟩ := st
    rcases List.mem_cons.mp hb with rfl | hb
    · exact ⟨_, he, fun v z => by cases z⟩
    · obtain rfl := List.mem_singleton.mp hb
      exact ⟨o, ho, fun v z => by rw [hd] at z; cases z⟩
  keep := fun i h h' st k => by
    obtain ⟨⟨old, he⟩, o, ho, r⟩ := st
    exact ⟨⟨old, k e (by simp) _ he⟩, o, k it (by simp) o ho, r⟩
  item := by
    intro X hP hw hK hc i pins s σ H E I hf st hg
    subst hP hw hK
    obtain ⟨⟨old, he⟩, hit⟩ := st
    obtain ⟨xs, x, hq, hx⟩ := hg
    obtain ⟨its, rv, pl, hz⟩ := I.list hq
    obtain ⟨u, hu, ru⟩ := rv.get hx
    have fe := hf e (by simp)
    have fi := hf it (by simp)
    refine wpAny_pyNext_enum_item he hit pl.isList (x := u) (by simpa using hu) hne fun h1 he1 hit1 ht1 hz1 hk1 => ⟨_, rfl, wpAny_letOwnedTupleGo_enum he1 fun h2 he2 hs2 => ?_⟩
    have hfresh : H s.heap.objs.size = none := I.hok.fresh (Nat.le_refl _)
    have nee : s.heap.objs.size ≠ e := Nat.ne_of_gt (Heap.lt_size he)
    obtain ⟨oi, hoi, _⟩ := id hit
    have nei : s.heap.objs.size ≠ it := Nat.ne_of_gt (Heap.lt_size hoi)
    have kp : ∀ b o, b ∉ [e, it] → s.heap.get? b = some o → h2.get? b = some o := fun b o hb q => by
      have b1 : b ≠ e := fun z => hb (by rw [z]; simp)
      have b2 : b ≠ it := fun z => hb (by rw [z]; simp)
      exact (hs2.2 b b1).trans (hk1 b o b1 b2 q)
    have hp2 : h2.get? s.heap.objs.size = some { cls := .type "tuple", data := .seq #[.int i s.toks, u] } := (hs2.2 _ nee).trans ht1
    have nb : ∀ b o, s.heap.get? b = some o → b ≠ s.heap.objs.size := fun b o q => Nat.ne_of_lt (Heap.lt_size q)
    have tracked : ∀ b o, H b = some o → b ∉ [e, it] := fun b o q hb => by
      rcases List.mem_cons.mp hb with rfl | hb
      · rw [fe.1] at q
        cases q
      · obtain rfl := List.mem_singleton.mp hb
        rw [fi.1] at q
        cases q
    have it2 : h2.IsListIter it l (i + 1) := by
      obtain ⟨o, ho, r⟩ := hit1
      exact ⟨o, (hs2.2 it hne.symm).trans ho, r⟩
    have hok2 : HOk X.prog X.w (upd H s.heap.objs.size (.tup [.int i, x])) h2 := fun b o q => by
      by_cases hb : b = s.heap.objs.size
      · subst hb
        rw [upd_same] at q
        cases q
        exact ⟨by show 2 ≤ sizeLine; decide, [.int i s.toks, u], .cons ⟨_, rfl⟩ (.cons ru .nil), _, hp2, rfl, _, rfl⟩
      · rw [upd_ne hb] at q
        refine (I.hok b o q).stay (fun c v hcv r => kp c v ?_ r) (fun c r => by rw [upd_ne (ne_of_none r hfresh)]; exact r) fun c ys r => by rw [upd_ne (ne_of_none r hfresh)]; exact r
        rcases hcv with rfl | hcv
        · exact tracked _ _ q
        · exact tracked _ _ hcv
    have I2 : Inv X pins σ (upd H s.heap.objs.size (.tup [.int i, x])) { s with heap := h2, gens := s.gens, drawn := s.drawn, toks := s.toks + 1 } := by
      refine I.step (ch := [e, it]) (fun b hb => ?_) (fun b o _ _ hb q _ => kp b o hb q) (fun b o _ _ hb q _ => ⟨o.slots, kp b o hb q⟩) (fun b o _ q n => by rw [upd_ne (nb b o q)]; exact n) (fun b o hb q => ⟨o, kp b o hb q⟩)
        (fun b ys q => by rw [upd_ne (ne_of_none q hfresh)]; exact q) (fun b o ys q => by rw [upd_ne (ne_of_none q hfresh)]; exact q) (fun b ps q => ⟨#[], by rw [upd_ne (ne_of_none q hfresh), q]; simp⟩) (fun m hm => ?_) hok2 I.bare
      · have f : FpOk X pins H b := hf b hb
        exact ⟨f.2.2.2.1, f.2.1, f.2.2.2.2.1, f.2.2.2.2.2⟩
      · obtain ⟨o, es, ep, ho, r⟩ := hm
        refine ⟨o, es, ep, kp _ o (fun hb => ?_) ho, r⟩
        exact (hf _ hb).2.1 rfl
    refine ⟨.ref s.heap.objs.size, _, I2, rfl, ⟨_, hfresh, rfl, fun ys hy => ⟨x, by rw [I.list_inj hy hq]; exact hx, rfl⟩⟩, ⟨⟨_, he2⟩, it2⟩, fun b hb => ?_⟩
    rcases List.mem_cons.mp hb with rfl | hb
    · rw [upd_ne nee.symm]
      exact fe.1
    · obtain rfl := List.mem_singleton.mp hb
      rw [upd_ne nei.symm]
      exact fi.1
  done := by
    intro X hP hw hK hc i pins s σ H E I hf st hg
    subst hP hw hK
    obtain ⟨⟨old, he⟩, hit⟩ := st
    obtain ⟨xs, hq, hx⟩ := hg
    obtain ⟨its, rv, pl, hz⟩ := I.list hq
    obtain ⟨f0, f1, f2, f3, f4, f5⟩ := hf it (by simp)
    have hlen := rv.length
    exact wpAny_pyNext_enum_end (I.ok.hd hc) he hit pl.isList (by simp; (first | lia | omega)) fun h' eb => ⟨rfl, I.turned (t' := s.toks) (fun b o hb q => eb b o hb q) f0 f1 f3 f4 f5⟩
  self := fun _ _ _ _ _ st h => by
    obtain ⟨⟨old, he⟩, _⟩ := st
    exact wpAny_pyIter_enum he h
section
variable {X : Cx} {elts : List Expr} {x1 : Nat} {tp : Pos}
def iEnum (K : PySem.W.Frag) (tl : TA) : TI := fun σ H R => tl σ H fun vs H1 => ∃ a xs, vs = [.ref a] ∧ SqL K H1 a xs ∧ R (Ite K a) H1
theorem pi_enum {l : Expr} {ta : TA} {p pos : Pos} (hg : Gl X "enumerate") (hm : X.mg "enumerate" = none) (ha : PA X [l] ta) (hs : starEach [l] X.env = [(false, eval l X.env)] := by rfl) :
    PI X (.Tuple elts x1 tp) (.Call (.Name "enumerate" p) [l] [] pos) (iEnum X.K ta) := by
  intro pins s σ H R I h
  refine Call_ (ld_blt I hg hm bt_enumerate (PyProof.Rows.callWith_type1 (thn (ha pos pins s σ H _ I h) fun us s1 ⟨vs, H1, I1, r1, q1⟩ => ?_) hs rfl))
  obtain ⟨a, xs, e, hq, q⟩ := q1
  subst e
  obtain ⟨u, rfl, ru⟩ := Vals.one r1
  cases ru
  obtain ⟨its, rv, pl, hz⟩ := I1.list hq
  refine call_enumerate_list pl.isList fun h' he hit hz' hk => wpAny_pyIter_enum he ?_
  refine ⟨s1.heap.objs.size + 1, [s1.heap.objs.size + 1, s1.heap.objs.size], _, _, H1, rfl, I1.kept (t' := s1.toks) hk, turn_enum a _ _ (Nat.succ_ne_self _), ⟨⟨_, he⟩, hit⟩, fun b hb => ?_, q⟩
  have hb' : s1.heap.objs.size ≤ b := by
    rcases List.mem_cons.mp hb with rfl | hb
    · exact Nat.le_succ _
    · rw [List.mem_singleton.mp hb]
      exact Nat.le_refl _
  exact I1.fpOk hb' (I1.hok.fresh hb')
end
theorem for_enum {K : PySem.W.Frag} {a : Addr} {xs : List V} {g : TG} {tb : TS} {D : Ends} {σ : St} {H : Hp} (Pv : Nat → St → Hp → Prop) (h0 : Pv 0 σ H) (hl : ∀ i σ H, i ≤ xs.length → Pv i σ H → SqL K H a xs)
    (hs : ∀ i y p σ H, xs[i]? = some y → Pv i σ H → H p = none → g (.ref p) σ (upd H p (.tup [.int i, y])) fun σ2 H2 => tb { D with nx := Pv (i + 1), ct := Pv (i + 1), bk := D.nx } σ2 H2) (hd : ∀ σ H, Pv xs.length σ H → D.nx σ H) :
    ∃ W : Nat → Nat → St → Hp → Prop, (∃ m, W 0 m σ H) ∧ ∀ i m σ H, W i m σ H →
      ((Ite K a).stop i H ∧ D.nx σ H) ∨ ((Ite K a).go i H ∧ ∃ N : St → Hp → Prop, (∀ σ' H', N σ' H' → ∃ m', m' < m ∧ W (i + 1) m' σ' H') ∧ ∀ x H', (Ite K a).yld i H x H' → g x σ H' fun σ2 H2 => tb { D with nx := N, ct := N, bk := D.nx } σ2 H2) := by
  refine ⟨fun i m σ H => m = xs.length - i ∧ i ≤ xs.length ∧ Pv i σ H, ⟨xs.length, by simp, Nat.zero_le _, h0⟩, ?_⟩
  rintro i m σ H ⟨rfl, hi, p⟩
  have q := hl i σ H hi p
  by_cases hlt : i < xs.length
  · refine .inr ⟨⟨xs, xs[i], q, by simp [hlt]⟩, Pv (i + 1), fun σ' H' p' => ⟨xs.length - (i + 1), by (first | lia | omega), rfl, hlt, p'⟩, fun x H' y => ?_⟩
    obtain ⟨b, hb, hx, hy⟩ := y
    obtain ⟨z, hz, hH⟩ := hy xs q
    subst hx hH
    exact hs i z b σ H hz p hb
  · have e : i = xs.length := by (first | lia | omega)
    subst e
    exact .inl ⟨⟨xs, q, Nat.le_refl _⟩, hd σ H p⟩
end L2

/-! [elt for tg in iter]: the block as a context of its own -/
namespace L2
open PySem PySem.Spec PyProof.Rows
section
variable {prog : Program} {w : World} {A : Around} {s : Shared} {R : Result → Shared → Prop}
abbrev no0 : Value → Shared → Prop := fun _ _ => False
theorem comp_loop0 {elt target iter : Expr} {scope : Scope} {pos : Pos} {it acc : Value} {env : Env} (I : Nat → Shared → Prop)
    (turn : ∀ n s, I n s → wpAny (model prog w) A (pyNext it) (fun r s1 => match r with
      | none => R (.ok .next) s1
      | some v => wpAny (model prog w) A (letOwnedTupleGo target it v) (fun _ s2 => wpAny (model prog w) A (assign target env v) (fun _ s3 => wpAny (model prog w) A (eval elt env) (fun x s4 =>
          wpAny (model prog w) A (call (.builtin "list.append") [acc, x]) (fun _ s5 => ∃ m, m < n ∧ I m s5) no0 s4) no0 s3) no0 s2) no0 s1) no0 s)
    (n : Nat) (h : I n s) : codeAny (model prog w) A (.compLoop (.ListComp elt [⟨target, iter, [], 0⟩] scope pos) 0 it acc env) R s := by
  refine codeAny_loop rfl I (fun n s hI => ?_) n h
  show wpAny _ _ ((compTurn (.ListComp elt [⟨target, iter, [], 0⟩] scope pos) 0 it acc env).onRaise (fun x => do noteFrame x env; theTreesLotGoes x)) _ _ s
  refine wpAny_noted ?_
  rw [compTurn_list1]
  refine wpAny_bind (wpAny_standAt (wpAny_bind (wpAny_mono (turn n s hI) (fun r s1 h1 => ?_) fun _ _ h' => h'.elim)))
  cases r with
  | none => exact wpAny_pure h1
  | some v =>
    refine wpAny_bind (wpAny_mono h1 (fun _ s2 h2 => ?_) fun _ _ h' => h'.elim)
    refine wpAny_bind (wpAny_mono h2 (fun _ s3 h3 => ?_) fun _ _ h' => h'.elim)
    refine wpAny_bind (wpAny_bind (wpAny_mono h3 (fun x s4 h4 => ?_) fun _ _ h' => h'.elim))
    exact wpAny_bind (wpAny_mono h4 (fun _ s5 h5 => wpAny_pure (wpAny_pure ⟨rfl, h5⟩)) fun _ _ h' => h'.elim)
end
/-- the context of a comprehension's block: its frame at C, the cells cl of captured names, the iterator's records fp -/
def cxComp (X : Cx) (N : List Str) (scope : Scope) (cl : List (Str × Addr)) (C : Addr) (fp : List Addr) (s : Shared) (H : Hp) : Cx where
  prog := X.prog
  w := X.w
  K := X.K
  mg := X.mg
  base := X.base
  A := X.A
  N := N
  s₀ := s
  H₀ := H
  env := compEnvC scope cl C X.env
  outer := X.stack
  stack := X.stack
  ex := fp
  fn := fun _ => false
  calm := X.calm
  pn := []
  xe := no0
section
variable {X : Cx} {pins : List (Addr × Obj)} {σ : St} {H : Hp} {s : Shared}
theorem cxComp_ok {N : List Str} {scope : Scope} {cl : List (Str × Addr)} {C : Addr} {fp : List Addr} (I : Inv X pins σ H s) (hk : scope.kind = .function) (hC : s.heap.objs.size ≤ C) (hcl : ∀ x c, cl.lookup x = some c → X.env.cells.lookup x = some c)
    (hhas : ∀ x, ((compEnvC scope cl C X.env).kindOf x = some .cell ∨ (compEnvC scope cl C X.env).kindOf x = some .free) → ∃ c, cl.lookup x = some c)
    (hf : ∀ b ∈ fp, FpOk X pins H b) (hlt : ∀ b ∈ fp, b < s.heap.objs.size) : (cxComp X N scope cl C fp s H).Ok where
  mod := I.ok.mod
  kind := hk
  glob := I.ok.glob
  blt := I.ok.blt
  above := hC
  inj := fun x y c e1 e2 => I.ok.inj x y c (hcl x c e1) (hcl y c e2)
  has := hhas
  cab := fun x c e => by cases e
  hd := I.ok.hd
  frames := I.ok.frames
  stk := .inl rfl
  exf := fun b hb => ⟨fun z => absurd (Nat.lt_of_lt_of_le (hlt b hb) hC) (by rw [show b = C from z]; exact Nat.lt_irrefl _), fun x c e => (hf b hb).2.2.2.2.1 x c (hcl x c e)⟩
  bs := fun b o e => ⟨(I.bs b o e).1, (I.bs b o e).2⟩
  bsz := Nat.le_trans I.ok.bsz I.sz
  noex := fun b o e hb => by
    rcases (hf b hb).2.2.2.1 with z | z
    · exact I.ok.noex b o e z
    · exact absurd (Nat.lt_of_lt_of_le (Heap.lt_size e) (Nat.le_trans I.ok.bsz z)) (Nat.lt_irrefl _)
  exfs := fun b hb hm => by
    rcases List.mem_cons.mp (I.stkSub b hm) with z | z
    · exact (hf b hb).2.1 z
    · exact (hf b hb).2.2.1 z
  funs := I.stack
  frf := I.stkFree
/-- the values of the block's names at its start: the targets' none, the captured ones' as they stand -/
def capσ (σ : St) (k : Nat) (cap : List (Str × Nat)) : St := List.replicate k none ++ cap.map fun p => (σ[p.2]?).getD none
theorem cxComp_start {scope : Scope} {cl : List (Str × Addr)} {fp : List Addr} {tn : List Str} {cap : List (Str × Nat)} {h1 : Heap} (I : Inv X pins σ H s) (hk : scope.kind = .function) (hcl : ∀ x c, cl.lookup x = some c → X.env.cells.lookup x = some c)
    (hhas : ∀ x, ((compEnvC scope cl s.heap.objs.size X.env).kindOf x = some .cell ∨ (compEnvC scope cl s.heap.objs.size X.env).kindOf x = some .free) → ∃ c, cl.lookup x = some c)
    (hf : ∀ b ∈ fp, FpOk X pins H b) (hlt : ∀ b ∈ fp, b < s.heap.objs.size)
    (hcap : ∀ p ∈ cap, X.N[p.2]? = some p.1 ∧ X.env.scope.names.lookup p.1 = some .cell ∧ ((compEnvC scope cl s.heap.objs.size X.env).kindOf p.1 = some .cell ∨ (compEnvC scope cl s.heap.objs.size X.env).kindOf p.1 = some .free))
    (hns : h1.Ns s.heap.objs.size (fun _ => none)) (hkp : ∀ b o, s.heap.get? b = some o → h1.get? b = some o) :
    Inv (cxComp X (tn ++ cap.map (·.1)) scope cl s.heap.objs.size fp s H) [] (capσ σ tn.length cap) H { s with heap := h1 } where
  ok := cxComp_ok I hk (Nat.le_refl _) hcl hhas hf hlt
  os := rfl
  bare := I.bare
  base := Un.kept hkp
  loc := by
    refine ⟨fun _ => none, hns, fun i x v e1 e2 hv => ?_⟩
    unfold capσ at e2
    by_cases hi : i < tn.length
    · rw [List.getElem?_append_left (by rw [List.length_replicate]; exact hi), List.getElem?_replicate, if_pos hi] at e2
      cases e2
    · have hN : (cap.map (·.1))[i - tn.length]? = some x := by
        have : (tn ++ cap.map (·.1))[i]? = some x := e1
        rw [List.getElem?_append_right (by (first | lia | omega))] at this
        exact this
      rw [List.getElem?_append_right (by rw [List.length_replicate]; (first | lia | omega)), List.length_replicate, List.getElem?_map] at e2
      rw [List.getElem?_map] at hN
      cases hp : cap[i - tn.length]? with
      | none => rw [hp] at hN; cases hN
      | some p =>
        rw [hp] at hN e2
        have hx : p.1 = x := Option.some.inj hN
        have he : (σ[p.2]?).getD none = some v := Option.some.inj e2
        obtain ⟨c1, c2, c3⟩ := hcap p (List.mem_of_getElem? hp)
        subst hx
        have hs : σ[p.2]? = some (some v) := by
          cases q : σ[p.2]? with
          | none => rw [q] at he; cases he
          | some z => rw [q] at he; rw [show z = some v from he]
        obtain ⟨m, hn, hl⟩ := I.loc
        obtain ⟨u, r, l⟩ := hl p.2 p.1 v c1 hs (.inr (.inl c2))
        refine ⟨u, r, .inr ⟨c3, ?_⟩⟩
        obtain ⟨c, hc⟩ := hhas p.1 c3
        refine ⟨c, hc, ?_⟩
        rcases l with ⟨l1, _⟩ | ⟨_, c', l2, o, ho, hd⟩
        · have : X.env.kindOf p.1 = some .cell := c2
          rw [this] at l1
          cases l1
        · have : c = c' := Option.some.inj ((hcl p.1 c hc).symm.trans l2)
          subst this
          exact ⟨o, hkp _ _ ho, hd⟩
  cell := fun x c e => by
    obtain ⟨v, o, ho, hd⟩ := I.cell x c (hcl x c e)
    exact ⟨v, o, hkp _ _ ho, hd⟩
  free := I.hok.fresh (Nat.le_refl _)
  freeC := fun x c e => I.freeC x c (hcl x c e)
  pin := fun p hp => by cases hp
  hok := I.hok.kept hkp
  len := by
    unfold capσ
    show _ = (tn ++ cap.map (·.1)).length
    rw [List.length_append, List.length_append, List.length_replicate, List.length_map, List.length_map]
end
end L2

namespace L2
open PySem PySem.Spec PyProof.Rows
/-- a comprehension's reading: W by the turn, a measure, the items so far, the block's names, the heap; p: the list under way -/
def tComp (wi : TI) (k : Nat) (cap : List (Str × Nat)) (g : TG) (te : TE) : TE := fun σ H Q => wi σ H fun J H1 => ∀ p, H1 p = none → ∃ W : Nat → Nat → List V → St → Hp → Prop, (∃ m, W 0 m [] (capσ σ k cap) (upd H1 p (.lst []))) ∧
  ∀ i m ys σc H2, W i m ys σc H2 → H2 p = some (.lst ys) ∧ ((J.stop i H2 ∧ Q (.ref p) H2) ∨ (J.go i H2 ∧ ∀ x H3, J.yld i H2 x H3 → g x σc H3 fun σ3 H4 => te σ3 H4 fun v H5 =>
    H5 p = some (.lst ys) ∧ ys.length < sizeLine ∧ ∃ m', m' < m ∧ W (i + 1) m' (ys ++ [v]) σ3 (upd H5 p (.lst (ys ++ [v])))))
section
variable {X : Cx} {elt iter tg : Expr} {scope : Scope} {pos : Pos} {wi : TI} {g : TG} {te : TE} {cl : List (Str × Addr)}
theorem comp_core0 {pins : List (Addr × Obj)} {σ : St} {H2 : Hp} {s2 : Shared} {it : Addr} {fp : List Addr} {tnn : Nat → Heap → Prop} {J : It} {R : Addr → Hp → Prop} {use : Option (Value → Sem Unit)} {Qp : Value → Shared → Prop} (tn : List Str) (cap : List (Str × Nat)) (hg : ∀ C fp s H, PG (cxComp X (tn ++ cap.map (·.1)) scope cl C fp s H) tg g) (he : ∀ C fp s H, PE (cxComp X (tn ++ cap.map (·.1)) scope cl C fp s H) elt te) (hc : X.calm = true) (hcell : ∀ y ∈ scope.names, y.2 ≠ .cell) (hk : scope.kind = .function) (hcl : ∀ x c, cl.lookup x = some c → X.env.cells.lookup x = some c) (hhas : ∀ C x, ((compEnvC scope cl C X.env).kindOf x = some .cell ∨ (compEnvC scope cl C X.env).kindOf x = some .free) → ∃ c, cl.lookup x = some c) (hcap : ∀ C, ∀ p ∈ cap, X.N[p.2]? = some p.1 ∧ X.env.scope.names.lookup p.1 = some .cell ∧ ((compEnvC scope cl C X.env).kindOf p.1 = some .cell ∨ (compEnvC scope cl C X.env).kindOf p.1 = some .free))
    (I2 : Inv X pins σ H2 s2) (T : Turn X.prog X.w X.K tg J fp it tnn) (st2 : tnn 0 s2.heap) (f2 : ∀ b ∈ fp, FpOk X pins H2 b) (q2 : ∀ p, H2 p = none → ∃ W : Nat → Nat → List V → St → Hp → Prop, (∃ m, W 0 m [] (capσ σ tn.length cap) (upd H2 p (.lst []))) ∧
  ∀ i m ys σc H2, W i m ys σc H2 → H2 p = some (.lst ys) ∧ ((J.stop i H2 ∧ R p H2) ∨ (J.go i H2 ∧ ∀ x H3, J.yld i H2 x H3 → g x σc H3 fun σ3 H4 => te σ3 H4 fun v H5 => H5 p = some (.lst ys) ∧ ys.length < sizeLine ∧ ∃ m', m' < m ∧ W (i + 1) m' (ys ++ [v]) σ3 (upd H5 p (.lst (ys ++ [v]))))))
    (hfin : ∀ (s3 : Shared) (H3 : Hp), Inv X pins σ H3 s3 → (∀ b ∈ fp, FpOk X pins H3 b) → ∀ (acc : Addr) (σ6 : St) (H6 : Hp) (s6 : Shared), Inv (cxComp X (tn ++ cap.map (·.1)) scope cl s3.heap.objs.size fp s3 H3) [] σ6 H6 s6 → R acc H6 → compPost (model X.prog X.w) X.A X.xe use Qp (.ref acc) s3.heap.objs.size (.ok .next) s6) :
    wpAny (model X.prog X.w) X.A (newList []) (fun acc s₃ => wpAny (model X.prog X.w) X.A (newFunctionEnv scope X.env.globals cl [] X.env.qual none Value.none (some X.env)) (fun cenv s₄ => codeAny (model X.prog X.w) X.A (Code.compStart (.ListComp elt [⟨tg, iter, [], 0⟩] scope pos) 0 (Value.ref it) acc { cenv with scope := relabel scope X.env }) (compPost (model X.prog X.w) X.A X.xe use Qp acc cenv.locals) s₄) X.xe s₃) X.xe s2 := by
  have fresh : H2 s2.heap.objs.size = none := I2.fresh
  obtain ⟨W, ⟨m0, w0⟩, turn⟩ := q2 s2.heap.objs.size fresh
  have lt2 : ∀ b ∈ fp, b < s2.heap.objs.size := fun b hb => by
    obtain ⟨o, ho, _⟩ := T.obj _ _ st2 b hb
    exact Heap.lt_size ho
  have I3 : Inv X pins σ (upd H2 s2.heap.objs.size (.lst [])) { s2 with heap := s2.heap.push { cls := .type "list", data := .seq ([] : List Value).toArray } } := I2.lnew (its := []) (t' := s2.toks) .nil (Nat.zero_le _)
  refine wpAny_newObj_type (wpAny_newFunctionEnv hcell (by intro y hy; simp at hy) (fun h1 hns1 hsb1 => ?_) hk)
  dsimp only at hns1 hsb1 ⊢
  generalize hS3 : ({ s2 with heap := s2.heap.push { cls := .type "list", dict := none, data := .seq ([] : List Value).toArray } } : Shared) = s3 at I3
  have hh3 : s2.heap.push { cls := .type "list", dict := none, data := .seq ([] : List Value).toArray } = s3.heap := by rw [← hS3]
  rw [hh3] at hns1 hsb1 ⊢
  have sz3 : s3.heap.objs.size = s2.heap.objs.size + 1 := by rw [← hh3, Heap.size_push]
  have lt3 : ∀ b ∈ fp, b < s3.heap.objs.size := fun b hb => Nat.lt_of_lt_of_le (lt2 b hb) (by rw [sz3]; exact Nat.le_succ _)
  have f3 : ∀ b ∈ fp, FpOk X pins (upd H2 s2.heap.objs.size (.lst [])) b := fun b hb => ⟨by rw [upd_ne (Nat.ne_of_lt (lt2 b hb))]; exact (f2 b hb).1, (f2 b hb).2⟩
  have keep3 : ∀ b o, s3.heap.get? b = some o → h1.get? b = some o := fun b o q => hsb1.extBut b o (Nat.ne_of_lt (Heap.lt_size q)) (Heap.get?_push_of_some _ q)
  have st3 : tnn 0 h1 := T.keep _ _ _ st2 fun b hb o q => keep3 b o (by rw [← hh3]; exact Heap.get?_push_of_some _ q)
  have I4 := (cxComp_start (tn := tn) I3 hk hcl (hhas _) f3 lt3 (hcap _) hns1 keep3).tok (s2.toks + ([] : List (Str × Value)).length)
  have loop : codeAny (model X.prog X.w) X.A (.compLoop (.ListComp elt [⟨tg, iter, [], 0⟩] scope pos) 0 (.ref it) (.ref s2.heap.objs.size) (compEnvC scope cl s3.heap.objs.size X.env))
      (compPost (model X.prog X.w) X.A X.xe use Qp (.ref s2.heap.objs.size) s3.heap.objs.size) { s3 with heap := h1, toks := s2.toks + ([] : List (Str × Value)).length } := by
    refine comp_loop0 (fun n s' => ∃ i ys σ' H', Inv (cxComp X (tn ++ cap.map (·.1)) scope cl s3.heap.objs.size fp s3 (upd H2 s2.heap.objs.size (.lst []))) [] σ' H' s' ∧ tnn i s'.heap ∧ (∀ b ∈ fp, H' b = none) ∧ W i n ys σ' H') ?_ m0
      ⟨0, [], _, _, I4, st3, fun b hb => (f3 b hb).1, w0⟩
    rintro n s5 ⟨i, ys, σ5, H5, I5, st5, fr5, w5⟩
    obtain ⟨hD, alt⟩ := turn i n ys σ5 H5 w5
    have stat : ∀ {H' : Hp}, (∀ b ∈ fp, H' b = none) → ∀ b ∈ fp, FpOk (cxComp X (tn ++ cap.map (·.1)) scope cl s3.heap.objs.size fp s3 (upd H2 s2.heap.objs.size (.lst []))) [] H' b :=
      fun hn b hb => ⟨hn b hb, (I4.ok.exf b hb).1, I4.ok.exfs b hb, .inl hb, (I4.ok.exf b hb).2, fun p hp => by cases hp⟩
    rcases alt with ⟨stop, qn⟩ | ⟨go, step⟩
    · refine thn (T.done (cxComp X (tn ++ cap.map (·.1)) scope cl s3.heap.objs.size fp s3 (upd H2 s2.heap.objs.size (.lst []))) rfl rfl rfl hc i [] s5 σ5 H5 no0 I5 (stat fr5) st5 stop) fun r s6 ⟨hr, I6⟩ => ?_
      subst hr
      exact hfin s3 _ I3 f3 _ σ5 H5 s6 I6 qn
    · refine thn (T.item (cxComp X (tn ++ cap.map (·.1)) scope cl s3.heap.objs.size fp s3 (upd H2 s2.heap.objs.size (.lst []))) rfl rfl rfl hc i [] s5 σ5 H5 no0 I5 (stat fr5) st5 go) fun r s6 ⟨u, hr, h6⟩ => ?_
      subst hr
      refine thn h6 fun _ s7 ⟨x, H7, I7, r7, y7, st7, fr7⟩ => ?_
      have I7' := I7.pinned (stat fr7) (T.obj _ _ st7)
      refine thn (hg _ _ _ _ _ s7 σ5 H7 x u _ I7' r7 (step x H7 y7)) fun _ s8 ⟨σ8, H8, I8, q8⟩ => ?_
      refine thn (he _ _ _ _ _ s8 σ8 H8 _ I8 q8) fun xv s9 ⟨v9, H9, I9, r9, q9⟩ => ?_
      obtain ⟨hD9, hl9, m', hm', w9⟩ := q9
      refine thn (mt_append _ s9 σ8 H9 (.ref s2.heap.objs.size) [v9] (.ref s2.heap.objs.size) [xv] (fun z H' => z = .non ∧ H' = upd H9 s2.heap.objs.size (.lst (ys ++ [v9]))) I9 rfl (.cons r9 .nil)
        ⟨s2.heap.objs.size, ys, v9, rfl, rfl, hD9, hl9, rfl, rfl⟩) fun z s10 ⟨zv, H10, I10, _, _, eH⟩ => ?_
      subst eH
      refine ⟨m', hm', i + 1, ys ++ [v9], σ8, _, I10.unpinned, T.keep _ _ _ st7 fun b hb o q => (I10.pin (b, o) (List.mem_append_right _ (List.mem_append_right _ (mem_pinsAt hb q)))).1, fun b hb => ?_, w9⟩
      obtain ⟨o, q, d⟩ := T.obj _ _ st7 b hb
      exact (I10.pin (b, o) (List.mem_append_right _ (List.mem_append_right _ (mem_pinsAt hb q)))).2.1
  subst hS3
  exact codeAny_compStart_list loop (T.self X.A 0 _ _ _ st3 loop)
theorem pe_comp (tn : List Str) (cap : List (Str × Nat)) (hi : PI X tg iter wi) (hg : ∀ C fp s H, PG (cxComp X (tn ++ cap.map (·.1)) scope cl C fp s H) tg g) (he : ∀ C fp s H, PE (cxComp X (tn ++ cap.map (·.1)) scope cl C fp s H) elt te)
    (hc : X.calm = true) (hclos : closureFor scope X.env = pure cl) (hcell : ∀ y ∈ scope.names, y.2 ≠ .cell) (hk : scope.kind = .function) (hnames : ∀ y ∈ scope.names, y.2 = .local → scope.names.lookup y.1 = some .local)
    (hcl : ∀ x c, cl.lookup x = some c → X.env.cells.lookup x = some c)
    (hhas : ∀ C x, ((compEnvC scope cl C X.env).kindOf x = some .cell ∨ (compEnvC scope cl C X.env).kindOf x = some .free) → ∃ c, cl.lookup x = some c)
    (hcap : ∀ C, ∀ p ∈ cap, X.N[p.2]? = some p.1 ∧ X.env.scope.names.lookup p.1 = some .cell ∧ ((compEnvC scope cl C X.env).kindOf p.1 = some .cell ∨ (compEnvC scope cl C X.env).kindOf p.1 = some .free))
    (hs : ∀ v, foldedSetIterable iter X.env v = pure v) : PE X (.ListComp elt [⟨tg, iter, [], 0⟩] scope pos) (tComp wi tn.length cap g te) := by
  intro pins s σ H Q I h
  rw [eval_ListComp]
  refine wpAny_comprehension_free (use := none) rfl hs hclos hk hnames (thn (hi pins s σ H _ I h) fun v s1 h1 => thn h1 fun itv s2 h2 => ?_)
  obtain ⟨it, fp, tnn, J, H2, e, I2, T, st2, f2, q2⟩ := h2
  subst e
  refine comp_core0 (R := fun p H6 => Q (.ref p) H6) tn cap hg he hc hcell hk hcl hhas hcap I2 T st2 f2 q2 fun s3 H3 I3 f3 acc σ6 H6 s6 I6 q6 => ?_
  obtain ⟨m, hn, _⟩ := I6.loc
  refine ⟨m, hn, fun h' sb => ?_⟩
  have nC : ∀ b o, s3.heap.get? b = some o → b ≠ s3.heap.objs.size := fun b o q => Nat.ne_of_lt (Heap.lt_size q)
  have u : Un (frs X.stack) fp H3 H6 s3.heap h' := by
    have u0 := I6.base
    refine ⟨fun b o q n hb hx => (sb.2 b (nC b o q)).trans (u0.keep b o q n hb hx), fun b o q n hb hx => ?_, u0.free, fun b o q hx => ?_, u0.tups, u0.frzs, u0.tbls⟩
    · obtain ⟨sl, e⟩ := u0.slot b o q n hb hx
      exact ⟨sl, (sb.2 b (nC b o q)).trans e⟩
    · obtain ⟨o', e⟩ := u0.there b o q hx
      exact ⟨o', (sb.2 b (nC b o q)).trans e⟩
  have free6 : H6 s3.heap.objs.size = none := I6.free
  have ok6 : HOk X.prog X.w H6 h' := fun b o q => (I6.hok b o q).stay (fun c v hcv r => (sb.2 c (by
    rcases hcv with z | z
    · rw [z]
      exact ne_of_none q free6
    · exact ne_of_none z free6)).trans r) (fun _ q => q) fun _ _ q => q
  have I' := I3.call (g' := s6.gens) (d' := s6.drawn) (t' := s6.toks) (ch := fp) u ok6 I6.bare fun b hb => ⟨(f3 b hb).2.2.2.1, (f3 b hb).2.1, (f3 b hb).2.2.2.2.1, (f3 b hb).2.2.2.2.2⟩
  have e : ({ s6 with heap := h' } : Shared) = { s3 with heap := h', gens := s6.gens, drawn := s6.drawn, toks := s6.toks } := by
    have ho : s6.os = s3.os := I6.os
    obtain ⟨a1, a2, a3, a4, a5⟩ := s6
    obtain ⟨b1, b2, b3, b4, b5⟩ := s3
    simp only at ho
    subst ho
    rfl
  rw [e]
  exact ⟨.ref _, H6, I', rfl, q6⟩
end
end L2

/-! [elt for tg in iter if ct] -/
namespace L2
open PySem PySem.Spec PyProof.Rows
section
variable {prog : Program} {w : World} {A : Around} {s : Shared} {R : Result → Shared → Prop}
theorem comp_loop1 {elt ct target iter : Expr} {scope : Scope} {pos : Pos} {it acc : Value} {env : Env} (I : Nat → Shared → Prop)
    (turn : ∀ n s, I n s → wpAny (model prog w) A (pyNext it) (fun r s1 => match r with
      | none => R (.ok .next) s1
      | some v => wpAny (model prog w) A (letOwnedTupleGo target it v) (fun _ s2 => wpAny (model prog w) A (assign target env v) (fun _ s3 => wpAny (model prog w) A (isTrue ct env (eval ct env)) (fun ok s3' =>
          if ok = true then wpAny (model prog w) A (eval elt env) (fun x s4 =>
          wpAny (model prog w) A (call (.builtin "list.append") [acc, x]) (fun _ s5 => ∃ m, m < n ∧ I m s5) no0 s4) no0 s3' else ∃ m, m < n ∧ I m s3') no0 s3) no0 s2) no0 s1) no0 s)
    (n : Nat) (h : I n s) : codeAny (model prog w) A (.compLoop (.ListComp elt [⟨target, iter, [ct], 0⟩] scope pos) 0 it acc env) R s := by
  refine codeAny_loop rfl I (fun n s hI => ?_) n h
  show wpAny _ _ ((compTurn (.ListComp elt [⟨target, iter, [ct], 0⟩] scope pos) 0 it acc env).onRaise (fun x => do noteFrame x env; theTreesLotGoes x)) _ _ s
  refine wpAny_noted ?_
  rw [compTurn_list]
  refine wpAny_bind (wpAny_standAt (wpAny_bind (wpAny_mono (turn n s hI) (fun r s1 h1 => ?_) fun _ _ h' => h'.elim)))
  cases r with
  | none => exact wpAny_pure h1
  | some v =>
    refine wpAny_bind (wpAny_mono h1 (fun _ s2 h2 => ?_) fun _ _ h' => h'.elim)
    refine wpAny_bind (wpAny_mono h2 (fun _ s3 h3 => ?_) fun _ _ h' => h'.elim)
    refine wpAny_bind (wpAny_tests_one (wpAny_mono h3 (fun ok s3' h3' => ?_) fun _ _ h' => h'.elim))
    cases ok with
    | true =>
      simp only [if_true] at h3' ⊢
      refine wpAny_bind (wpAny_bind (wpAny_mono h3' (fun x s4 h4 => ?_) fun _ _ h' => h'.elim))
      exact wpAny_bind (wpAny_mono h4 (fun _ s5 h5 => wpAny_pure (wpAny_pure ⟨rfl, h5⟩)) fun _ _ h' => h'.elim)
    | false =>
      simp only [Bool.false_eq_true, if_false] at h3' ⊢
      exact wpAny_pure ⟨rfl, h3'⟩
end
/-- a comprehension's reading with a test: W by the turn, a measure, the items so far, the block's names, the heap; p: the list under way -/
def tCompT (wi : TI) (k : Nat) (cap : List (Str × Nat)) (g : TG) (tt : TT) (te : TE) : TE := fun σ H Q => wi σ H fun J H1 => ∀ p, H1 p = none → ∃ W : Nat → Nat → List V → St → Hp → Prop, (∃ m, W 0 m [] (capσ σ k cap) (upd H1 p (.lst []))) ∧
  ∀ i m ys σc H2, W i m ys σc H2 → H2 p = some (.lst ys) ∧ ((J.stop i H2 ∧ Q (.ref p) H2) ∨ (J.go i H2 ∧ ∀ x H3, J.yld i H2 x H3 → g x σc H3 fun σ3 H4 => tt σ3 H4 fun b H4' => if b = true then te σ3 H4' fun v H5 =>
    H5 p = some (.lst ys) ∧ ys.length < sizeLine ∧ ∃ m', m' < m ∧ W (i + 1) m' (ys ++ [v]) σ3 (upd H5 p (.lst (ys ++ [v])))
    else ∃ m', m' < m ∧ W (i + 1) m' ys σ3 H4'))
section
variable {X : Cx} {elt ct iter tg : Expr} {scope : Scope} {pos : Pos} {wi : TI} {g : TG} {tt : TT} {te : TE} {cl : List (Str × Addr)}
theorem comp_core1 {pins : List (Addr × Obj)} {σ : St} {H2 : Hp} {s2 : Shared} {it : Addr} {fp : List Addr} {tnn : Nat → Heap → Prop} {J : It} {R : Addr → Hp → Prop} {use : Option (Value → Sem Unit)} {Qp : Value → Shared → Prop} (tn : List Str) (cap : List (Str × Nat)) (hg : ∀ C fp s H, PG (cxComp X (tn ++ cap.map (·.1)) scope cl C fp s H) tg g) (ht : ∀ C fp s H, PT (cxComp X (tn ++ cap.map (·.1)) scope cl C fp s H) ct tt) (he : ∀ C fp s H, PE (cxComp X (tn ++ cap.map (·.1)) scope cl C fp s H) elt te) (hc : X.calm = true) (hcell : ∀ y ∈ scope.names, y.2 ≠ .cell) (hk : scope.kind = .function) (hcl : ∀ x c, cl.lookup x = some c → X.env.cells.lookup x = some c) (hhas : ∀ C x, ((compEnvC scope cl C X.env).kindOf x = some .cell ∨ (compEnvC scope cl C X.env).kindOf x = some .free) → ∃ c, cl.lookup x = some c) (hcap : ∀ C, ∀ p ∈ cap, X.N[p.2]? = some p.1 ∧ X.env.scope.names.lookup p.1 = some .cell ∧ ((compEnvC scope cl C X.env).kindOf p.1 = some .cell ∨ (compEnvC scope cl C X.env).kindOf p.1 = some .free))
    (I2 : Inv X pins σ H2 s2) (T : Turn X.prog X.w X.K tg J fp it tnn) (st2 : tnn 0 s2.heap) (f2 : ∀ b ∈ fp, FpOk X pins H2 b) (q2 : ∀ p, H2 p = none → ∃ W : Nat → Nat → List V → St → Hp → Prop, (∃ m, W 0 m [] (capσ σ tn.length cap) (upd H2 p (.lst []))) ∧
  ∀ i m ys σc H2, W i m ys σc H2 → H2 p = some (.lst ys) ∧ ((J.stop i H2 ∧ R p H2) ∨ (J.go i H2 ∧ ∀ x H3, J.yld i H2 x H3 → g x σc H3 fun σ3 H4 => tt σ3 H4 fun b H4' => if b = true then te σ3 H4' fun v H5 => H5 p = some (.lst ys) ∧ ys.length < sizeLine ∧ ∃ m', m' < m ∧ W (i + 1) m' (ys ++ [v]) σ3 (upd H5 p (.lst (ys ++ [v]))) else ∃ m', m' < m ∧ W (i + 1) m' ys σ3 H4')))
    (hfin : ∀ (s3 : Shared) (H3 : Hp), Inv X pins σ H3 s3 → (∀ b ∈ fp, FpOk X pins H3 b) → ∀ (acc : Addr) (σ6 : St) (H6 : Hp) (s6 : Shared), Inv (cxComp X (tn ++ cap.map (·.1)) scope cl s3.heap.objs.size fp s3 H3) [] σ6 H6 s6 → R acc H6 → compPost (model X.prog X.w) X.A X.xe use Qp (.ref acc) s3.heap.objs.size (.ok .next) s6) :
    wpAny (model X.prog X.w) X.A (newList []) (fun acc s₃ => wpAny (model X.prog X.w) X.A (newFunctionEnv scope X.env.globals cl [] X.env.qual none Value.none (some X.env)) (fun cenv s₄ => codeAny (model X.prog X.w) X.A (Code.compStart (.ListComp elt [⟨tg, iter, [ct], 0⟩] scope pos) 0 (Value.ref it) acc { cenv with scope := relabel scope X.env }) (compPost (model X.prog X.w) X.A X.xe use Qp acc cenv.locals) s₄) X.xe s₃) X.xe s2 := by
  have fresh : H2 s2.heap.objs.size = none := I2.fresh
  obtain ⟨W, ⟨m0, w0⟩, turn⟩ := q2 s2.heap.objs.size fresh
  have lt2 : ∀ b ∈ fp, b < s2.heap.objs.size := fun b hb => by
    obtain ⟨o, ho, _⟩ := T.obj _ _ st2 b hb
    exact Heap.lt_size ho
  have I3 : Inv X pins σ (upd H2 s2.heap.objs.size (.lst [])) { s2 with heap := s2.heap.push { cls := .type "list", data := .seq ([] : List Value).toArray } } := I2.lnew (its := []) (t' := s2.toks) .nil (Nat.zero_le _)
  refine wpAny_newObj_type (wpAny_newFunctionEnv hcell (by intro y hy; simp at hy) (fun h1 hns1 hsb1 => ?_) hk)
  dsimp only at hns1 hsb1 ⊢
  generalize hS3 : ({ s2 with heap := s2.heap.push { cls := .type "list", dict := none, data := .seq ([] : List Value).toArray } } : Shared) = s3 at I3
  have hh3 : s2.heap.push { cls := .type "list", dict := none, data := .seq ([] : List Value).toArray } = s3.heap := by rw [← hS3]
  rw [hh3] at hns1 hsb1 ⊢
  have sz3 : s3.heap.objs.size = s2.heap.objs.size + 1 := by rw [← hh3, Heap.size_push]
  have lt3 : ∀ b ∈ fp, b < s3.heap.objs.size := fun b hb => Nat.lt_of_lt_of_le (lt2 b hb) (by rw [sz3]; exact Nat.le_succ _)
  have f3 : ∀ b ∈ fp, FpOk X pins (upd H2 s2.heap.objs.size (.lst [])) b := fun b hb => ⟨by rw [upd_ne (Nat.ne_of_lt (lt2 b hb))]; exact (f2 b hb).1, (f2 b hb).2⟩
  have keep3 : ∀ b o, s3.heap.get? b = some o → h1.get? b = some o := fun b o q => hsb1.extBut b o (Nat.ne_of_lt (Heap.lt_size q)) (Heap.get?_push_of_some _ q)
  have st3 : tnn 0 h1 := T.keep _ _ _ st2 fun b hb o q => keep3 b o (by rw [← hh3]; exact Heap.get?_push_of_some _ q)
  have I4 := (cxComp_start (tn := tn) I3 hk hcl (hhas _) f3 lt3 (hcap _) hns1 keep3).tok (s2.toks + ([] : List (Str × Value)).length)
  have loop : codeAny (model X.prog X.w) X.A (.compLoop (.ListComp elt [⟨tg, iter, [ct], 0⟩] scope pos) 0 (.ref it) (.ref s2.heap.objs.size) (compEnvC scope cl s3.heap.objs.size X.env))
      (compPost (model X.prog X.w) X.A X.xe use Qp (.ref s2.heap.objs.size) s3.heap.objs.size) { s3 with heap := h1, toks := s2.toks + ([] : List (Str × Value)).length } := by
    refine comp_loop1 (fun n s' => ∃ i ys σ' H', Inv (cxComp X (tn ++ cap.map (·.1)) scope cl s3.heap.objs.size fp s3 (upd H2 s2.heap.objs.size (.lst []))) [] σ' H' s' ∧ tnn i s'.heap ∧ (∀ b ∈ fp, H' b = none) ∧ W i n ys σ' H') ?_ m0
      ⟨0, [], _, _, I4, st3, fun b hb => (f3 b hb).1, w0⟩
    rintro n s5 ⟨i, ys, σ5, H5, I5, st5, fr5, w5⟩
    obtain ⟨hD, alt⟩ := turn i n ys σ5 H5 w5
    have stat : ∀ {H' : Hp}, (∀ b ∈ fp, H' b = none) → ∀ b ∈ fp, FpOk (cxComp X (tn ++ cap.map (·.1)) scope cl s3.heap.objs.size fp s3 (upd H2 s2.heap.objs.size (.lst []))) [] H' b :=
      fun hn b hb => ⟨hn b hb, (I4.ok.exf b hb).1, I4.ok.exfs b hb, .inl hb, (I4.ok.exf b hb).2, fun p hp => by cases hp⟩
    rcases alt with ⟨stop, qn⟩ | ⟨go, step⟩
    · refine thn (T.done (cxComp X (tn ++ cap.map (·.1)) scope cl s3.heap.objs.size fp s3 (upd H2 s2.heap.objs.size (.lst []))) rfl rfl rfl hc i [] s5 σ5 H5 no0 I5 (stat fr5) st5 stop) fun r s6 ⟨hr, I6⟩ => ?_
      subst hr
      exact hfin s3 _ I3 f3 _ σ5 H5 s6 I6 qn
    · refine thn (T.item (cxComp X (tn ++ cap.map (·.1)) scope cl s3.heap.objs.size fp s3 (upd H2 s2.heap.objs.size (.lst []))) rfl rfl rfl hc i [] s5 σ5 H5 no0 I5 (stat fr5) st5 go) fun r s6 ⟨u, hr, h6⟩ => ?_
      subst hr
      refine thn h6 fun _ s7 ⟨x, H7, I7, r7, y7, st7, fr7⟩ => ?_
      have I7' := I7.pinned (stat fr7) (T.obj _ _ st7)
      refine thn (hg _ _ _ _ _ s7 σ5 H7 x u _ I7' r7 (step x H7 y7)) fun _ s8 ⟨σ8, H8, I8, q8⟩ => ?_
      refine thn (ht _ _ _ _ _ s8 σ8 H8 _ I8 q8) fun ok s8' ⟨H8', I8', q8'⟩ => ?_
      cases ok with
      | true =>
        simp only [if_true] at q8' ⊢
        refine thn (he _ _ _ _ _ s8' σ8 H8' _ I8' q8') fun xv s9 ⟨v9, H9, I9, r9, q9⟩ => ?_
        obtain ⟨hD9, hl9, m', hm', w9⟩ := q9
        refine thn (mt_append _ s9 σ8 H9 (.ref s2.heap.objs.size) [v9] (.ref s2.heap.objs.size) [xv] (fun z H' => z = .non ∧ H' = upd H9 s2.heap.objs.size (.lst (ys ++ [v9]))) I9 rfl (.cons r9 .nil)
          ⟨s2.heap.objs.size, ys, v9, rfl, rfl, hD9, hl9, rfl, rfl⟩) fun z s10 ⟨zv, H10, I10, _, _, eH⟩ => ?_
        subst eH
        refine ⟨m', hm', i + 1, ys ++ [v9], σ8, _, I10.unpinned, T.keep _ _ _ st7 fun b hb o q => (I10.pin (b, o) (List.mem_append_right _ (List.mem_append_right _ (mem_pinsAt hb q)))).1, fun b hb => ?_, w9⟩
        obtain ⟨o, q, d⟩ := T.obj _ _ st7 b hb
        exact (I10.pin (b, o) (List.mem_append_right _ (List.mem_append_right _ (mem_pinsAt hb q)))).2.1
      | false =>
        simp only [Bool.false_eq_true, if_false] at q8' ⊢
        obtain ⟨m', hm', w9⟩ := q8'
        refine ⟨m', hm', i + 1, ys, σ8, _, I8'.unpinned, T.keep _ _ _ st7 fun b hb o q => (I8'.pin (b, o) (List.mem_append_right _ (List.mem_append_right _ (mem_pinsAt hb q)))).1, fun b hb => ?_, w9⟩
        obtain ⟨o, q, d⟩ := T.obj _ _ st7 b hb
        exact (I8'.pin (b, o) (List.mem_append_right _ (List.mem_append_right _ (mem_pinsAt hb q)))).2.1
  subst hS3
  exact codeAny_compStart_list loop (T.self X.A 0 _ _ _ st3 loop)
end
end L2

/-! < of lists and of tuples, place by place, of data at any depth -/
namespace PySem.SeqAt
open AutoSeq1 (wpAny_loadPart')
open MeetsSeq MeetsSeq2 MeetsSeq3 SeqRoads2
end PySem.SeqAt

/-! < of data: one relation for ints, texts, lists and tuples of them -/
namespace L2
open PySem PySem.Spec PyProof.Rows PySem.SeqAt
end L2

/-! min(l, key=f, default=d) over a list, the key a def of the text -/
namespace L2
open PySem PySem.Spec PyProof.Rows PySem.SeqAt
end L2
namespace L2
open PySem PySem.Spec PyProof.Rows PySem.SeqAt
end L2
namespace L2
open PySem PySem.Spec PyProof.Rows PySem.SeqAt
end L2
namespace L2
open PySem PySem.Spec PyProof.Rows PySem.SeqAt
end L2

/-! the order of groves: the promises of rank, before, least_among -/
namespace Fg
open PySem L2 FgM PySem.SeqAt
end Fg

/-! == of groves, whatever their depth: the data of a grove -/
namespace L2
open PySem PySem.Spec PyProof.Rows
end L2
namespace Fg
open PySem L2 FgM
end Fg

namespace L2
open PySem PySem.Spec PyProof.Rows PySem.SeqAt
/-! list(reversed(l)) -/
end L2

/-! the reading of [e for x in l], and what a block without captured names is -/
namespace L2
open PySem PySem.Spec PyProof.Rows
def CW (n : Nat) (Pv : Nat → List V → St → Hp → Prop) : Nat → Nat → List V → St → Hp → Prop := fun i m ys σ H => m = n - i ∧ i ≤ n ∧ Pv i ys σ H
theorem CW.next {n i : Nat} {Pv : Nat → List V → St → Hp → Prop} {ys : List V} {σ : St} {H : Hp} (hi : i < n) (h : Pv (i + 1) ys σ H) : ∃ m', m' < n - i ∧ CW n Pv (i + 1) m' ys σ H := ⟨_, by (first | lia | omega), rfl, hi, h⟩
theorem nd1 {x : Str} : [x].Nodup := by simp
theorem comp_list {K : PySem.W.Frag} {a p : Addr} {xs : List V} {g : TG} {te : TE} {R : Hp → Prop} {σ0 : St} {H0 : Hp} (Pv : Nat → List V → St → Hp → Prop) (h0 : Pv 0 [] σ0 H0)
    (hl : ∀ i ys σ H, i ≤ xs.length → Pv i ys σ H → SqL K H a xs ∧ H p = some (.lst ys))
    (hs : ∀ i ys x σ H, i < xs.length → xs[i]? = some x → Pv i ys σ H → g x σ H fun σ3 H4 => te σ3 H4 fun v H5 => H5 p = some (.lst ys) ∧ ys.length < sizeLine ∧ ∃ m', m' < xs.length - i ∧ CW xs.length Pv (i + 1) m' (ys ++ [v]) σ3 (upd H5 p (.lst (ys ++ [v]))))
    (hd : ∀ ys σ H, Pv xs.length ys σ H → R H) :
    ∃ W : Nat → Nat → List V → St → Hp → Prop, (∃ m, W 0 m [] σ0 H0) ∧ ∀ i m ys σc H2, W i m ys σc H2 → H2 p = some (.lst ys) ∧ (((Itl K a).stop i H2 ∧ R H2) ∨ ((Itl K a).go i H2 ∧ ∀ x H3, (Itl K a).yld i H2 x H3 → g x σc H3 fun σ3 H4 => te σ3 H4 fun v H5 =>
      H5 p = some (.lst ys) ∧ ys.length < sizeLine ∧ ∃ m', m' < m ∧ W (i + 1) m' (ys ++ [v]) σ3 (upd H5 p (.lst (ys ++ [v]))))) := by
  refine ⟨CW xs.length Pv, ⟨_, rfl, Nat.zero_le _, h0⟩, ?_⟩
  rintro i m ys σ H ⟨rfl, hi, hp⟩
  obtain ⟨h1, h2⟩ := hl i ys σ H hi hp
  refine ⟨h2, ?_⟩
  by_cases hlt : i < xs.length
  · refine .inr ⟨⟨xs, xs[i], h1, List.getElem?_eq_getElem hlt⟩, ?_⟩
    rintro x H3 ⟨rfl, hx⟩
    exact hs i ys x σ _ hlt (hx xs h1) hp
  · refine .inl ⟨⟨xs, h1, by (first | lia | omega)⟩, hd ys σ H ?_⟩
    have e : i = xs.length := by (first | lia | omega)
    rw [← e]
    exact hp
theorem nofree {scope : Scope} {env : Env} (h : ∀ y ∈ scope.names, y.2 ≠ .cell ∧ y.2 ≠ .free) {cl : List (Str × Addr)} : ∀ (C : Addr) (x : Str), ((compEnvC scope cl C env).kindOf x = some .cell ∨ (compEnvC scope cl C env).kindOf x = some .free) → ∃ c, cl.lookup x = some c := by
  have key : ∀ (l : List (Str × NameKind)) (x : Str), (∀ y ∈ l, y.2 ≠ .cell ∧ y.2 ≠ .free) → ∀ k, (l.map fun (n, k) => if (k == .free && env.scope.kind == .function && env.kindOf n == some .cell) then (n, .cell) else (n, k)).lookup x = some k → k ≠ .cell ∧ k ≠ .free := by
    intro l
    induction l with
    | nil => intro x _ k e; simp at e
    | cons y l ih =>
      intro x hy k e
      obtain ⟨n, kd⟩ := y
      have hk := hy _ (List.mem_cons_self ..)
      have e0 : (kd == NameKind.free && env.scope.kind == .function && env.kindOf n == some .cell) = false := by
        have : (kd == NameKind.free) = false := by
          cases kd <;> first | rfl | exact absurd rfl hk.2
        rw [this]; rfl
      simp only [List.map_cons, e0, Bool.false_eq_true, if_false, List.lookup_cons] at e
      cases hx : x == n with
      | true =>
        rw [hx] at e
        cases e
        exact hk
      | false =>
        rw [hx] at e
        exact ih x (fun y hm => hy y (List.mem_cons_of_mem _ hm)) k e
  intro C x hx
  rcases hx with e | e
  · exact absurd rfl (key _ x h _ e).1
  · exact absurd rfl (key _ x h _ e).2
end L2
namespace FgM
theorem can_words {A : Type} [DecidableEq A] {sl : A} : ∀ {g : Gr A} {n : Nat} {ws : List A}, Clean sl g → Can sl n ws → Can sl n (words sl g ++ ws)
  | .nil, _, _, _, h => h
  | .cons t w o, n, ws, ⟨h1, h2, h3⟩, h => by
    have e : words sl (.cons t w o) ++ ws = t :: (words sl w ++ sl :: (words sl o ++ ws)) := by simp [words]
    rw [e, can_tag h1]
    exact can_words h2 (can_end.mpr ⟨by (first | lia | omega), can_words h3 (by simpa using h)⟩)
end FgM

/-! x = [elt for tg in iter], x = [elt for tg in iter if ct]: the name is bound ahead of the block's end -/
namespace L2
open PySem PySem.Spec PyProof.Rows
section
variable {X : Cx} {elt iter tg : Expr} {scope : Scope} {pos : Pos} {wi : TI} {g : TG} {te : TE} {cl : List (Str × Addr)}
theorem ps_set_comp {y : Str} {py spos : Pos} {n0 : Nat} (hN : X.N.Nodup) (hi0 : X.N[n0]? = some y) (hx : Loc X.env.scope y) (tn : List Str) (cap : List (Str × Nat)) (hi : PI X tg iter wi) (hg : ∀ C fp s H, PG (cxComp X (tn ++ cap.map (·.1)) scope cl C fp s H) tg g) (he : ∀ C fp s H, PE (cxComp X (tn ++ cap.map (·.1)) scope cl C fp s H) elt te)
    (hc : X.calm = true) (hclos : closureFor scope X.env = pure cl) (hcell : ∀ y ∈ scope.names, y.2 ≠ .cell) (hk : scope.kind = .function) (hnames : ∀ y ∈ scope.names, y.2 = .local → scope.names.lookup y.1 = some .local)
    (hcl : ∀ x c, cl.lookup x = some c → X.env.cells.lookup x = some c)
    (hhas : ∀ C x, ((compEnvC scope cl C X.env).kindOf x = some .cell ∨ (compEnvC scope cl C X.env).kindOf x = some .free) → ∃ c, cl.lookup x = some c)
    (hcap : ∀ C, ∀ p ∈ cap, X.N[p.2]? = some p.1 ∧ X.env.scope.names.lookup p.1 = some .cell ∧ ((compEnvC scope cl C X.env).kindOf p.1 = some .cell ∨ (compEnvC scope cl C X.env).kindOf p.1 = some .free))
    (hs : ∀ v, foldedSetIterable iter X.env v = pure v) (hsw : swapsWith (.ListComp elt [⟨tg, iter, [], 0⟩] scope pos) (some (.Name y py)) spos.line X.env = pure true) (hf : X.fn y = true ∨ X.env.scope.names.lookup y = some .local := by first | exact .inl rfl | exact .inr rfl | assumption) :
    PS X (.Assign [.Name y py] (.ListComp elt [⟨tg, iter, [], 0⟩] scope pos) spos) (tAsg (tComp wi tn.length cap g te) (gName n0)) := by
  intro pins s σ H D I h
  rw [exec_Assign_Name_used _ _ _ _ hsw]
  refine wpAny_bind (wpAny_standAt (wpAny_bind ?_))
  show wpAny _ X.A (do let _ ← comprehension (.ListComp elt [⟨tg, iter, [], 0⟩] scope pos) scope X.env _ (newList []) false (eval iter X.env) (some (assign (.Name y py) X.env))) _ _ s
  refine wpAny_bind (wpAny_mono (wpAny_comprehension_free (use := some (assign (.Name y py) X.env)) (Q := fun _ s' => SP X pins D .next s') rfl hs hclos hk hnames (thn (hi pins s σ H _ I h) fun v s1 h1 => thn h1 fun itv s2 h2 => ?_)) (fun _ s' hq => wpAny_pure (wpAny_pure hq)) fun _ _ e => e)
  obtain ⟨it, fp, tnn, J, H2, e, I2, T, st2, f2, q2⟩ := h2
  subst e
  refine comp_core0 (R := fun p H6 => gName n0 (.ref p) σ H6 (fun σ' H' => D.nx σ' H')) tn cap hg he hc hcell hk hcl hhas hcap I2 T st2 f2 q2 fun s3 H3 I3 f3 acc σ6 H6 s6 I6 q6 => ?_
  obtain ⟨m, hn, _⟩ := I6.loc
  have I' : Inv X pins σ H6 s6 := I3.call' (ch := fp) I6.os I6.base I6.hok I6.bare fun b hb => ⟨(f3 b hb).2.2.2.1, (f3 b hb).2.1, (f3 b hb).2.2.2.2.1, (f3 b hb).2.2.2.2.2⟩
  have fC : FpOk X pins H6 s3.heap.objs.size := I3.fpOk (Nat.le_refl _) I6.free
  show wpAny _ X.A (assign (.Name y py) X.env (.ref acc)) _ _ s6
  refine wpAny_assign_Name (store_ok2 (v := .ref acc) I' hN hi0 hx rfl (fun s7 I7 ⟨a, sb, ha⟩ => ?_) hf)
  have nCa : s3.heap.objs.size ≠ a := by
    rcases ha with z | z
    · rw [z]
      exact fC.2.1
    · exact (fC.2.2.2.2.1 _ _ z).symm
  exact ⟨m, hn.sameBut sb nCa, fun h' sb' => ⟨_, H6, I7.turned (t' := s7.toks) (fun b o hb e => (sb'.2 b hb).trans e) fC.1 fC.2.1 fC.2.2.2.1 fC.2.2.2.2.1 fC.2.2.2.2.2, q6⟩⟩
end
end L2
namespace L2
open PySem PySem.Spec PyProof.Rows
section
variable {X : Cx} {elt ct iter tg : Expr} {scope : Scope} {pos : Pos} {wi : TI} {g : TG} {tt : TT} {te : TE} {cl : List (Str × Addr)}
theorem ps_set_comp_if {y : Str} {py spos : Pos} {n0 : Nat} (hN : X.N.Nodup) (hi0 : X.N[n0]? = some y) (hx : Loc X.env.scope y) (tn : List Str) (cap : List (Str × Nat)) (hi : PI X tg iter wi) (hg : ∀ C fp s H, PG (cxComp X (tn ++ cap.map (·.1)) scope cl C fp s H) tg g) (ht : ∀ C fp s H, PT (cxComp X (tn ++ cap.map (·.1)) scope cl C fp s H) ct tt) (he : ∀ C fp s H, PE (cxComp X (tn ++ cap.map (·.1)) scope cl C fp s H) elt te)
    (hc : X.calm = true) (hclos : closureFor scope X.env = pure cl) (hcell : ∀ y ∈ scope.names, y.2 ≠ .cell) (hk : scope.kind = .function) (hnames : ∀ y ∈ scope.names, y.2 = .local → scope.names.lookup y.1 = some .local)
    (hcl : ∀ x c, cl.lookup x = some c → X.env.cells.lookup x = some c)
    (hhas : ∀ C x, ((compEnvC scope cl C X.env).kindOf x = some .cell ∨ (compEnvC scope cl C X.env).kindOf x = some .free) → ∃ c, cl.lookup x = some c)
    (hcap : ∀ C, ∀ p ∈ cap, X.N[p.2]? = some p.1 ∧ X.env.scope.names.lookup p.1 = some .cell ∧ ((compEnvC scope cl C X.env).kindOf p.1 = some .cell ∨ (compEnvC scope cl C X.env).kindOf p.1 = some .free))
    (hs : ∀ v, foldedSetIterable iter X.env v = pure v) (hsw : swapsWith (.ListComp elt [⟨tg, iter, [ct], 0⟩] scope pos) (some (.Name y py)) spos.line X.env = pure true) (hf : X.fn y = true ∨ X.env.scope.names.lookup y = some .local := by first | exact .inl rfl | exact .inr rfl | assumption) :
    PS X (.Assign [.Name y py] (.ListComp elt [⟨tg, iter, [ct], 0⟩] scope pos) spos) (tAsg (tCompT wi tn.length cap g tt te) (gName n0)) := by
  intro pins s σ H D I h
  rw [exec_Assign_Name_used _ _ _ _ hsw]
  refine wpAny_bind (wpAny_standAt (wpAny_bind ?_))
  show wpAny _ X.A (do let _ ← comprehension (.ListComp elt [⟨tg, iter, [ct], 0⟩] scope pos) scope X.env _ (newList []) false (eval iter X.env) (some (assign (.Name y py) X.env))) _ _ s
  refine wpAny_bind (wpAny_mono (wpAny_comprehension_free (use := some (assign (.Name y py) X.env)) (Q := fun _ s' => SP X pins D .next s') rfl hs hclos hk hnames (thn (hi pins s σ H _ I h) fun v s1 h1 => thn h1 fun itv s2 h2 => ?_)) (fun _ s' hq => wpAny_pure (wpAny_pure hq)) fun _ _ e => e)
  obtain ⟨it, fp, tnn, J, H2, e, I2, T, st2, f2, q2⟩ := h2
  subst e
  refine comp_core1 (R := fun p H6 => gName n0 (.ref p) σ H6 (fun σ' H' => D.nx σ' H')) tn cap hg ht he hc hcell hk hcl hhas hcap I2 T st2 f2 q2 fun s3 H3 I3 f3 acc σ6 H6 s6 I6 q6 => ?_
  obtain ⟨m, hn, _⟩ := I6.loc
  have I' : Inv X pins σ H6 s6 := I3.call' (ch := fp) I6.os I6.base I6.hok I6.bare fun b hb => ⟨(f3 b hb).2.2.2.1, (f3 b hb).2.1, (f3 b hb).2.2.2.2.1, (f3 b hb).2.2.2.2.2⟩
  have fC : FpOk X pins H6 s3.heap.objs.size := I3.fpOk (Nat.le_refl _) I6.free
  show wpAny _ X.A (assign (.Name y py) X.env (.ref acc)) _ _ s6
  refine wpAny_assign_Name (store_ok2 (v := .ref acc) I' hN hi0 hx rfl (fun s7 I7 ⟨a, sb, ha⟩ => ?_) hf)
  have nCa : s3.heap.objs.size ≠ a := by
    rcases ha with z | z
    · rw [z]
      exact fC.2.1
    · exact (fC.2.2.2.2.1 _ _ z).symm
  exact ⟨m, hn.sameBut sb nCa, fun h' sb' => ⟨_, H6, I7.turned (t' := s7.toks) (fun b o hb e => (sb'.2 b hb).trans e) fC.1 fC.2.1 fC.2.2.2.1 fC.2.2.2.2.1 fC.2.2.2.2.2, q6⟩⟩
end
end L2

namespace L2
open PySem PySem.Spec PyProof.Rows

/-! ### lists of pairs as tables -/
section
variable {κ : Type} [DecidableEq κ]
def valV (kvs : List (κ × V)) (k : κ) : Option V := (kvs.find? fun kv => decide (kv.1 = k)).map (·.2)
/-- in its place, or at the end -/
def putK (kvs : List (κ × V)) (k : κ) (v : V) : List (κ × V) :=
  if (kvs.any fun kv => decide (kv.1 = k)) = true then kvs.map (fun kv => if kv.1 = k then (kv.1, v) else kv) else kvs ++ [(k, v)]
theorem valV_pos {p : κ × V} {r : List (κ × V)} {k : κ} (e : p.1 = k) : valV (p :: r) k = some p.2 := by simp [valV, List.find?_cons, e]
theorem valV_neg {p : κ × V} {r : List (κ × V)} {k : κ} (e : ¬ p.1 = k) : valV (p :: r) k = valV r k := by simp [valV, List.find?_cons, e]
theorem valV_any (k : κ) : ∀ kvs : List (κ × V), (kvs.any fun kv => decide (kv.1 = k)) = (valV kvs k).isSome
  | [] => rfl
  | p :: r => by
    rw [List.any_cons]
    by_cases e : p.1 = k
    · simp only [valV_pos e, decide_eq_true e, Bool.true_or, Option.isSome_some]
    · rw [valV_neg e, decide_eq_false e, Bool.false_or]; exact valV_any k r
theorem valV_map (k j : κ) (y : V) : ∀ kvs : List (κ × V), valV (kvs.map fun kv => if kv.1 = k then (kv.1, y) else kv) j = (valV kvs j).map fun x => if j = k then y else x
  | [] => rfl
  | p :: r => by
    have ih := valV_map k j y r
    rw [List.map_cons]
    by_cases h : p.1 = k
    · rw [if_pos h]
      by_cases e : p.1 = j
      · rw [valV_pos (p := (p.1, y)) e, valV_pos e, Option.map_some, if_pos (e.symm.trans h)]
      · rw [valV_neg (p := (p.1, y)) e, valV_neg e, ih]
    · rw [if_neg h]
      by_cases e : p.1 = j
      · rw [valV_pos (p := p) e, valV_pos e, Option.map_some, if_neg (fun z => h (e.trans z))]
      · rw [valV_neg (p := p) e, valV_neg e, ih]
theorem valV_snoc (k j : κ) (y : V) : ∀ kvs : List (κ × V), valV kvs k = none → valV (kvs ++ [(k, y)]) j = if j = k then some y else valV kvs j
  | [], _ => by
    by_cases e : k = j
    · rw [if_pos e.symm]; exact valV_pos (p := (k, y)) e
    · rw [if_neg (fun z => e z.symm)]; exact valV_neg (p := (k, y)) e
  | p :: r, hn => by
    rw [List.cons_append]
    have hk : ¬ p.1 = k := fun z => by rw [valV_pos z] at hn; cases hn
    rw [valV_neg hk] at hn
    have ih := valV_snoc k j y r hn
    by_cases e : p.1 = j
    · rw [valV_pos e, valV_pos e, if_neg (fun z => hk (e.trans z))]
    · rw [valV_neg e, valV_neg e, ih]
theorem valV_put (kvs : List (κ × V)) (k j : κ) (y : V) : valV (putK kvs k y) j = if j = k then some y else valV kvs j := by
  unfold putK
  by_cases a : (kvs.any fun kv => decide (kv.1 = k)) = true
  · rw [if_pos a, valV_map]
    rw [valV_any] at a
    by_cases e : j = k
    · obtain ⟨x, hx⟩ := Option.isSome_iff_exists.mp a
      rw [if_pos e, e, hx, Option.map_some, if_pos rfl]
    · rw [if_neg e]
      cases valV kvs j with
      | none => rfl
      | some x => rw [Option.map_some, if_neg e]
  · rw [if_neg a]
    refine valV_snoc k j y kvs ?_
    rw [valV_any] at a
    cases q : valV kvs k with
    | none => rfl
    | some x => rw [q] at a; exact (a rfl).elim
theorem length_putK (kvs : List (κ × V)) (k : κ) (v : V) : (putK kvs k v).length ≤ kvs.length + 1 := by
  unfold putK
  split
  · rw [List.length_map]; (first | lia | omega)
  · rw [List.length_append, List.length_cons, List.length_nil]; (first | lia | omega)
theorem putK_new {kvs : List (κ × V)} {k : κ} (v : V) (h : valV kvs k = none) : putK kvs k v = kvs ++ [(k, v)] := by
  unfold putK
  rw [valV_any, h]
  exact if_neg (by decide)

theorem RelO.isSome_eq {o : Option V} {u : Option Value} (r : RelO o u) : o.isSome = u.isSome := by
  cases o with
  | none => cases u with
    | none => rfl
    | some _ => exact (show False from r).elim
  | some _ => cases u with
    | none => exact (show False from r).elim
    | some _ => rfl
theorem RelO.getD {o : Option V} {u : Option Value} {d : V} {d' : Value} (r : RelO o u) (rd : RelV d d') : RelV (o.getD d) (u.getD d') := by
  cases o with
  | none => cases u with
    | none => exact rd
    | some _ => exact (show False from r).elim
  | some _ => cases u with
    | none => exact (show False from r).elim
    | some _ => exact r

/-- raw tables of the same keys -/
theorem KV.val {kvs : List (κ × V)} {vs : List (κ × Value)} (r : KV kvs vs) (k : κ) : RelO (valV kvs k) (valueAt vs k) := by
  unfold KV at r
  induction r with
  | nil => exact True.intro
  | @cons p q ps qs h t ih =>
    obtain ⟨h1, h2⟩ := h
    by_cases e : p.1 = k
    · have e' : q.1 = k := h1.symm.trans e
      have b : valueAt (q :: qs) k = some q.2 := by simp [valueAt, List.find?_cons, e']
      rw [valV_pos e, b]; exact h2
    · have e' : ¬ q.1 = k := fun z => e (h1.trans z)
      have b : valueAt (q :: qs) k = valueAt qs k := by simp [valueAt, List.find?_cons, e']
      rw [valV_neg e, b]; exact ih
theorem KV.any {kvs : List (κ × V)} {vs : List (κ × Value)} (r : KV kvs vs) (k : κ) : (kvs.any fun kv => decide (kv.1 = k)) = vs.any fun kv => decide (kv.1 = k) := by
  unfold KV at r
  induction r with
  | nil => rfl
  | cons h t ih => rw [List.any_cons, List.any_cons, ih, h.1]
theorem KV.repl {kvs : List (κ × V)} {vs : List (κ × Value)} (r : KV kvs vs) (k : κ) {y : V} {u : Value} (ry : RelV y u) :
    KV (kvs.map fun kv => if kv.1 = k then (kv.1, y) else kv) (vs.map fun kv => if kv.1 = k then (kv.1, u) else kv) := by
  unfold KV at r ⊢
  induction r with
  | nil => exact .nil
  | @cons p q ps qs h t ih =>
    rw [List.map_cons, List.map_cons]
    refine .cons ?_ ih
    obtain ⟨h1, h2⟩ := h
    by_cases e : p.1 = k
    · rw [if_pos e, if_pos (h1.symm.trans e)]; exact ⟨h1, ry⟩
    · rw [if_neg e, if_neg (fun z => e (h1.trans z))]; exact ⟨h1, h2⟩
theorem KV.put {kvs : List (κ × V)} {vs : List (κ × Value)} (r : KV kvs vs) (k : κ) {y : V} {u : Value} (ry : RelV y u) : KV (putK kvs k y) (stored vs k u) := by
  unfold putK stored
  rw [r.any k]
  by_cases e : (vs.any fun kv => decide (kv.1 = k)) = true
  · rw [if_pos e, if_pos e]; exact r.repl k ry
  · rw [if_neg e, if_neg e]; exact Paired.snoc r ⟨rfl, ry⟩
theorem KV.length {kvs : List (κ × V)} {vs : List (κ × Value)} (r : KV kvs vs) : kvs.length = vs.length := Paired.length r
end


/-! ### a tracked dict, its keys ints and texts or tuples of these -/
theorem kV_is {P : Program} {w : World} {k : Key} {u : Value} (r : RelV (kV k) u) : (mixKind P w).is k u = true := by
  cases k with
  | inl i => obtain ⟨t, e⟩ := (show ∃ t, u = Value.int i t from r); subst e; exact mixKind_int P w i t
  | inr x => obtain ⟨t, e⟩ := (show ∃ t, u = Value.str x t from r); subst e; exact mixKind_str P w x t
theorem items_are {P : Program} {w : World} : ∀ {ks : List Key} {us : List Value}, Vals (ks.map kV) us → ItemsAre (mixKind P w) ks us
  | [], _, r => by rw [List.map_nil] at r; cases r; exact .nil
  | k :: ks, _, r => by
    rw [List.map_cons] at r
    cases r with
    | cons h t => exact .cons (kV_is h) (items_are t)

/-- raw entries of a dict with tuple keys -/
abbrev KT (H : Hp) : List (List Key × V) → List (List Key × Addr × Value) → Prop := Paired fun p q => p.1 = q.1 ∧ H q.2.1 = some (.tup (p.1.map kV)) ∧ RelV p.2 q.2.2
theorem KT.val {H : Hp} {kvs : List (List Key × V)} {xs : List (List Key × Addr × Value)} (r : KT H kvs xs) (k : List Key) : RelO (valV kvs k) ((atKey xs k).map (·.2)) := by
  induction r with
  | nil => exact True.intro
  | @cons p q ps qs h t ih =>
    obtain ⟨h1, _, h2⟩ := h
    by_cases e : p.1 = k
    · have e' : q.1 = k := h1.symm.trans e
      have b : atKey (q :: qs) k = some q.2 := by simp [atKey, List.find?_cons, e']
      rw [valV_pos e, b]; exact h2
    · have e' : ¬ q.1 = k := fun z => e (h1.trans z)
      have b : atKey (q :: qs) k = atKey qs k := by simp [atKey, List.find?_cons, e']
      rw [valV_neg e, b]; exact ih
theorem KT.repl {H : Hp} {kvs : List (List Key × V)} {xs : List (List Key × Addr × Value)} (r : KT H kvs xs) (k : List Key) {y : V} {u : Value} (ry : RelV y u) :
    KT H (kvs.map fun kv => if kv.1 = k then (kv.1, y) else kv) (xs.map (putAt k u)) := by
  induction r with
  | nil => exact .nil
  | @cons p q ps qs h t ih =>
    rw [List.map_cons, List.map_cons]
    refine .cons ?_ ih
    obtain ⟨h1, h2, h3⟩ := h
    unfold putAt
    by_cases e : p.1 = k
    · rw [if_pos e, if_pos (h1.symm.trans e)]; exact ⟨h1, h2, ry⟩
    · rw [if_neg e, if_neg (fun z => e (h1.trans z))]; exact ⟨h1, h2, h3⟩
theorem KT.put {H : Hp} {kvs : List (List Key × V)} {xs : List (List Key × Addr × Value)} (r : KT H kvs xs) (k : List Key) {b : Addr} {y : V} {u : Value} (hb : H b = some (.tup (k.map kV))) (ry : RelV y u) :
    KT H (putK kvs k y) (storedH xs k b u) := by
  have e : (kvs.any fun kv => decide (kv.1 = k)) = (atKey xs k).isSome := by
    rw [valV_any, (r.val k).isSome_eq, Option.isSome_map]
  unfold putK storedH
  rw [e]
  by_cases q : (atKey xs k).isSome = true
  · rw [if_pos q, if_pos q]; exact r.repl k ry
  · rw [if_neg q, if_neg q]; exact Paired.snoc r ⟨rfl, hb, ry⟩
theorem KT.keeps {H H' : Hp} {kvs : List (List Key × V)} {xs : List (List Key × Addr × Value)} (r : KT H kvs xs) (ht : ∀ b ys, H b = some (.tup ys) → H' b = some (.tup ys)) : KT H' kvs xs :=
  Paired.mapP r fun _ _ z => ⟨z.1, ht _ _ z.2.1, z.2.2⟩

section
variable {P : Program} {w : World} {H : Hp} {h : Heap} {a : Addr}
theorem rd_of {u : HO} (ok : HOk P w H h) (e : Rd H a u) : ObjOk P w H h a u := e.ok ok
theorem dk_rd {kvs : List (Key × V)} (ok : HOk P w H h) (e : Rd H a (.dK kvs)) : kvs.length ≤ sizeLine ∧ (a == sysModules) = false ∧ ∃ vs, KV kvs vs ∧ h.DictOf (mixKind P w) a vs :=
  show ObjOk P w H h a (.dK kvs) from rd_of ok e
theorem dk_of {kvs : List (Key × V)} (ok : HOk P w H h) (e : H a = some (.dK kvs)) : kvs.length ≤ sizeLine ∧ (a == sysModules) = false ∧ ∃ vs, KV kvs vs ∧ h.DictOf (mixKind P w) a vs := dk_rd ok (.inl e)
/-- a tracked tuple of ints and texts is a key -/
theorem key_of {ks : List Key} (ok : HOk P w H h) (e : H a = some (.tup (ks.map kV))) : (tupleKind (mixKind P w)).is h ks a := by
  obtain ⟨_, its, r, o, h1, h2, n, h3⟩ := (show ObjOk P w H h a (.tup (ks.map kV)) from ok a _ e)
  exact ⟨o, its.toArray, n, h1, h2, h3, by simpa using items_are r⟩
theorem dt_rd {kvs : List (List Key × V)} (ok : HOk P w H h) (e : Rd H a (.dT kvs)) : kvs.length ≤ sizeLine ∧ (a == sysModules) = false ∧
    ∃ xs, KT H kvs xs ∧ h.DictOfH (tupleKind (mixKind P w)) a xs := by
  obtain ⟨z, y, xs, r, o, es, ep, h1, h2, h3, h4, h5⟩ := (show ObjOk P w H h a (.dT kvs) from rd_of ok e)
  refine ⟨z, y, xs, r, o, es, ep, h1, h2, h3, h4, fun x hx => ?_, h5⟩
  have all : ∀ {l : List (List Key × V)} {m : List (List Key × Addr × Value)}, KT H l m → ∀ x ∈ m, (tupleKind (mixKind P w)).is h x.1 x.2.1 := by
    intro l m q
    induction q with
    | nil => intro x hx; exact nomatch hx
    | @cons p q ps qs hq t ih =>
      intro x hx
      rcases List.mem_cons.mp hx with e | hx
      · subst e
        exact key_of ok (by rw [← hq.1]; exact hq.2.1)
      · exact ih x hx
  exact all r x hx
theorem dt_of {kvs : List (List Key × V)} (ok : HOk P w H h) (e : H a = some (.dT kvs)) : kvs.length ≤ sizeLine ∧ (a == sysModules) = false ∧
    ∃ xs, KT H kvs xs ∧ h.DictOfH (tupleKind (mixKind P w)) a xs := dt_rd ok (.inl e)
end

/-- what the dict at a holds at the key y -/
def DGet (H : Hp) (a : Addr) (y : V) (r : Option V) : Prop :=
  (∃ kvs k, Rd H a (.dK kvs) ∧ y = kV k ∧ r = valV kvs k) ∨ ∃ kvs k b, Rd H a (.dT kvs) ∧ y = .ref b ∧ H b = some (.tup (k.map kV)) ∧ r = valV kvs k
/-- the heap behind a[y] = v -/
def DPut (H : Hp) (a : Addr) (y v : V) (H' : Hp) : Prop :=
  (∃ kvs k, H a = some (.dK kvs) ∧ y = kV k ∧ kvs.length < sizeLine ∧ H' = upd H a (.dK (putK kvs k v))) ∨
  ∃ kvs k b, H a = some (.dT kvs) ∧ y = .ref b ∧ H b = some (.tup (k.map kV)) ∧ kvs.length < sizeLine ∧ H' = upd H a (.dT (putK kvs k v))
theorem DGet.k {H : Hp} {a : Addr} {kvs : List (Key × V)} {k : Key} (e : H a = some (.dK kvs)) : DGet H a (kV k) (valV kvs k) := .inl ⟨kvs, k, .inl e, rfl, rfl⟩
theorem DPut.k {H : Hp} {a : Addr} {kvs : List (Key × V)} {k : Key} {v : V} (e : H a = some (.dK kvs)) (hl : kvs.length < sizeLine) : DPut H a (kV k) v (upd H a (.dK (putK kvs k v))) := .inl ⟨kvs, k, e, rfl, hl, rfl⟩
theorem DPut.t {H : Hp} {a b : Addr} {kvs : List (List Key × V)} {k : List Key} {v : V} (e : H a = some (.dT kvs)) (eb : H b = some (.tup (k.map kV))) (hl : kvs.length < sizeLine) :
    DPut H a (.ref b) v (upd H a (.dT (putK kvs k v))) := .inr ⟨kvs, k, b, e, rfl, eb, hl, rfl⟩


section
variable {X : Cx} {pins : List (Addr × Obj)} {σ : St} {H : Hp} {s : Shared} {a : Addr} {y v : V} {u r : Value} {o : Option V} {A : Around} {E : Value → Shared → Prop}

theorem Inv.big (I : Inv X pins σ H s) : sysModules < s.heap.objs.size := by
  have h : mainGlobals < s.heap.objs.size := (I.mod.glob.keeps I.bk).lt
  exact Nat.lt_trans (by decide) h

/-- d[y], there -/
theorem d_getItem {Q : Value → Shared → Prop} (hu : A.units + 1 < cLine) (I : Inv X pins σ H s) (g : DGet H a y (some v)) (ry : RelV y u) (h : ∀ w' s', Inv X pins σ H s' → RelV v w' → Q w' s') :
    wpAny (model X.prog X.w) A (getItem (.ref a) u) Q E s := by
  rcases g with ⟨kvs, k, e, ey, l⟩ | ⟨kvs, k, b, e, ey, eb, l⟩
  · subst ey
    obtain ⟨z, hd, vs, rel, dd⟩ := dk_rd I.hok e
    obtain ⟨w', hw, rw'⟩ := RelO.some_of (v := v) (o := valueAt vs k) (by rw [l]; exact rel.val k)
    exact wpAny_getItem_of (kV_is ry) dd.mapOf hw (h w' _ (I.tok _) rw')
  · subst ey
    cases (show u = Value.ref b from ry)
    obtain ⟨z, hd, xs, rel, dd⟩ := dt_rd I.hok e
    obtain ⟨w', hw, rw'⟩ := RelO.some_of (v := v) (o := (atKey xs k).map (·.2)) (by rw [l]; exact rel.val k)
    obtain ⟨p, hp, hp2⟩ := Option.map_eq_some_iff.mp hw
    refine wpAny_getItem_heap (tupleKind_room_in1 hu) (key_of I.hok eb) dd hp ?_
    rw [hp2]
    exact h w' _ (I.tok _) rw'
/-- y in d -/
theorem d_in {Q : Value → Shared → Prop} (hu : A.units + 1 < cLine) (I : Inv X pins σ H s) (g : DGet H a y o) (ry : RelV y u) (h : ∀ s', Inv X pins σ H s' → Q (.bool o.isSome) s') :
    wpAny (model X.prog X.w) A (compareOp .In u (.ref a)) Q E s := by
  rcases g with ⟨kvs, k, e, ey, l⟩ | ⟨kvs, k, b, e, ey, eb, l⟩
  · subst ey
    obtain ⟨z, hd, vs, rel, dd⟩ := dk_rd I.hok e
    refine wpAny_in_of (kV_is ry) hd dd.mapOf ?_
    rw [← (rel.val k).isSome_eq, ← l]
    exact h _ (I.tok _)
  · subst ey
    cases (show u = Value.ref b from ry)
    obtain ⟨z, hd, xs, rel, dd⟩ := dt_rd I.hok e
    refine wpAny_in_heap (tupleKind_room_in1 hu) (key_of I.hok eb) hd dd ?_
    have q := (rel.val k).isSome_eq
    rw [Option.isSome_map] at q
    rw [← q, ← l]
    exact h _ (I.tok _)
/-- a dict's object is replaced -/
theorem d_write {h' : Heap} {t' : Nat} {ob : HO} (I : Inv X pins σ H s) (mu : Mut (H a)) (hs : Heap.SameBut a s.heap h') (he : ∃ q, h'.get? a = some q) (new : ObjOk X.prog X.w (upd H a ob) h' a ob) :
    Inv X pins σ (upd H a ob) { s with heap := h', toks := t' } :=
  I.write (x := a) (e := a) mu (.inl rfl) (fun b q hb z => (hs.2 b hb).trans z) he new
theorem dk_new {P : Program} {w : World} {H' : Hp} {h' : Heap} {kvs : List (Key × V)} {vs : List (Key × Value)} (z : kvs.length ≤ sizeLine) (hd : (a == sysModules) = false) (rel : KV kvs vs) (dd : h'.DictOf (mixKind P w) a vs) :
    ObjOk P w H' h' a (.dK kvs) := ⟨z, hd, vs, rel, dd⟩
/-- d[y] = v -/
theorem d_setItem {H' : Hp} {Q : Unit → Shared → Prop} (hu : A.units + 1 < cLine) (I : Inv X pins σ H s) (g : DPut H a y v H') (ry : RelV y u) (rv : RelV v r) (h : ∀ s', Inv X pins σ H' s' → Q () s') :
    wpAny (model X.prog X.w) A (setItem (.ref a) u r) Q E s := by
  rcases g with ⟨kvs, k, e, ey, l, eH⟩ | ⟨kvs, k, b, e, ey, eb, l, eH⟩
  · subst ey eH
    obtain ⟨z, hd, vs, rel, dd⟩ := dk_of I.hok e
    have hz : vs.length ≤ sizeLine := by rw [← rel.length]; exact z
    have hl : (putK kvs k v).length ≤ sizeLine := by have := length_putK kvs k v; (first | lia | omega)
    refine wpAny_setItem_pairs (hsz := hz) (kV_is ry) dd fun h' dd' hs => h _ ?_
    have he : ∃ q, h'.get? a = some q := let ⟨q, _, _, hq, _⟩ := dd'; ⟨q, hq⟩
    exact d_write I (by rw [e]; exact True.intro) hs he (dk_new hl hd (rel.put k rv) dd')
  · subst ey eH
    cases (show u = Value.ref b from ry)
    obtain ⟨z, hd, xs, rel, dd⟩ := dt_of I.hok e
    have hz : xs.length ≤ sizeLine := by rw [← Paired.length rel]; exact z
    have hl : (putK kvs k v).length ≤ sizeLine := by have := length_putK kvs k v; (first | lia | omega)
    refine wpAny_setItem_heap (hsz := hz) (tupleKind_room_in1 hu) (key_of I.hok eb) dd fun h' dd' hs => h _ ?_
    obtain ⟨q, es, ep, hq, h2, h3, h4, _, h5⟩ := dd'
    refine d_write I (by rw [e]; exact True.intro) hs ⟨q, hq⟩ ⟨hl, hd, _, (rel.put k eb rv).keeps fun c ys ec => ?_, q, es, ep, hq, h2, h3, h4, h5⟩
    rw [upd_ne (ne_of ec e (fun z => nomatch z))]
    exact ec
end



/-! ### readings and rules -/
/-- the element of a subscription, not a slice -/
def NoSl (i : Expr) : Prop := ∀ ov iv, subscripted i false ov iv = operate [ov, iv] (getItem ov iv)
theorem subD_of {prog : Program} {w : World} {A : Around} {E : Value → Shared → Prop} {s : Shared} {env : Env} {value slice : Expr} {pos : Pos} {T id : String} {Q : Value → Shared → Prop}
    (hl : typeLookup (.type T) "__getitem__" = pure (some (.builtin id))) (hs : NoSl slice)
    (h : wpAny (model prog w) A (eval value env) (fun o s₁ => wpAny (model prog w) A (eval slice env) (fun i s₂ => s₂.TypeIs o T ∧ wpAny (model prog w) A (getItem o i) Q E s₂) E s₁) E s) :
    wpAny (model prog w) A (eval (.Subscript value slice pos) env) Q E s := by
  refine Subscript_ (wpAny_mono h (fun o s₁ h₁ => wpAny_mono h₁ (fun i s₂ h₂ => ?_) fun _ _ x => x) fun _ _ x => x)
  obtain ⟨hT, h₂⟩ := h₂
  unfold subscriptTail
  refine wpAny_bind ?_
  rw [getitemInPython_of_ne hT.not_modules]
  refine wpAny_bind (wpAny_specialOf hT hl ?_)
  have fin : wpAny (model prog w) A (subscripted slice false o i) (fun r s₃ => wpAny (model prog w) A (letTemporaryGo value o r >>= fun _ => pure r) Q E s₃) E s₂ := by
    rw [hs o i]
    exact wpAny_operating (wpAny_mono h₂ (fun r s₃ h₃ => wpAny_bind (wpAny_letTemporaryGo (wpAny_pure h₃))) fun _ _ x => x)
  first
    | exact wpAny_pure (wpAny_bind fin)
    | exact wpAny_bind (wpAny_pure (wpAny_bind fin))
    | exact wpAny_bind fin

theorem dict_typeIs {X : Cx} {pins : List (Addr × Obj)} {σ : St} {H : Hp} {s : Shared} {a : Addr} {y : V} {o : Option V} (I : Inv X pins σ H s) (g : DGet H a y o) : s.TypeIs (.ref a) "dict" := by
  rcases g with ⟨kvs, k, e, _, _⟩ | ⟨kvs, k, b, e, _, _, _⟩
  · obtain ⟨_, _, vs, _, dd⟩ := dk_rd I.hok e
    exact dd.typeIs
  · obtain ⟨_, _, xs, _, dd⟩ := dt_rd I.hok e
    exact dd.typeIs
/-- d[y] -/
def tDGet (td ty : TE) : TE := fun σ H Q => td σ H fun x H1 => ty σ H1 fun y H2 => ∃ a v, x = .ref a ∧ DGet H2 a y (some v) ∧ Q v H2
/-- y in d, y not in d -/
def tDIn (ty td : TE) : TE := fun σ H Q => ty σ H fun y H1 => td σ H1 fun x H2 => ∃ a o, x = .ref a ∧ DGet H2 a y o ∧ Q (.bl o.isSome) H2
/-- d[y] = v -/
def sDPut (td ty tv : TE) : TS := fun D σ H => tv σ H fun v H1 => td σ H1 fun x H2 => ty σ H2 fun y H3 => ∃ a H4, x = .ref a ∧ DPut H3 a y v H4 ∧ D.nx σ H4
section
variable {X : Cx} {o i e value : Expr} {pos pos' tpos : Pos} {td ty tv : TE}
theorem pe_dget (hu : X.A.units + 1 < cLine) (ho : PE X o td) (hi : PE X i ty) (hs : NoSl i) : PE X (.Subscript o i pos) (tDGet td ty) := by
  intro pins s σ H Q I h
  refine subD_of PySem.F.slot_dict_getitem.lookup hs (thn (ho pins s σ H _ I h) fun u s1 ⟨x, H1, I1, rx, q1⟩ => thn (hi pins s1 σ H1 _ I1 q1) fun iv s2 ⟨y, H2, I2, ry, a, v, ex, g, q2⟩ => ?_)
  subst ex
  obtain rfl : u = Value.ref a := rx
  exact ⟨dict_typeIs I2 g, d_getItem hu I2 g ry fun w' s3 I3 rw' => ⟨v, H2, I3, rw', q2⟩⟩
theorem pc_din (hu : X.A.units + 1 < cLine) (hi : PE X i ty) (ho : PE X o td) : PC X .In i o (tDIn ty td) := by
  intro pins s σ H Q I h
  refine thn (hi pins s σ H _ I h) fun iv s1 ⟨y, H1, I1, ry, q1⟩ => thn (ho pins s1 σ H1 _ I1 q1) fun u s2 ⟨x, H2, I2, rx, a, ov, ex, g, q2⟩ => ?_
  subst ex
  obtain rfl : u = Value.ref a := rx
  exact d_in hu I2 g ry fun s3 I3 => ⟨.bl ov.isSome, H2, I3, rfl, q2⟩
theorem ps_dput (hu : X.A.units + 1 < cLine) (ho : PE X o td) (hi : PE X i ty) (hv : PE X value tv) (hs : swapsWith value (some (.Subscript o i pos')) pos.line X.env = pure false) :
    PS X (.Assign [.Subscript o i pos'] value pos) (sDPut td ty tv) := by
  intro pins s σ H D I h
  refine wpAny_Assign_Subscript (thn (hv pins s σ H _ I h) fun r s1 ⟨v, H1, I1, rv, q1⟩ => thn (ho pins s1 σ H1 _ I1 q1) fun u s2 ⟨x, H2, I2, rx, q2⟩ => thn (hi pins s2 σ H2 _ I2 q2) fun iv s3 ⟨y, H3, I3, ry, a, H4, ex, g, q3⟩ => ?_) hs
  subst ex
  obtain rfl : u = Value.ref a := rx
  exact d_setItem hu I3 g ry rv fun s4 I4 => ⟨σ, H4, I4, q3⟩
end


/-! ### displays -/
theorem dk_empty {P : Program} {w : World} {H : Hp} (h : Heap) (hb : sysModules < h.objs.size) : ObjOk P w H (h.push { cls := .type "dict", data := .dict #[] }) h.objs.size (.dK []) :=
  ⟨Nat.zero_le _, beq_eq_false_iff_ne.mpr (Ne.symm (Nat.ne_of_lt hb)), [], .nil, Heap.DictOf.new h⟩
theorem dt_empty {P : Program} {w : World} {H : Hp} (h : Heap) (hb : sysModules < h.objs.size) : ObjOk P w H (h.push { cls := .type "dict", data := .dict #[] }) h.objs.size (.dT []) :=
  ⟨Nat.zero_le _, beq_eq_false_iff_ne.mpr (Ne.symm (Nat.ne_of_lt hb)), [], .nil, _, #[], 0, Heap.get?_push_size _ rfl, ⟨rfl, rfl, rfl⟩, rfl, rfl, List.nodup_nil⟩
/-- {}, to be a dict of the kind that is wanted -/
def tDNewK : TE := fun _ H Q => ∀ p, H p = none → Q (.ref p) (upd H p (.dK []))
def tDNewT : TE := fun _ H Q => ∀ p, H p = none → Q (.ref p) (upd H p (.dT []))
section
variable {X : Cx} {pos : Pos}
theorem pe_dnewK : PE X (.Dict [] [] pos) tDNewK := fun pins s σ H Q I h =>
  wpAny_Dict_empty ⟨.ref s.heap.objs.size, _, I.laid (a := s.heap.objs.size) (o := .dK []) (t' := s.toks) (fun _ _ q => Heap.get?_push_of_some _ q) (Nat.le_refl _) (dk_empty s.heap I.big), rfl, h _ (I.hok.fresh (Nat.le_refl _))⟩
theorem pe_dnewT : PE X (.Dict [] [] pos) tDNewT := fun pins s σ H Q I h =>
  wpAny_Dict_empty ⟨.ref s.heap.objs.size, _, I.laid (a := s.heap.objs.size) (o := .dT []) (t' := s.toks) (fun _ _ q => Heap.get?_push_of_some _ q) (Nat.le_refl _) (dt_empty s.heap I.big), rfl, h _ (I.hok.fresh (Nat.le_refl _))⟩
end

/-! ### methods -/
structure M2 (X : Cx) (o : Expr) (m : Str) (apos : Pos) (e f : Expr) (cpos : Pos) : Prop where
  base : attributeBase o m X.env (eval o X.env) = eval o X.env
  few : ((backTo cpos (starEach [e, f] X.env)).all (fun x => !x.1) && (backToKw cpos (keywordEach [] X.env)).all (fun x => x.1.isSome)
    && decide (([e, f] : List Expr).length + ([] : List Keyword).length + (if ([] : List Keyword).isEmpty then 0 else 1) < 30)) = true
  line : (apos.endLine == cpos.line) = true
  trees : backTo cpos (starEach [e, f] X.env) = [(false, eval e X.env), (false, eval f X.env)]

/-- a is a dict, whatever its keys -/
def IsD (H : Hp) (a : Addr) : Prop := (∃ kvs, Rd H a (.dK kvs)) ∨ ∃ kvs, Rd H a (.dT kvs)
theorem isD_at {X : Cx} {pins : List (Addr × Obj)} {σ : St} {H : Hp} {s : Shared} {a : Addr} (I : Inv X pins σ H s) (d : IsD H a) :
    s.TypeIs (.ref a) "dict" ∧ (∀ b, Value.ref a = .ref b → ∃ ob, s.heap.get? b = some ob ∧ ob.dict = none) ∧ (a == sysModules) = false := by
  rcases d with ⟨kvs, e⟩ | ⟨kvs, e⟩
  · obtain ⟨_, hd, vs, _, dd⟩ := dk_rd I.hok e
    refine ⟨dd.typeIs, fun b q => ?_, hd⟩
    cases q
    obtain ⟨ob, _, _, h1, h2, _⟩ := dd
    exact ⟨ob, h1, h2.2.1⟩
  · obtain ⟨_, hd, xs, _, dd⟩ := dt_rd I.hok e
    refine ⟨dd.typeIs, fun b q => ?_, hd⟩
    cases q
    obtain ⟨ob, _, _, h1, h2, _⟩ := dd
    exact ⟨ob, h1, h2.2.1⟩

section
variable {X : Cx} {pins : List (Addr × Obj)} {σ : St} {H : Hp} {s : Shared} {a : Addr} {y d : V} {u r : Value} {o : Option V} {A : Around} {E : Value → Shared → Prop}
/-- d.get(y, x) -/
theorem d_get2 {Q : Value → Shared → Prop} (hu : A.units + 1 < cLine) (I : Inv X pins σ H s) (g : DGet H a y o) (ry : RelV y u) (rd : RelV d r) (h : ∀ w' s', Inv X pins σ H s' → RelV (o.getD d) w' → Q w' s') :
    wpAny (model X.prog X.w) A (call (.builtin "dict.get") [.ref a, u, r]) Q E s := by
  rcases g with ⟨kvs, k, e, ey, l⟩ | ⟨kvs, k, b, e, ey, eb, l⟩
  · subst ey
    obtain ⟨z, hd, vs, rel, dd⟩ := dk_rd I.hok e
    refine call_meetsIn PySem.F.slot_dict_get dd.typeIs PySem.F.entry_dict_get (PySem.F.args_dict_get_3 _ _ _) (meets_dict_get_default (mixKind X.prog X.w) a (kV_is ry) hd r) ⟨_, dd.mapOf, h _ _ (I.tok _) ?_⟩
    rw [l]
    exact (rel.val k).getD rd
  · subst ey
    cases (show u = Value.ref b from ry)
    obtain ⟨z, hd, xs, rel, dd⟩ := dt_rd I.hok e
    refine call_meetsIn PySem.F.slot_dict_get dd.typeIs PySem.F.entry_dict_get (PySem.F.args_dict_get_3 _ _ _) (meetsH_dict_get_default (tupleKind (mixKind X.prog X.w)) a b hd r) ⟨tupleKind_room_in1 hu, k, xs, key_of I.hok eb, dd, h _ _ (I.tok _) ?_⟩
    rw [l]
    exact (rel.val k).getD rd
end

def tDGet2 (td ty tx : TE) : TE := fun σ H Q => td σ H fun x H1 => ∃ a, x = .ref a ∧ IsD H1 a ∧ ty σ H1 fun y H2 => tx σ H2 fun z H3 => ∃ o, DGet H3 a y o ∧ Q (o.getD z) H3
section
variable {X : Cx} {o e f : Expr} {apos cpos : Pos} {td ty tx : TE}
theorem pe_dget2 (hu : X.A.units + 1 < cLine) (ho : PE X o td) (he : PE X e ty) (hf : PE X f tx) (m : M2 X o "get" apos e f cpos) : PE X (.Call (.Attribute o "get" apos) [e, f] [] cpos) (tDGet2 td ty tx) := by
  intro pins s σ H Q I h
  refine wpAny_Call_method m.base m.few m.line PySem.F.plainAttrs_dict PySem.F.slot_dict_get PySem.F.type_dict_get (thn (ho pins s σ H _ I h) fun u s1 ⟨x, H1, I1, rx, a, ex, d, q1⟩ => ?_)
  subst ex
  obtain rfl : u = Value.ref a := rx
  obtain ⟨t1, t2, _⟩ := isD_at I1 d
  refine ⟨t1, t2, ?_⟩
  rw [m.trees]
  refine Calls.callWith_builtin rfl (Calls.evalArgs_plain (Calls.spliced_cons (thn (he pins s1 σ H1 _ I1 q1) fun iv s2 ⟨y, H2, I2, ry, q2⟩ =>
    Calls.spliced_cons (thn (hf pins s2 σ H2 _ I2 q2) fun fv s3 ⟨z, H3, I3, rz, ov, g, q3⟩ => Calls.spliced_nil ?_))))
  exact d_get2 hu I3 g ry rz fun w' s4 I4 rw' => ⟨_, H3, I4, rw', q3⟩
end

/-! ### dict(d): a copy -/


end L2
namespace L2
open PySem PySem.Spec PyProof.Rows
/-! ### a dict's pairs: keys that differ -/
end L2
/-! own classes: their methods and their making, as Has; a statement that is never come to; int(truth) -/
namespace L2
open PySem PySem.Spec PyProof.Rows
end L2
namespace L2
open PySem PySem.Spec PyProof.Rows
theorem call_intB {X : Cx} : CallR X (.type "int") (fun xs H Q => ∃ b, xs = [.bl b] ∧ Q (.int (if b = true then 1 else 0)) H) := by
  intro pins s σ H xs us Q I r h
  obtain ⟨b, rfl, q⟩ := h
  obtain ⟨u, rfl, ru⟩ := vals1 r
  cases ru
  exact call_int_bool ⟨.int (if b = true then 1 else 0), H, I.tok _, ⟨_, rfl⟩, q⟩
end L2

/-! for i, c in enumerate(text) -/
namespace L2
open PySem PySem.Spec PyProof.Rows
end L2

/-! t + u of tuples, == of lists of texts, groves behind one another -/
namespace L2
open PySem PySem.Spec PyProof.Rows
end L2
namespace Fg
open PySem L2 FgM
end Fg
namespace FgM
section
variable {A : Type}
def gapp : Gr A → Gr A → Gr A
  | .nil, h => h
  | .cons t w o, h => .cons t w (gapp o h)
theorem words_gapp (sl : A) : ∀ g h : Gr A, words sl (gapp g h) = words sl g ++ words sl h
  | .nil, h => rfl
  | .cons t w o, h => by simp [gapp, words, words_gapp sl o h]
variable [DecidableEq A]
end
end FgM
namespace Fg
open PySem L2 FgM
end Fg

/-! recursion's ground, constants of the module, == of tuples by their lengths, blocks with captured names -/
namespace L2
open PySem PySem.Spec PyProof.Rows
theorem FnOk.none {P : Program} {w : World} {K : PySem.W.Frag} {mg : Str → Option Value} {base : Heap} {CX : CXT} {k : Nat} {f : Addr} {fd : FuncData} {ps : List Str} {sp : Sp} (h : ∀ vs H Q E, ¬ sp vs H Q E) : FnOk P w K mg base CX k f fd ps sp :=
  ⟨fun vs H Q E z => absurd z (h vs H Q E), fun A outer s H args us vs Q E hr e0 hb r z => absurd z (h vs H Q E)⟩
/-! captured names -/
theorem lookup_mem {β : Type} {x : Str} {c : β} : ∀ {l : List (Str × β)}, l.lookup x = some c → (x, c) ∈ l
  | [], h => by cases h
  | (y, d) :: l, h => by
    rw [List.lookup_cons] at h
    cases e : x == y with
    | true =>
      rw [e] at h
      cases h
      rw [beq_iff_eq.mp e]
      exact List.mem_cons_self ..
    | false =>
      rw [e] at h
      exact List.mem_cons_of_mem _ (lookup_mem h)
theorem cap_cl {env : Env} {cl : List (Str × Addr)} (h : ∀ p ∈ cl, env.cells.lookup p.1 = some p.2) : ∀ x c, cl.lookup x = some c → env.cells.lookup x = some c := fun x c e => h (x, c) (lookup_mem e)
theorem cap_has {scope : Scope} {env : Env} {cl : List (Str × Addr)} (h : ∀ y ∈ scope.names, (y.2 = .cell ∨ y.2 = .free) → ∃ c, cl.lookup y.1 = some c) : ∀ (C : Addr) (x : Str), ((compEnvC scope cl C env).kindOf x = some .cell ∨ (compEnvC scope cl C env).kindOf x = some .free) → ∃ c, cl.lookup x = some c := by
  have key : ∀ (k : NameKind) (x : Str), (k = .cell ∨ k = .free) → (scope.names.map fun (n, k) => if (k == .free && env.scope.kind == .function && env.kindOf n == some .cell) then (n, .cell) else (n, k)).lookup x = some k → ∃ c, cl.lookup x = some c := by
    intro k x hk e
    obtain ⟨⟨n, k0⟩, hy, he⟩ := List.mem_map.mp (lookup_mem e)
    by_cases hc : (k0 == .free && env.scope.kind == .function && env.kindOf n == some .cell) = true
    · simp only [hc, if_true] at he
      have h0 : k0 = .free := by
        simp only [Bool.and_eq_true] at hc
        have := hc.1.1
        cases k0 <;> first | rfl | exact absurd this (by decide)
      injection he with e1 e2
      subst e1
      exact h _ hy (.inr h0)
    · simp only [hc] at he
      injection he with e1 e2
      subst e1 e2
      exact h _ hy hk
  intro C x hx
  rcases hx with e | e
  · exact key _ x (.inl rfl) e
  · exact key _ x (.inr rfl) e
end L2
namespace L2
open PySem PySem.Spec PyProof.Rows
theorem ix_tupK {X : Cx} {K : PySem.W.Frag} (h : X.K = K) : IxR X (rIxT K) := by
  subst h
  exact ix_tup
end L2

/-! a block's parts by names of their own (what comes behind a statement is then one word in a proof) -/
namespace L2
open PySem PySem.Spec PyProof.Rows
def sBody : Stmt → List Stmt
  | .For _ _ b _ _ => b
  | .While _ b _ _ => b
  | .If _ b _ _ => b
  | _ => []
def sElse : Stmt → List Stmt
  | .If _ _ b _ => b
  | _ => []
theorem hideI {X : Cx} {b : List Stmt} {D : Ends} {σ : St} {H : Hp} (s : List Stmt) {t : TS} (h : PSs X s t) (k : ∀ u, PSs X s u → u = t → ∃ t, PSs X b t ∧ t D σ H) : ∃ t, PSs X b t ∧ t D σ H := k t h rfl
theorem by_eq {u t : TS} (e : u = t) {D : Ends} {σ : St} {H : Hp} (h : t D σ H) : u D σ H := e ▸ h
theorem len1 {α : Type} : ∀ {us : List α}, us.length = 1 → ∃ a, us = [a]
  | [a], _ => ⟨a, rfl⟩
theorem lenS {α : Type} {n : Nat} : ∀ {us : List α}, us.length = n + 1 → ∃ a vs, us = a :: vs ∧ vs.length = n
  | a :: vs, h => ⟨a, vs, rfl, Nat.succ.inj h⟩
theorem len2 {α : Type} {us : List α} (h : us.length = 2) : ∃ a b, us = [a, b] := by
  obtain ⟨a, vs, rfl, h2⟩ := lenS h
  obtain ⟨b, rfl⟩ := len1 h2
  exact ⟨a, b, rfl⟩
theorem len3 {α : Type} {us : List α} (h : us.length = 3) : ∃ a b c, us = [a, b, c] := by
  obtain ⟨a, vs, rfl, h2⟩ := lenS h
  obtain ⟨b, c, rfl⟩ := len2 h2
  exact ⟨a, b, c, rfl⟩
theorem len4 {α : Type} {us : List α} (h : us.length = 4) : ∃ a b c d, us = [a, b, c, d] := by
  obtain ⟨a, vs, rfl, h2⟩ := lenS h
  obtain ⟨b, c, d, rfl⟩ := len3 h2
  exact ⟨a, b, c, d, rfl⟩
theorem len5 {α : Type} {us : List α} (h : us.length = 5) : ∃ a b c d e, us = [a, b, c, d, e] := by
  obtain ⟨a, vs, rfl, h2⟩ := lenS h
  obtain ⟨b, c, d, e, rfl⟩ := len4 h2
  exact ⟨a, b, c, d, e, rfl⟩
theorem len6 {α : Type} {us : List α} (h : us.length = 6) : ∃ a b c d e f, us = [a, b, c, d, e, f] := by
  obtain ⟨a, vs, rfl, h2⟩ := lenS h
  obtain ⟨b, c, d, e, f, rfl⟩ := len5 h2
  exact ⟨a, b, c, d, e, f, rfl⟩
theorem Vals.inv {v : V} {vs : List V} {us : List Value} (h : Vals (v :: vs) us) : ∃ u us', us = u :: us' ∧ RelV v u ∧ Vals vs us' := by
  cases h with
  | cons r t => exact ⟨_, _, rfl, r, t⟩
theorem Vals.end_ {us : List Value} (h : Vals [] us) : us = [] := by
  cases h
  rfl
end L2

/-! exceptions of own classes: raised, passed on, caught -/
namespace L2
open PySem PySem.Spec PyProof.Rows
end L2

namespace L2
open PySem PySem.Spec PyProof.Rows
/-! ### callees that may raise -/
/-! ### which classes an except names -/
end L2

namespace L2
open PySem PySem.Spec PyProof.Rows
/-! ### try -/
end L2

namespace L2
open PySem PySem.Spec PyProof.Rows PySem.W
/-! ### an own class of errors, under ValueError by one class more -/
end L2

namespace L2
open PySem PySem.Spec PyProof.Rows PySem.W Builtin Builtin.ObjectAttr
end L2

namespace L2
open PySem PySem.Spec PyProof.Rows PySem.W Builtin Builtin.ObjectAttr
end L2

namespace L2
open PySem PySem.Spec PyProof.Rows PySem.W
end L2

namespace L2
open PySem PySem.Spec PyProof.Rows PySem.W
end L2

namespace L2
open PySem PySem.Spec PyProof.Rows PySem.W
end L2

/-! texts with values put in -/
namespace L2
open PySem PySem.Spec PyProof.Rows
end L2

/-! a display of many written texts -/
namespace L2
open PySem PySem.Spec PyProof.Rows
end L2
namespace L2
open PySem PySem.Spec PyProof.Rows
end L2
namespace L2
open PySem PySem.Spec PyProof.Rows PySem.W
variable {X : Cx}
end L2

/-! sorted: what it gives is what it was given, in some order, at any length -/
namespace Srt
open PySem PyProof.Rows
def gallop' : Bool → Keyed → Array Keyed → Nat → Nat → Nat → StateT SortSt Sem (Option Nat) := sortPriv% PySem.Builtin.gallop
def mergeLo' : Array Keyed → Array Keyed → StateT SortSt Sem (Array Keyed) := sortPriv% PySem.Builtin.mergeLo
def mergeHi' : Array Keyed → Array Keyed → StateT SortSt Sem (Array Keyed) := sortPriv% PySem.Builtin.mergeHi
/-- as another state but for how soon it gallops -/
structure Like (st st' : SortSt) : Prop where
  arr : arrOf st' = arrOf st
  kind : kindOf st' = kindOf st
  fail : failedOf st' = failedOf st
  pend : pendingOf st' = pendingOf st
theorem Like.refl (st : SortSt) : Like st st := ⟨rfl, rfl, rfl, rfl⟩
theorem Like.trans {a b c : SortSt} (x : Like a b) (y : Like b c) : Like a c := ⟨y.arr.trans x.arr, y.kind.trans x.kind, y.fail.trans x.fail, y.pend.trans x.pend⟩
section
variable {prog : Program} {w : World} {A : Around} {E : Value → Shared → Prop} {s : Shared} {κ : SortKind} {Ok : Keyed → Prop} {st : SortSt}
theorem wpS_elem {arr : Array Keyed} {i : Nat} {Q : Keyed → SortSt → Prop} (hi : i < arr.size) (h : ∀ p, p ∈ arr.toList → arr[i]? = some p → Q p st) : wpS (model prog w) A E s (elem' arr i) Q st := by
  have e : arr[i]? = some arr[i] := getElem?_pos arr i hi
  rw [elem'_eq, e]
  exact wpS_pure (h _ (by simp) e)
end
end Srt

namespace Srt
open PySem PyProof.Rows
/-- what is out: these many of the one, these of the other -/
def Out (a b : Array Keyed) (out : Array Keyed) (ia ib : Nat) : Prop := out.toList.Perm (a.toList.take ia ++ b.toList.take ib)
section
variable {a b out : Array Keyed} {ia ib : Nat}
theorem perm4 {α : Type} (x y z w : List α) : (x ++ y ++ (z ++ w)).Perm (x ++ z ++ (y ++ w)) := by
  rw [List.append_assoc, List.append_assoc]
  refine List.Perm.append_left x ?_
  rw [← List.append_assoc, ← List.append_assoc]
  exact List.Perm.append_right w List.perm_append_comm
theorem Out.done (h : Out a b out ia ib) : (out ++ a.extract ia a.size ++ b.extract ib b.size).toList.Perm (a.toList ++ b.toList) := by
  rw [Array.toList_append, Array.toList_append, Array.toList_extract, Array.toList_extract]
  have e1 : a.toList.extract ia a.size = a.toList.drop ia := by rw [List.extract_eq_drop_take]; apply List.take_of_length_le; rw [List.length_drop, Array.length_toList]; exact Nat.le_refl _
  have e2 : b.toList.extract ib b.size = b.toList.drop ib := by rw [List.extract_eq_drop_take]; apply List.take_of_length_le; rw [List.length_drop, Array.length_toList]; exact Nat.le_refl _
  rw [e1, e2, List.append_assoc]
  refine (List.Perm.append_right _ h).trans ((perm4 ..).trans ?_)
  rw [List.take_append_drop, List.take_append_drop]
theorem Out.last (h : Out a b out ia ib) : (out ++ b.extract ib b.size ++ a.extract ia a.size).toList.Perm (a.toList ++ b.toList) := by
  refine List.Perm.trans ?_ h.done
  rw [Array.toList_append, Array.toList_append, Array.toList_append, Array.toList_append, List.append_assoc, List.append_assoc]
  exact List.Perm.append_left _ List.perm_append_comm
theorem Out.extA {k : Nat} (h : Out a b out ia ib) (hk : ia + k ≤ a.size) : Out a b (out ++ a.extract ia (ia + k)) (ia + k) ib := by
  unfold Out
  rw [Array.toList_append, Array.toList_extract, List.extract_eq_drop_take]
  have e : a.toList.take (ia + k) = a.toList.take ia ++ (a.toList.drop ia).take k := List.take_add ..
  rw [e, show ia + k - ia = k by (first | lia | omega)]
  refine (List.Perm.append_right _ h).trans ?_
  rw [List.append_assoc, List.append_assoc]
  exact List.Perm.append_left _ List.perm_append_comm
theorem Out.extB {k : Nat} (h : Out a b out ia ib) (hk : ib + k ≤ b.size) : Out a b (out ++ b.extract ib (ib + k)) ia (ib + k) := by
  unfold Out
  rw [Array.toList_append, Array.toList_extract, List.extract_eq_drop_take]
  have e : b.toList.take (ib + k) = b.toList.take ib ++ (b.toList.drop ib).take k := List.take_add ..
  rw [e, show ib + k - ib = k by (first | lia | omega)]
  refine (List.Perm.append_right _ h).trans ?_
  rw [List.append_assoc]
theorem take_one {α : Type} {xs : List α} {i : Nat} {p : α} (h : xs[i]? = some p) : xs.take (i + 1) = xs.take i ++ [p] := by
  obtain ⟨hi, e⟩ := List.getElem?_eq_some_iff.mp h
  rw [List.take_succ_eq_append_getElem hi, e]
theorem Out.pushA {p : Keyed} (h : Out a b out ia ib) (hp : a[ia]? = some p) : Out a b (out.push p) (ia + 1) ib := by
  have hp' : a.toList[ia]? = some p := by rw [← hp]; simp
  unfold Out
  rw [Array.toList_push, take_one hp']
  refine (List.Perm.append_right _ h).trans ?_
  rw [List.append_assoc, List.append_assoc]
  exact List.Perm.append_left _ List.perm_append_comm
theorem Out.pushB {p : Keyed} (h : Out a b out ia ib) (hp : b[ib]? = some p) : Out a b (out.push p) ia (ib + 1) := by
  have hp' : b.toList[ib]? = some p := by rw [← hp]; simp
  unfold Out
  rw [Array.toList_push, take_one hp']
  refine (List.Perm.append_right _ h).trans ?_
  rw [List.append_assoc]
theorem out0 {p : Keyed} (hp : b[0]? = some p) : Out a b #[p] 0 1 := by
  have h0 : Out a b #[] 0 0 := by
    unfold Out
    rw [List.take_zero, List.take_zero]
    exact List.Perm.refl _
  exact h0.pushB hp
end
end Srt

namespace Srt
open PySem PyProof.Rows
section
variable {prog : Program} {w : World} {A : Around} {E : Value → Shared → Prop} {s : Shared} {κ : SortKind} {Ok : Keyed → Prop} {st : SortSt}
theorem like_gallop (st : SortSt) (g : Nat) : Like st (SortSt.mk' (kindOf st) (arrOf st) (pendingOf st) g (failedOf st)) := ⟨rfl, rfl, rfl, rfl⟩
end
end Srt

namespace Srt
open PySem PyProof.Rows
/-- what is out from the right: all from these places on -/
def OutH (a b : Array Keyed) (out : Array Keyed) (na nb : Nat) : Prop := out.toList.Perm (a.toList.drop na ++ b.toList.drop nb)
section
variable {a b out : Array Keyed} {na nb : Nat}
theorem ex0 (a : Array Keyed) (n : Nat) : (a.extract 0 n).toList = a.toList.take n := by
  rw [Array.toList_extract, List.extract_eq_drop_take, List.drop_zero, Nat.sub_zero]
theorem OutH.done (h : OutH a b out na nb) : (a.extract 0 na ++ b.extract 0 nb ++ out.reverse).toList.Perm (a.toList ++ b.toList) := by
  rw [Array.toList_append, Array.toList_append, ex0, ex0, Array.toList_reverse]
  refine (List.Perm.append_left _ ((List.reverse_perm _).trans h)).trans ((perm4 ..).trans ?_)
  rw [List.take_append_drop, List.take_append_drop]
theorem OutH.first (h : OutH a b out na nb) : (b.extract 0 nb ++ a.extract 0 na ++ out.reverse).toList.Perm (a.toList ++ b.toList) := by
  refine List.Perm.trans ?_ h.done
  rw [Array.toList_append, Array.toList_append, Array.toList_append, Array.toList_append]
  exact List.Perm.append_right _ List.perm_append_comm
theorem drop_one {α : Type} {xs : List α} {i : Nat} {p : α} (h : xs[i]? = some p) : xs.drop i = p :: xs.drop (i + 1) := by
  obtain ⟨hi, e⟩ := List.getElem?_eq_some_iff.mp h
  rw [← e]
  exact List.drop_eq_getElem_cons hi
theorem OutH.pushA {p : Keyed} (h : OutH a b out na nb) (h1 : 1 ≤ na) (hp : a[na - 1]? = some p) : OutH a b (out.push p) (na - 1) nb := by
  have hp' : a.toList[na - 1]? = some p := by rw [← hp]; simp
  unfold OutH
  rw [Array.toList_push, drop_one hp', Nat.sub_add_cancel h1]
  refine (List.Perm.append_right _ h).trans ?_
  exact List.perm_append_comm
theorem OutH.pushB {p : Keyed} (h : OutH a b out na nb) (h1 : 1 ≤ nb) (hp : b[nb - 1]? = some p) : OutH a b (out.push p) na (nb - 1) := by
  have hp' : b.toList[nb - 1]? = some p := by rw [← hp]; simp
  unfold OutH
  rw [Array.toList_push, drop_one hp', Nat.sub_add_cancel h1]
  refine (List.Perm.append_right _ h).trans ?_
  rw [List.append_assoc]
  refine List.Perm.append_left _ ?_
  exact List.perm_append_comm
theorem drop_mid {α : Type} (xs : List α) {i j : Nat} (h : i ≤ j) : xs.drop i = (xs.drop i).take (j - i) ++ xs.drop j := by
  have := List.take_append_drop (j - i) (xs.drop i)
  rw [List.drop_drop, Nat.add_sub_cancel' h] at this
  exact this.symm
theorem OutH.extA {k : Nat} (h : OutH a b out na nb) (hk : k ≤ na) : OutH a b (out ++ (a.extract k na).reverse) k nb := by
  unfold OutH
  rw [Array.toList_append, Array.toList_reverse, Array.toList_extract, List.extract_eq_drop_take]
  refine (List.Perm.append h (List.reverse_perm _)).trans ?_
  refine List.perm_append_comm.trans ?_
  rw [← List.append_assoc, ← drop_mid a.toList hk]
theorem OutH.extB {k : Nat} (h : OutH a b out na nb) (hk : k ≤ nb) : OutH a b (out ++ (b.extract k nb).reverse) na k := by
  unfold OutH
  rw [Array.toList_append, Array.toList_reverse, Array.toList_extract, List.extract_eq_drop_take]
  refine (List.Perm.append h (List.reverse_perm _)).trans ?_
  rw [List.append_assoc]
  refine List.Perm.append_left _ (List.perm_append_comm.trans ?_)
  rw [← drop_mid b.toList hk]
theorem outH0 {p : Keyed} (h1 : 1 ≤ a.size) (hp : a[a.size - 1]? = some p) : OutH a b #[p] (a.size - 1) b.size := by
  have h0 : OutH a b #[] a.size b.size := by
    unfold OutH
    rw [List.drop_eq_nil_of_le (by rw [Array.length_toList]; exact Nat.le_refl _), List.drop_eq_nil_of_le (by rw [Array.length_toList]; exact Nat.le_refl _)]
    exact List.Perm.refl _
  exact h0.pushA h1 hp
end
end Srt

namespace Srt
open PySem PyProof.Rows
/-- the same items in some order, all else as it was -/
structure Pm (st st' : SortSt) : Prop where
  arr : (arrOf st').toList.Perm (arrOf st).toList
  kind : kindOf st' = kindOf st
  fail : failedOf st' = failedOf st
  pend : pendingOf st' = pendingOf st
theorem Pm.refl (st : SortSt) : Pm st st := ⟨List.Perm.refl _, rfl, rfl, rfl⟩
theorem Pm.trans {a b c : SortSt} (x : Pm a b) (y : Pm b c) : Pm a c := ⟨y.arr.trans x.arr, y.kind.trans x.kind, y.fail.trans x.fail, y.pend.trans x.pend⟩
theorem Pm.size {a b : SortSt} (x : Pm a b) : (arrOf b).size = (arrOf a).size := by
  have := x.arr.length_eq
  rw [Array.length_toList, Array.length_toList] at this
  exact this
theorem Pm.ok {a b : SortSt} {Ok : Keyed → Prop} (x : Pm a b) (h : ∀ p ∈ (arrOf a).toList, Ok p) : ∀ p ∈ (arrOf b).toList, Ok p := fun p hp => h p (x.arr.mem_iff.mp hp)
theorem Pm.mirror (st : SortSt) (i j : Nat) : Pm st (setArr st (mirror (arrOf st) i j ((j - i) / 2))) := ⟨Array.perm_iff_toList_perm.mp (mirror_perm _ _ _ _), rfl, rfl, rfl⟩
theorem Pm.bubble (st : SortSt) (i j : Nat) : Pm st (setArr st (bubble (arrOf st) i (i - j))) := ⟨Array.perm_iff_toList_perm.mp (bubble_perm _ _ _), rfl, rfl, rfl⟩
end Srt

namespace Srt
open PySem PyProof.Rows
/-- runs one behind the other, from here to there -/
def Cov : List (Nat × Nat × Nat) → Nat → Nat → Prop
  | [], lo, hi => lo = hi
  | x :: r, lo, hi => x.1 = lo ∧ 1 ≤ x.2.1 ∧ Cov r (lo + x.2.1) hi
theorem Cov.le : ∀ {l : List (Nat × Nat × Nat)} {lo hi : Nat}, Cov l lo hi → lo + l.length ≤ hi
  | [], lo, hi, h => Nat.le_of_eq h
  | x :: r, lo, hi, ⟨_, h1, h2⟩ => by
    have := Cov.le h2
    rw [List.length_cons]
    (first | lia | omega)
theorem Cov.push : ∀ {l : List (Nat × Nat × Nat)} {lo hi n p : Nat}, Cov l lo hi → 1 ≤ n → Cov (l ++ [(hi, n, p)]) lo (hi + n)
  | [], lo, hi, n, p, h, h1 => by
    have e : lo = hi := h
    subst e
    exact ⟨rfl, h1, rfl⟩
  | x :: r, lo, hi, n, p, ⟨a, b, c⟩, h1 => ⟨a, b, c.push h1⟩
theorem Cov.at : ∀ {l : List (Nat × Nat × Nat)} {i lo hi sa na p sb nb q : Nat}, Cov l lo hi → l[i]? = some (sa, na, p) → l[i + 1]? = some (sb, nb, q) →
    sb = sa + na ∧ 1 ≤ na ∧ 1 ≤ nb ∧ sb + nb ≤ hi ∧ Cov ((l.set i (sa, na + nb, p)).eraseIdx (i + 1)) lo hi
  | x :: y :: r, 0, lo, hi, sa, na, p, sb, nb, q, ⟨a, b, c1, c2, c3⟩, h1, h2 => by
    have e1 : x = (sa, na, p) := by simpa using h1
    have e2 : y = (sb, nb, q) := by simpa using h2
    subst e1
    subst e2
    have a' : sa = lo := a
    have c1' : sb = lo + na := c1
    have hle := c3.le
    subst a'
    refine ⟨c1', b, c2, ?_, rfl, ?_, ?_⟩
    · have : sa + na + nb ≤ hi := by
        have h3 : sa + na + nb + r.length ≤ hi := hle
        (first | lia | omega)
      (first | lia | omega)
    · show 1 ≤ na + nb
      have : 1 ≤ na := b
      (first | lia | omega)
    · show Cov r (sa + (na + nb)) hi
      rw [← Nat.add_assoc]
      exact c3
  | x :: r, i + 1, lo, hi, sa, na, p, sb, nb, q, ⟨a, b, c⟩, h1, h2 => by
    obtain ⟨k1, k2, k3, k4, k5⟩ := Cov.at (l := r) (i := i) c (by simpa using h1) (by simpa using h2)
    exact ⟨k1, k2, k3, k4, a, b, k5⟩
  | [x], 0, _, _, _, _, _, _, _, _, _, _, h2 => by simp at h2
  | [], _, _, _, _, _, _, _, _, _, _, h1, _ => by simp at h1
theorem Cov.last : ∀ {l : List (Nat × Nat × Nat)} {lo hi : Nat} (f : Nat × Nat × Nat → Nat × Nat × Nat) (_ : ∀ x, (f x).1 = x.1 ∧ (f x).2.1 = x.2.1) (i : Nat), Cov l lo hi → Cov (l.modify i f) lo hi
  | [], lo, hi, f, hf, i, h => by cases i <;> exact h
  | x :: r, lo, hi, f, hf, 0, ⟨a, b, c⟩ => by
    refine ⟨(hf x).1.trans a, by rw [(hf x).2]; exact b, ?_⟩
    rw [(hf x).2]
    exact c
  | x :: r, lo, hi, f, hf, i + 1, ⟨a, b, c⟩ => ⟨a, b, Cov.last f hf i c⟩
/-- items put in one behind the other -/
theorem splice (base : Nat) : ∀ (m : List Keyed) (n : Nat) (arr : Array Keyed), base + n + m.length ≤ arr.size →
    ((m.zipIdx n).foldl (fun (a : Array Keyed) (x : Keyed × Nat) => match x with | (p, j) => a.setIfInBounds (base + j) p) arr).toList = arr.toList.take (base + n) ++ m ++ arr.toList.drop (base + n + m.length)
  | [], n, arr, _ => by
    show arr.toList = _
    rw [List.append_nil, List.length_nil, Nat.add_zero, List.take_append_drop]
  | p :: m, n, arr, h => by
    rw [List.length_cons] at h
    rw [List.zipIdx_cons, List.foldl_cons]
    have hs : (arr.setIfInBounds (base + n) p).size = arr.size := Array.size_setIfInBounds
    rw [splice base m (n + 1) _ (by rw [hs]; (first | lia | omega)), Array.toList_setIfInBounds]
    have hl : base + n < arr.toList.length := by rw [Array.length_toList]; (first | lia | omega)
    rw [← Nat.add_assoc, List.take_set, List.drop_set_of_lt (by (first | lia | omega))]
    have e1 : (arr.toList.take (base + n + 1)).set (base + n) p = arr.toList.take (base + n) ++ [p] := by
      rw [List.take_succ_eq_append_getElem hl, List.set_append_right _ _ (by rw [List.length_take]; (first | lia | omega))]
      rw [show base + n - (arr.toList.take (base + n)).length = 0 by rw [List.length_take]; (first | lia | omega)]
      rfl
    rw [e1, List.length_cons, show base + n + 1 + m.length = base + n + (m.length + 1) by (first | lia | omega)]
    simp
section
variable {prog : Program} {w : World} {A : Around} {E : Value → Shared → Prop} {s : Shared} {κ : SortKind} {Ok : Keyed → Prop} {st : SortSt}
/-- some order of what was given, and the runs cover it up to here -/
structure SB (a₀ : Array Keyed) (κ : SortKind) (hi : Nat) (st : SortSt) : Prop where
  arr : (arrOf st).toList.Perm a₀.toList
  kind : kindOf st = κ
  fail : failedOf st = none
  cov : Cov (pendingOf st).toList 0 hi
theorem SB.size {a₀ : Array Keyed} {hi : Nat} (x : SB a₀ κ hi st) : (arrOf st).size = a₀.size := by
  have := x.arr.length_eq
  rw [Array.length_toList, Array.length_toList] at this
  exact this
theorem SB.ok {a₀ : Array Keyed} {hi : Nat} (x : SB a₀ κ hi st) (h : ∀ p ∈ a₀.toList, Ok p) : ∀ p ∈ (arrOf st).toList, Ok p := fun p hp => h p (x.arr.mem_iff.mp hp)
theorem SB.pm {a₀ : Array Keyed} {hi : Nat} {st' : SortSt} (x : SB a₀ κ hi st) (p : Pm st st') : SB a₀ κ hi st' := ⟨p.arr.trans x.arr, p.kind.trans x.kind, p.fail.trans x.fail, by rw [p.pend]; exact x.cov⟩
end
end Srt

namespace Srt
open PySem PyProof.Rows
section
variable {prog : Program} {w : World} {A : Around} {E : Value → Shared → Prop} {s : Shared} {κ : SortKind} {Ok : Keyed → Prop} {st : SortSt}
theorem wpS_set {v : SortSt} {Q : PUnit → SortSt → Prop} (h : Q ⟨⟩ v) : wpS (model prog w) A E s (set v : StateT SortSt Sem PUnit) Q st := by
  unfold wpS
  rw [StateT.run_set]
  exact wpAny_pure ⟨rfl, h⟩
theorem splice2 (base : Nat) (m : List Keyed) (arr : Array Keyed) (h : base + m.length ≤ arr.size) :
    (m.zipIdx.foldl (fun (a : Array Keyed) (x : Keyed × Nat) => a.setIfInBounds (base + x.2) x.1) arr).toList = arr.toList.take base ++ m ++ arr.toList.drop (base + m.length) := splice base m 0 arr h
theorem ex_mid (L : List Keyed) {m b e : Nat} (h1 : m ≤ b) (h2 : b ≤ e) : L.extract m b ++ L.extract b e = (L.drop m).take (e - m) := by
  rw [List.extract_eq_drop_take, List.extract_eq_drop_take, show e - m = (b - m) + (e - b) by (first | lia | omega), List.take_add, List.drop_drop, Nat.add_sub_cancel' h1]
theorem perm_mid {L r : List Keyed} {m c : Nat} (h : r.Perm ((L.drop m).take c)) (hc : r.length = c) : (L.take m ++ r ++ L.drop (m + r.length)).Perm L := by
  subst hc
  have e : L = L.take m ++ (L.drop m).take r.length ++ L.drop (m + r.length) := by
    rw [List.append_assoc, ← List.drop_drop, List.take_append_drop, List.take_append_drop]
  refine List.Perm.trans ?_ (List.Perm.of_eq e.symm)
  exact List.Perm.append_right _ (List.Perm.append_left _ h)
end
end Srt

namespace Srt
open PySem PyProof.Rows
end Srt

namespace Srt
open PySem PyProof.Rows
section
variable {prog : Program} {w : World} {A : Around} {E : Value → Shared → Prop} {s : Shared}
theorem snds_perm {vs : List Value} {xs : Array Keyed} (h : xs.toList.Perm (pairsOf vs).toList) : (xs.map (·.2)).toList.Perm vs := by
  rw [Array.toList_map]
  refine (h.map (·.2)).trans (List.Perm.of_eq ?_)
  rw [pairsOf_toList, show (fun p : Keyed => p.2) = Prod.snd from rfl, List.map_snd_zip (Nat.le_refl _)]
end
end Srt

namespace Srt
open PySem PyProof.Rows
end Srt

namespace Srt
open PySem PyProof.Rows PySem.W
end Srt

namespace L2
open PySem PySem.Spec PyProof.Rows
theorem vals_perm {us us' : List Value} (h : us'.Perm us) : ∀ {vs : List V}, Vals vs us → ∃ vs', vs'.Perm vs ∧ Vals vs' us' := by
  induction h with
  | nil => exact fun r => ⟨_, List.Perm.refl _, r⟩
  | cons x _ ih =>
    intro vs r
    cases r with
    | cons a t =>
      obtain ⟨ws, p, r'⟩ := ih t
      exact ⟨_ :: ws, p.cons _, .cons a r'⟩
  | swap x y l =>
    intro vs r
    cases r with
    | cons a t =>
      cases t with
      | cons b t => exact ⟨_, List.Perm.swap .., .cons b (.cons a t)⟩
  | trans _ _ ih1 ih2 =>
    intro vs r
    obtain ⟨ws, p, r1⟩ := ih2 r
    obtain ⟨ws', p', r2⟩ := ih1 r1
    exact ⟨ws', p'.trans p, r2⟩
theorem vals_mem : ∀ {vs : List V} {us : List Value}, Vals vs us → ∀ u ∈ us, ∃ v ∈ vs, RelV v u
  | _, _, .cons a t, u, hu => by
    rcases List.mem_cons.mp hu with rfl | hu
    · exact ⟨_, List.mem_cons_self .., a⟩
    · obtain ⟨v, hv, r⟩ := vals_mem t u hu
      exact ⟨v, List.mem_cons_of_mem _ hv, r⟩
end L2

namespace L2
open PySem PySem.Spec PyProof.Rows PySem.W
/-- a dict as it stands, whatever its keys -/
def RawD (h : Heap) (d : Addr) (es : Array DictEntry) (ep : Nat) : Prop := ∃ o, h.get? d = some o ∧ o.ExactDict ∧ o.data = .dict es ep
theorem RawD.tyIs {s : Shared} {d : Addr} {es : Array DictEntry} {ep : Nat} (x : RawD s.heap d es ep) : s.TypeIs (.ref d) "dict" := let ⟨o, ho, hc, _⟩ := x; ⟨o, ho, hc.1⟩
theorem RawD.to {h h' : Heap} {d : Addr} {es : Array DictEntry} {ep : Nat} (x : RawD h d es ep) (e : ∀ o, h.get? d = some o → h'.get? d = some o) : RawD h' d es ep := let ⟨o, ho, r⟩ := x; ⟨o, e _ ho, r⟩
section
variable {prog : Program} {w : World} {A : Around} {E : Value → Shared → Prop} {s : Shared} {it d : Addr} {es : Array DictEntry} {i ep : Nat}
theorem raw_iter {Q : Value → Shared → Prop} (lo : (d == sysModules) = false) (x : RawD s.heap d es ep)
    (q : Q (.ref s.heap.objs.size) { s with heap := s.heap.push { cls := .type "dict_keyiterator", data := .fields #[.ref d, .int 0 0, .int es.size 0, .int ep 0] } }) : wpAny (model prog w) A (pyIter (.ref d)) Q E s := by
  obtain ⟨o, ho, hx, hdat⟩ := id x
  have hT := x.tyIs
  refine wpAny_pyIter_slot hT PySem.F.slot_dict_iter (wpAny_call_entry PySem.F.slot_dict_iter hT PySem.F.entry_dict_iter ?_ (PySem.F.args_dict_iter_1 _))
  unfold Builtin.«dict.__iter__»; refine wpAny_bind ?_
  unfold Builtin.Dict.dictSlotNone; refine wpAny_bind (wpAny_notOrdered_dict hT ?_)
  refine wpAny_pure (?_ : wpAny _ _ (Builtin.Dict.showsAll d >>= _) _ _ s)
  unfold Builtin.Dict.showsAll; rw [if_neg (by rw [lo]; exact Bool.false_ne_true)]
  refine wpAny_bind (wpAny_pure (wpAny_bind (wpAny_dictEntries ho hdat (wpAny_bind (wpAny_dictEpoch ho hdat ?_)))))
  exact wpAny_bind (wpAny_newObj_type (wpAny_pure ⟨_, rfl, "dict_keyiterator", _, ⟨_, Heap.get?_push_size _ rfl, rfl⟩, PySem.F.slot_dict_keyiterator_next.lookup, q⟩))
theorem raw_item {Q : Option Value → Shared → Prop} (st : s.heap.IsKeyIter it d i es.size ep) (x : RawD s.heap d es ep) (hi : i < es.size)
    (q : ∀ h', h'.IsKeyIter it d (i + 1) es.size ep → Heap.SameBut it s.heap h' → Q (some es[i].key) { s with heap := h' }) : wpAny (model prog w) A (pyNext (.ref it)) Q E s := by
  obtain ⟨o, ho, hc, hd⟩ := id st
  obtain ⟨od, hod, hxd, hdd⟩ := id x
  unfold pyNext; refine wpAny_bind (wpAny_attempt (wpAny_callSpecial?_slot (name := Str.ofString "__next__") st.typeIs PySem.F.slot_dict_keyiterator_next (wpAny_call_entry PySem.F.slot_dict_keyiterator_next st.typeIs PySem.F.entry_dict_keyiterator_next ?_ (PySem.F.args_dict_keyiterator_next_1 _))))
  refine wpAny_bind (wpAny_pure (wpAny_bind (wpAny_bind ?_)))
  first | refine wpAny_bind (wpAny_typeNameOfWhole_keyiter st.typeIs (wpAny_pure (wpAny_bind (wpAny_fieldsOf ho hd ?_)))) | refine wpAny_bind (wpAny_typeNameOf_keyiter st.typeIs (wpAny_pure (wpAny_bind (wpAny_fieldsOf ho hd ?_))))
  have own : Builtin.Dict_items.ownsTuple "dict_keyiterator" = false := by decide
  simp only [own, Bool.false_eq_true, if_false]; change wpAny _ _ (if (Value.ref d == Value.none) = true then _ else _) _ _ s
  rw [if_neg (fun z : (Value.ref d == Value.none) = true => Bool.false_ne_true z)]
  refine wpAny_bind (wpAny_pure (wpAny_bind (wpAny_dictEntries hod hdd ?_)))
  rw [if_neg (by simp)]; refine wpAny_bind (wpAny_pure (wpAny_bind (wpAny_dictEpoch hod hdd ?_)))
  rw [if_neg (by simp)]; refine wpAny_pure ?_
  simp only [show ¬ ((i : Int) < 0) by (first | lia | omega), if_false, Int.toNat_natCast, Array.getElem?_eq_getElem hi]
  refine wpAny_bind ?_; first | refine wpAny_bind (wpAny_typeNameOfWhole_keyiter st.typeIs (wpAny_pure (wpAny_bind (wpAny_isOneOf_keyiter st.typeIs ?_)))) | refine wpAny_bind (wpAny_typeNameOf_keyiter st.typeIs (wpAny_pure (wpAny_bind (wpAny_isOneOf_keyiter st.typeIs ?_))))
  change wpAny _ _ (setField (.ref it) 1 (rawInt ((i : Int) + 1)) >>= _) _ _ s
  refine wpAny_bind (wpAny_setField ho hd (by simp) ?_)
  have st2 : (s.heap.update it (Obj.mapFields (·.setIfInBounds 1 (rawInt ((i : Int) + 1))))).IsKeyIter it d (i + 1) es.size ep := ⟨_, Heap.get?_update_self _ ho (Obj.isFreed_of_fields (Obj.data_mapFields hd _)), (Obj.cls_mapFields ..).trans hc, by rw [Obj.data_mapFields hd]; simp [rawInt]⟩
  refine wpAny_bind (wpAny_holding (wpAny_bind (wpAny_isOneOf_keyiter (s := { s with heap := s.heap.update it (Obj.mapFields (·.setIfInBounds 1 (rawInt ((i : Int) + 1)))) }) st2.typeIs ?_)))
  change wpAny _ _ (pure es[i].key) _ _ _
  exact wpAny_pure (wpAny_pure ⟨_, rfl, wpAny_pure (q _ st2 (Heap.SameBut.update ..))⟩)
theorem raw_end {Q : Option Value → Shared → Prop} (hh : A.handled = none) (st : s.heap.IsKeyIter it d i es.size ep) (x : RawD s.heap d es ep) (hi : es.size ≤ i)
    (q : ∀ h', Heap.ExtBut it s.heap h' → Q none { s with heap := h' }) : wpAny (model prog w) A (pyNext (.ref it)) Q E s := by
  obtain ⟨o, ho, hc, hd⟩ := id st
  obtain ⟨od, hod, hxd, hdd⟩ := id x
  unfold pyNext; refine wpAny_bind (wpAny_attempt (wpAny_callSpecial?_slot (name := Str.ofString "__next__") st.typeIs PySem.F.slot_dict_keyiterator_next (wpAny_call_entry PySem.F.slot_dict_keyiterator_next st.typeIs PySem.F.entry_dict_keyiterator_next ?_ (PySem.F.args_dict_keyiterator_next_1 _))))
  refine wpAny_bind (wpAny_pure (wpAny_bind (wpAny_bind ?_)))
  first | refine wpAny_bind (wpAny_typeNameOfWhole_keyiter st.typeIs (wpAny_pure (wpAny_bind (wpAny_fieldsOf ho hd ?_)))) | refine wpAny_bind (wpAny_typeNameOf_keyiter st.typeIs (wpAny_pure (wpAny_bind (wpAny_fieldsOf ho hd ?_))))
  have own : Builtin.Dict_items.ownsTuple "dict_keyiterator" = false := by decide
  simp only [own, Bool.false_eq_true, if_false]; change wpAny _ _ (if (Value.ref d == Value.none) = true then _ else _) _ _ s
  rw [if_neg (fun z : (Value.ref d == Value.none) = true => Bool.false_ne_true z)]
  refine wpAny_bind (wpAny_pure (wpAny_bind (wpAny_dictEntries hod hdd ?_)))
  rw [if_neg (by simp)]; refine wpAny_bind (wpAny_pure (wpAny_bind (wpAny_dictEpoch hod hdd ?_)))
  rw [if_neg (by simp)]; refine wpAny_pure ?_
  simp only [show ¬ ((i : Int) < 0) by (first | lia | omega), if_false, Int.toNat_natCast, Array.getElem?_eq_none hi]
  refine wpAny_bind ?_; first | refine wpAny_bind (wpAny_typeNameOfWhole_keyiter st.typeIs (wpAny_pure ?_)) | refine wpAny_bind (wpAny_typeNameOf_keyiter st.typeIs (wpAny_pure ?_))
  change wpAny _ _ (setField (.ref it) 0 .none >>= _) _ _ s
  refine wpAny_bind (wpAny_setField ho hd (by simp) ?_)
  change wpAny _ _ (newExc (.type "StopIteration") [] >>= _) _ _ _
  refine wpAny_bind ?_; simp only [newExc, newTuple]
  refine wpAny_bind (wpAny_newObj_type (wpAny_bind (m := firstArgMember _ _) (wpAny_of_eq (a := Value.none) (by first | rfl | (simp only [firstArgMember]; rfl)) (wpAny_newObj_type ?_ (by size_fits)))) (by size_fits))
  simp only [raiseNew]; refine wpAny_bind (wpAny_handled ?_)
  rw [show A.in1.handled = none from hh]; refine wpAny_bind (wpAny_pure (wpAny_throw ?_))
  refine wpAny_bind (wpAny_isInstance (T := "StopIteration") (b := true) (v := .ref _) (by exact ⟨_, Heap.get?_push_size _ rfl, rfl⟩) isSubtype_stop ?_)
  exact wpAny_pure (q _ (((Heap.SameBut.update ..).extBut.push _).push _))
theorem raw_walks (hh : A.handled = none) (hne : d ≠ it) : Walks prog w A it [it, d] [it] es.size (fun i v => ∃ e, es[i]? = some e ∧ v = e.key) (fun i h => h.IsKeyIter it d i es.size ep ∧ RawD h d es ep) where
  sub := fun b hb => List.mem_cons.mpr (.inl (List.mem_singleton.mp hb))
  frame := fun _ _ _ st hk => ⟨st.1.at fun o e => hk it (List.mem_cons_self ..) o e, st.2.to fun o e => hk d (List.mem_cons_of_mem _ (List.mem_cons_self ..)) o e⟩
  item := fun j s Q E hj st hQ => raw_item st.1 st.2 hj fun h' st' sb => hQ _ h' s.toks ⟨_, Array.getElem?_eq_getElem hj, rfl⟩ ⟨st', st.2.to fun o e => sb.extBut d o hne e⟩ fun b o hb e => sb.extBut b o (fun z => hb (List.mem_singleton.mpr z)) e
  done := fun s Q E st hQ => raw_end hh st.1 st.2 (Nat.le_refl _) fun h' he => hQ h' s.toks fun b o hb e => he b o (fun z => hb (List.mem_singleton.mpr z)) e
  self := fun _ _ _ _ st hQ => wpAny_pyIter_keyiter st.1 hQ
theorem raw_src (lo : (d == sysModules) = false) : KdlSrc prog w "dict" d d es.size (fun i v => ∃ e, es[i]? = some e ∧ v = e.key) (fun h => RawD h d es ep) where
  type := fun _ x => x.tyIs
  there := fun _ ⟨o, ho, _⟩ => ⟨Heap.lt_size ho, Heap.lt_size ho⟩
  keep := fun _ _ x hk => x.to fun o e => hk d (.inl rfl) o e
  notList := by decide
  notTuple := by decide
  hint := fun _ _ _ _ x hq => kdl_hint_dict x.tyIs hq
  iter := fun _ _ hh x => ⟨_, _, (fun _ _ hq => raw_iter lo x hq), raw_walks hh (let ⟨o, ho, _⟩ := x; Nat.ne_of_lt (Heap.lt_size ho)), ⟨⟨_, Heap.get?_push_size _ rfl, rfl, rfl⟩, x.to fun _ e => Heap.get?_push_of_some _ e⟩⟩
end
end L2

namespace L2
open PySem PySem.Spec PyProof.Rows PySem.W
end L2
namespace Srt
open PySem PyProof.Rows PySem.W
end Srt
namespace L2
open PySem PySem.Spec PyProof.Rows
end L2

namespace L2
open PySem PySem.Spec PyProof.Rows
end L2

/-! the table of a set: a search always ends -/
namespace Sts
open PySem
/-! the steps of a search -/
end Sts

/-! a table laid anew holds all its elements -/
namespace Sts
open PySem
end Sts

/-! places in rising order -/
namespace Sts
open PySem
end Sts

/-! tuples in a set -/
namespace Sts
open PySem
end Sts

/-! a tuple added to a set -/
namespace Sts
open PySem
end Sts

namespace Sts
open PySem
end Sts

/-! set(list of tuples) -/
namespace Sts
open PySem PyProof.Rows
end Sts

namespace Sts
open PySem PyProof.Rows
end Sts

/-! a set walked -/
namespace Sts
open PySem PyProof.Rows
end Sts

namespace Sts
open PySem PyProof.Rows
end Sts

namespace Sts
open PySem PyProof.Rows
end Sts

namespace Sts
open PySem PyProof.Rows PySem.W
end Sts

namespace Srt
open PySem PyProof.Rows PySem.W
end Srt

namespace Sts
open PySem PyProof.Rows PySem.W Srt
end Sts
namespace L2
open PySem PySem.Spec PyProof.Rows PySem.W
section
variable {X : Cx} {e : Expr} {te : TE} {p p' pos pos' : Pos}
theorem Inv.draws {pins : List (Addr × Obj)} {σ : St} {H : Hp} {s : Shared} {d : Drawn} (I : Inv X pins σ H s) : Inv X pins σ H { s with drawn := d } :=
  I.step (g' := s.gens) (d' := d) (t' := s.toks) (ch := []) (fun _ z => nomatch z) (fun _ _ _ _ _ e _ => e) (fun _ o _ _ _ e _ => ⟨o.slots, e⟩) (fun _ _ _ _ n => n) (fun _ o _ e => ⟨o, e⟩) (fun _ _ h => h) (fun _ _ _ h => h) (fun _ ps h => ⟨#[], by simpa using h⟩) (fun _ h => h) I.hok I.bare
theorem bt_sorted1 : bootBuiltins "sorted" = some (.builtin "sorted") := by decide +kernel
/-- some of these numbers -/
theorem ints_sub {ns : List Int} : ∀ zs : List V, (∀ z ∈ zs, z ∈ ns.map V.int) → ∃ ms : List Int, zs = ms.map V.int ∧ ∀ m ∈ ms, m ∈ ns
  | [], _ => ⟨[], rfl, fun _ h => nomatch h⟩
  | z :: zs, h => by
    obtain ⟨m, hm, rfl⟩ := List.mem_map.mp (h z (List.mem_cons_self ..))
    obtain ⟨ms, rfl, hms⟩ := ints_sub zs fun x hx => h x (List.mem_cons_of_mem _ hx)
    refine ⟨m :: ms, rfl, fun x hx => ?_⟩
    rcases List.mem_cons.mp hx with rfl | hx
    · exact hm
    · exact hms x hx
end
end L2

/-! sorted: the order too -/
namespace Srd
open PySem PyProof.Rows Srt
/-- a strict weak order -/
structure Swo (lt : Keyed → Keyed → Bool) : Prop where
  asym : ∀ x y, lt x y = true → lt y x = false
  neg : ∀ x y z, lt x y = false → lt y z = false → lt x z = false
def Le (lt : Keyed → Keyed → Bool) (x y : Keyed) : Prop := lt y x = false
section
variable {lt : Keyed → Keyed → Bool} (o : Swo lt) {x y z : Keyed}
include o
theorem Swo.le_trans (h1 : Le lt x y) (h2 : Le lt y z) : Le lt x z := o.neg z y x h2 h1
theorem Swo.le_of (h : lt x y = true) : Le lt x y := o.asym x y h
theorem Swo.lt_le (h1 : lt x y = true) (h2 : Le lt y z) : lt x z = true := by
  cases h : lt x z with
  | true => rfl
  | false => rw [o.neg x z y h h2] at h1; cases h1
theorem Swo.le_lt (h1 : Le lt x y) (h2 : lt y z = true) : lt x z = true := by
  cases h : lt x z with
  | true => rfl
  | false => rw [o.neg y x z h1 h] at h2; cases h2
theorem Swo.le_refl (x : Keyed) : Le lt x x := by
  show lt x x = false
  cases h : lt x x with
  | false => rfl
  | true => have := o.asym x x h; rw [h] at this; exact this
end
/-- which of any two is less, and nothing else happens -/
def CmpL (prog : Program) (w : World) (A : Around) (s : Shared) (κ : SortKind) (Ok : Keyed → Prop) (lt : Keyed → Keyed → Bool) : Prop :=
  ∀ x y, Ok x → Ok y → ∀ E : Value → Shared → Prop, wpAny (model prog w) A (keyLt' κ x.1 y.1) (fun b s' => s' = s ∧ b = lt x y) E s
/-- this piece rises -/
def Up (lt : Keyed → Keyed → Bool) (arr : Array Keyed) (i j : Nat) : Prop := ∀ x y p q, i ≤ x → x < y → y < j → arr[x]? = some p → arr[y]? = some q → Le lt p q
/-- beyond: on the near side of the key -/
def bv (lt : Keyed → Keyed → Bool) (l : Bool) (key p : Keyed) : Bool := if l = true then lt p key else !lt key p
/-- the places that lie on the near side -/
def BV (lt : Keyed → Keyed → Bool) (l : Bool) (key : Keyed) (a : Array Keyed) (base i : Nat) : Bool := match a[base + i]? with | some p => bv lt l key p | none => false
theorem BV.anti {lt : Keyed → Keyed → Bool} (o : Swo lt) {l : Bool} {key : Keyed} {a : Array Keyed} {base n : Nat} (hb : base + n ≤ a.size) (hu : Up lt a base (base + n)) {i j : Nat} (hij : i ≤ j) (hj : j < n) (h : BV lt l key a base j = true) : BV lt l key a base i = true := by
  rcases Nat.eq_or_lt_of_le hij with rfl | hlt
  · exact h
  have ei : a[base + i]? = some a[base + i] := getElem?_pos a _ (by (first | lia | omega))
  have ej : a[base + j]? = some a[base + j] := getElem?_pos a _ (by (first | lia | omega))
  have hle := hu (base + i) (base + j) _ _ (by (first | lia | omega)) (by (first | lia | omega)) (by (first | lia | omega)) ei ej
  unfold BV at h ⊢
  rw [ej] at h
  rw [ei]
  dsimp only at h ⊢
  unfold bv at h ⊢
  cases l with
  | true =>
    rw [if_pos rfl] at h ⊢
    exact o.le_lt hle h
  | false =>
    rw [if_neg (by decide)] at h ⊢
    have h1 : lt key a[base + j] = false := by simpa using h
    have : lt key a[base + i] = false := o.le_trans (lt := lt) hle h1
    rw [this]
    rfl
section
variable {prog : Program} {w : World} {A : Around} {E : Value → Shared → Prop} {s : Shared} {κ : SortKind} {Ok : Keyed → Prop} {st : SortSt} {lt : Keyed → Keyed → Bool}
theorem wpS_ltL {x y : Keyed} {Q : Option Bool → SortSt → Prop} (hc : CmpL prog w A s κ Ok lt) (hk : kindOf st = κ) (hx : Ok x) (hy : Ok y) (h : Q (some (lt x y)) st) : wpS (model prog w) A E s (lt' x y) Q st := by
  rw [lt'_eq]
  refine wpS_bind (wpS_get ?_)
  rw [hk]
  refine wpS_bind (wpS_lift (wpAny_attempt (wpAny_mono (hc x y hx hy _) (fun b s' e => ⟨e.1, ?_⟩) fun _ _ z => z)))
  rw [e.2]
  exact wpS_pure h
theorem beyL {l : Bool} {key : Keyed} {a : Array Keyed} {base n i : Nat} {Q : Option Bool → SortSt → Prop} (hc : CmpL prog w A s κ Ok lt) (hk : kindOf st = κ) (hkey : Ok key) (ha : ∀ p ∈ a.toList, Ok p) (hb : base + n ≤ a.size) (hi : i < n) (h : Q (some (BV lt l key a base i)) st) :
    wpS (model prog w) A E s (elem' a (base + i) >>= fun x => if l = true then lt' x key else (lt' key x >>= fun r => pure (Option.map (fun z => !z) r))) Q st := by
  refine wpS_bind (wpS_elem (by (first | lia | omega)) fun p hp e => ?_)
  unfold BV at h
  rw [e] at h
  dsimp only at h
  unfold bv at h
  cases l with
  | true =>
    rw [if_pos rfl] at h ⊢
    exact wpS_ltL hc hk (ha p hp) hkey h
  | false =>
    rw [if_neg Bool.false_ne_true] at h ⊢
    exact wpS_bind (wpS_ltL hc hk hkey (ha p hp) (wpS_pure h))
set_option maxHeartbeats 1000000 in
theorem wpS_gallopL {l : Bool} {key : Keyed} {a : Array Keyed} {base n hint : Nat} {Q : Option Nat → SortSt → Prop} (o : Swo lt) (hc : CmpL prog w A s κ Ok lt) (hk : kindOf st = κ) (hkey : Ok key) (ha : ∀ p ∈ a.toList, Ok p) (hb : base + n ≤ a.size) (hh : hint < n) (hu : Up lt a base (base + n))
    (h : ∀ k, k ≤ n → (∀ i, i < k → BV lt l key a base i = true) → (∀ i, k ≤ i → i < n → BV lt l key a base i = false) → Q (some k) st) : wpS (model prog w) A E s (gallop' l key a base n hint) Q st := by
  have up : ∀ {i j}, i ≤ j → j < n → BV lt l key a base j = true → BV lt l key a base i = true := fun hij hj h => BV.anti o hb hu hij hj h
  have dn : ∀ {i j}, i ≤ j → j < n → BV lt l key a base i = false → BV lt l key a base j = false := fun {i j} hij hj h => by
    cases e : BV lt l key a base j with
    | false => rfl
    | true => rw [up hij hj e] at h; cases h
  generalize hBB : BV lt l key a base = BB at up dn h
  have bey : ∀ {st' : SortSt} {i : Nat} {Q' : Option Bool → SortSt → Prop}, st' = st → i < n → Q' (some (BB i)) st' → wpS (model prog w) A E s (elem' a (base + i) >>= fun x => if l = true then lt' x key else (lt' key x >>= fun r => pure (Option.map (fun z => !z) r))) Q' st' := fun {st' i Q'} e hi hq => by
    subst e
    exact beyL hc hk hkey ha hb hi (by rw [hBB]; exact hq)
  refine wpS_bind (bey rfl hh ?_)
  cases hright : BB hint with
  | true =>
    dsimp only
    rw [if_pos rfl]
    refine wpS_bind (wpS_mono (wpS_forRange (I := fun x c st' => st' = st ∧ ∃ lo of, c = (none, lo, of) ∧ lo < n - hint ∧ lo < of ∧ BB (hint + lo) = true ∧ x + 1 ≤ of) (Q := fun c st' => st' = st ∧ ∃ lo of, c = (none, lo, of) ∧ lo < n - hint ∧ lo < of ∧ BB (hint + lo) = true ∧ (n - hint ≤ of ∨ BB (hint + of) = false)) ?_ ?_ ⟨rfl, 0, 1, rfl, by (first | lia | omega), by (first | lia | omega), hright, by (first | lia | omega)⟩) ?_)
    · rintro i c st' _ _ ⟨rfl, lo, of, rfl, h1, h2, h3, h4⟩
      dsimp only
      by_cases hlt : of ≥ n - hint
      · rw [if_pos hlt]
        exact wpS_pure ⟨rfl, lo, of, rfl, h1, h2, h3, .inl hlt⟩
      · rw [if_neg hlt]
        refine wpS_bind (bey rfl (by (first | lia | omega)) ?_)
        cases hb2 : BB (hint + of) with
        | true => exact wpS_pure ⟨rfl, _, _, rfl, by (first | lia | omega), by (first | lia | omega), hb2, by (first | lia | omega)⟩
        | false => exact wpS_pure ⟨rfl, lo, of, rfl, h1, h2, h3, .inr hb2⟩
    · rintro c st' ⟨rfl, lo, of, rfl, h1, h2, h3, h4⟩
      exact ⟨rfl, lo, of, rfl, h1, h2, h3, .inl (by (first | lia | omega))⟩
    · rintro c st'' ⟨rfl, lo, of, rfl, h1, h2, h3, h4⟩
      dsimp only
      have g1 : hint + lo + 1 ≤ hint + min of (n - hint) := by (first | lia | omega)
      have g2 : hint + min of (n - hint) ≤ n := by (first | lia | omega)
      have g3 : ∀ i, i < hint + lo + 1 → BB i = true := fun i hi => up (show i ≤ hint + lo by (first | lia | omega)) (by (first | lia | omega)) h3
      have g4 : ∀ i, hint + min of (n - hint) ≤ i → i < n → BB i = false := fun i hi hin => by
        rcases h4 with h4 | h4
        · (first | lia | omega)
        · exact dn (show hint + of ≤ i by (first | lia | omega)) hin h4
      generalize hint + lo + 1 = lo1 at g1 g3
      generalize hint + min of (n - hint) = hi1 at g1 g2 g4
      refine wpS_bind (wpS_mono (wpS_forRange (I := fun x c st' => st' = st'' ∧ ∃ lo hi, c = (none, lo, hi) ∧ lo ≤ hi ∧ hi ≤ n ∧ (∀ i, i < lo → BB i = true) ∧ (∀ i, hi ≤ i → i < n → BB i = false) ∧ hi - lo + x ≤ n) (Q := fun c st' => st' = st'' ∧ ∃ lo hi, c = (none, lo, hi) ∧ lo = hi ∧ hi ≤ n ∧ (∀ i, i < lo → BB i = true) ∧ (∀ i, hi ≤ i → i < n → BB i = false)) ?_ ?_ ⟨rfl, lo1, hi1, rfl, g1, g2, g3, g4, by (first | lia | omega)⟩) ?_)
      · rintro i c st' _ _ ⟨rfl, lo, hi, rfl, h1, h2, h3, h4, h5⟩
        dsimp only
        by_cases hlt : lo ≥ hi
        · rw [if_pos hlt]
          exact wpS_pure ⟨rfl, lo, hi, rfl, by (first | lia | omega), h2, h3, h4⟩
        · rw [if_neg hlt]
          refine wpS_bind (bey rfl (by (first | lia | omega)) ?_)
          cases hb2 : BB (lo + (hi - lo) / 2) with
          | true => exact wpS_pure ⟨rfl, _, _, rfl, by (first | lia | omega), by (first | lia | omega), fun i hi' => up (show i ≤ lo + (hi - lo) / 2 by (first | lia | omega)) (by (first | lia | omega)) hb2, h4, by (first | lia | omega)⟩
          | false => exact wpS_pure ⟨rfl, _, _, rfl, by (first | lia | omega), by (first | lia | omega), h3, fun i hi' hin => dn hi' hin hb2, by (first | lia | omega)⟩
      · rintro c st' ⟨rfl, lo, hi, rfl, h1, h2, h3, h4, h5⟩
        exact ⟨rfl, lo, hi, rfl, by (first | lia | omega), h2, h3, h4⟩
      · rintro c st' ⟨rfl, lo, hi, rfl, h1, h2, h3, h4⟩
        exact wpS_pure (h hi h2 (fun i hi' => h3 i (by (first | lia | omega))) h4)
  | false =>
    dsimp only
    rw [if_neg Bool.false_ne_true]
    refine wpS_bind (wpS_mono (wpS_forRange (I := fun x c st' => st' = st ∧ ∃ lo of, c = (none, lo, of) ∧ lo < hint + 1 ∧ lo < of ∧ BB (hint - lo) = false ∧ x + 1 ≤ of) (Q := fun c st' => st' = st ∧ ∃ lo of, c = (none, lo, of) ∧ lo < hint + 1 ∧ lo < of ∧ BB (hint - lo) = false ∧ (hint + 1 ≤ of ∨ BB (hint - of) = true)) ?_ ?_ ⟨rfl, 0, 1, rfl, by (first | lia | omega), by (first | lia | omega), hright, by (first | lia | omega)⟩) ?_)
    · rintro i c st' _ _ ⟨rfl, lo, of, rfl, h1, h2, h3, h4⟩
      dsimp only
      by_cases hlt : of ≥ hint + 1
      · rw [if_pos hlt]
        exact wpS_pure ⟨rfl, lo, of, rfl, h1, h2, h3, .inl hlt⟩
      · rw [if_neg hlt]
        refine wpS_bind (bey rfl (by (first | lia | omega)) ?_)
        cases hb2 : BB (hint - of) with
        | true => exact wpS_pure ⟨rfl, lo, of, rfl, h1, h2, h3, .inr hb2⟩
        | false => exact wpS_pure ⟨rfl, _, _, rfl, by (first | lia | omega), by (first | lia | omega), hb2, by (first | lia | omega)⟩
    · rintro c st' ⟨rfl, lo, of, rfl, h1, h2, h3, h4⟩
      exact ⟨rfl, lo, of, rfl, h1, h2, h3, .inl (by (first | lia | omega))⟩
    · rintro c st'' ⟨rfl, lo, of, rfl, h1, h2, h3, h4⟩
      dsimp only
      have g1 : hint + 1 - min of (hint + 1) ≤ hint - lo := by (first | lia | omega)
      have g2 : hint - lo ≤ n := by (first | lia | omega)
      have g3 : ∀ i, i < hint + 1 - min of (hint + 1) → BB i = true := fun i hi => by
        rcases h4 with h4 | h4
        · (first | lia | omega)
        · exact up (show i ≤ hint - of by (first | lia | omega)) (by (first | lia | omega)) h4
      have g4 : ∀ i, hint - lo ≤ i → i < n → BB i = false := fun i hi hin => dn hi hin h3
      generalize hint + 1 - min of (hint + 1) = lo1 at g1 g3
      generalize hint - lo = hi1 at g1 g2 g4
      refine wpS_bind (wpS_mono (wpS_forRange (I := fun x c st' => st' = st'' ∧ ∃ lo hi, c = (none, lo, hi) ∧ lo ≤ hi ∧ hi ≤ n ∧ (∀ i, i < lo → BB i = true) ∧ (∀ i, hi ≤ i → i < n → BB i = false) ∧ hi - lo + x ≤ n) (Q := fun c st' => st' = st'' ∧ ∃ lo hi, c = (none, lo, hi) ∧ lo = hi ∧ hi ≤ n ∧ (∀ i, i < lo → BB i = true) ∧ (∀ i, hi ≤ i → i < n → BB i = false)) ?_ ?_ ⟨rfl, lo1, hi1, rfl, g1, g2, g3, g4, by (first | lia | omega)⟩) ?_)
      · rintro i c st' _ _ ⟨rfl, lo, hi, rfl, h1, h2, h3, h4, h5⟩
        dsimp only
        by_cases hlt : lo ≥ hi
        · rw [if_pos hlt]
          exact wpS_pure ⟨rfl, lo, hi, rfl, by (first | lia | omega), h2, h3, h4⟩
        · rw [if_neg hlt]
          refine wpS_bind (bey rfl (by (first | lia | omega)) ?_)
          cases hb2 : BB (lo + (hi - lo) / 2) with
          | true => exact wpS_pure ⟨rfl, _, _, rfl, by (first | lia | omega), by (first | lia | omega), fun i hi' => up (show i ≤ lo + (hi - lo) / 2 by (first | lia | omega)) (by (first | lia | omega)) hb2, h4, by (first | lia | omega)⟩
          | false => exact wpS_pure ⟨rfl, _, _, rfl, by (first | lia | omega), by (first | lia | omega), h3, fun i hi' hin => dn hi' hin hb2, by (first | lia | omega)⟩
      · rintro c st' ⟨rfl, lo, hi, rfl, h1, h2, h3, h4, h5⟩
        exact ⟨rfl, lo, hi, rfl, by (first | lia | omega), h2, h3, h4⟩
      · rintro c st' ⟨rfl, lo, hi, rfl, h1, h2, h3, h4⟩
        exact wpS_pure (h hi h2 (fun i hi' => h3 i (by (first | lia | omega))) h4)
end
end Srd

namespace Srd
open PySem PyProof.Rows Srt
section
variable {lt : Keyed → Keyed → Bool} {a b out : Array Keyed} {ia ib k : Nat} {p q : Keyed}
abbrev So (lt : Keyed → Keyed → Bool) (l : List Keyed) : Prop := l.Pairwise (Le lt)
theorem getD' (h : a[ia]? = some p) : a.toList[ia]? = some p := by rw [← h]; simp
theorem some_inj {i : Nat} {x y : Keyed} (h1 : a[i]? = some x) (h2 : a[i]? = some y) : x = y := by
  rw [h1] at h2
  exact Option.some.inj h2
theorem drop_head (h : a[ia]? = some p) : a.toList.drop ia = p :: a.toList.drop (ia + 1) := by
  obtain ⟨hi, e⟩ := List.getElem?_eq_some_iff.mp (getD' h)
  rw [List.drop_eq_getElem_cons hi, e]
theorem So.drop {l : List Keyed} (h : So lt l) (n : Nat) : So lt (l.drop n) := List.Pairwise.sublist (List.drop_sublist n l) h
theorem So.head (h : So lt a.toList) (hp : a[ia]? = some p) : ∀ y ∈ a.toList.drop (ia + 1), Le lt p y := by
  have := h.drop ia
  rw [drop_head hp] at this
  exact (List.pairwise_cons.mp this).1
theorem headLe (o : Swo lt) (h : So lt a.toList) (hp : a[ia]? = some p) {x : Keyed} (hx : Le lt x p) : ∀ y ∈ a.toList.drop ia, Le lt x y := fun y hy => by
  rw [drop_head hp] at hy
  rcases List.mem_cons.mp hy with rfl | hy
  · exact hx
  · exact o.le_trans hx (h.head hp y hy)
theorem up_of (h : So lt a.toList) (i j : Nat) : Up lt a i j := fun x y p q _ hxy _ ex ey => by
  obtain ⟨hx, rfl⟩ := List.getElem?_eq_some_iff.mp (getD' ex)
  obtain ⟨hy, rfl⟩ := List.getElem?_eq_some_iff.mp (getD' ey)
  exact (List.pairwise_iff_getElem.mp h) x y hx hy hxy
theorem so_of {n : Nat} (h : Up lt a 0 n) (hn : a.size ≤ n) : So lt a.toList := by
  refine List.pairwise_iff_getElem.mpr fun i j hi hj hij => ?_
  have hi' : i < a.size := by rw [← Array.length_toList]; exact hi
  have hj' : j < a.size := by rw [← Array.length_toList]; exact hj
  exact h i j _ _ (Nat.zero_le _) hij (by (first | lia | omega)) (by rw [← Array.getElem?_toList]; exact List.getElem?_eq_getElem hi) (by rw [← Array.getElem?_toList]; exact List.getElem?_eq_getElem hj)
theorem mem_dropI {l : List Keyed} {n : Nat} {y : Keyed} (h : y ∈ l.drop n) : ∃ i, l[n + i]? = some y := by
  obtain ⟨i, hi⟩ := List.mem_iff_getElem?.mp h
  rw [List.getElem?_drop] at hi
  exact ⟨i, hi⟩
/-- behind a leap -/
theorem galA (F : ∀ i, k ≤ i → i < a.size - ia → BV lt false p a ia i = false) (o : Swo lt) : ∀ y ∈ a.toList.drop (ia + k), Le lt p y := fun y hy => by
  obtain ⟨i, hi⟩ := mem_dropI hy
  obtain ⟨hl, _⟩ := List.getElem?_eq_some_iff.mp hi
  rw [Array.length_toList] at hl
  have h1 := F (k + i) (by (first | lia | omega)) (by (first | lia | omega))
  unfold BV at h1
  rw [show ia + (k + i) = ia + k + i by (first | lia | omega), ← Array.getElem?_toList, hi] at h1
  have h2 : (!lt p y) = false := h1
  exact o.le_of (by simpa using h2)
theorem galA1 (F : ∀ i, i < k → BV lt false p a ia i = true) : ∀ x ∈ (a.toList.drop ia).take k, Le lt x p := fun x hx => by
  obtain ⟨i, hi⟩ := List.mem_iff_getElem?.mp hx
  have hik : i < k := by
    have := (List.getElem?_eq_some_iff.mp hi).1
    rw [List.length_take] at this
    (first | lia | omega)
  rw [List.getElem?_take_of_lt hik, List.getElem?_drop] at hi
  have h1 := F i hik
  unfold BV at h1
  rw [← Array.getElem?_toList, hi] at h1
  have h2 : (!lt p x) = true := h1
  show lt p x = false
  simpa using h2
theorem galB (F : ∀ i, k ≤ i → i < b.size - ib → BV lt true q b ib i = false) : ∀ y ∈ b.toList.drop (ib + k), Le lt q y := fun y hy => by
  obtain ⟨i, hi⟩ := mem_dropI hy
  obtain ⟨hl, _⟩ := List.getElem?_eq_some_iff.mp hi
  rw [Array.length_toList] at hl
  have h1 := F (k + i) (by (first | lia | omega)) (by (first | lia | omega))
  unfold BV at h1
  rw [show ib + (k + i) = ib + k + i by (first | lia | omega), ← Array.getElem?_toList, hi] at h1
  exact h1
theorem galB1 (F : ∀ i, i < k → BV lt true q b ib i = true) (o : Swo lt) : ∀ x ∈ (b.toList.drop ib).take k, Le lt x q := fun x hx => by
  obtain ⟨i, hi⟩ := List.mem_iff_getElem?.mp hx
  have hik : i < k := by
    have := (List.getElem?_eq_some_iff.mp hi).1
    rw [List.length_take] at this
    (first | lia | omega)
  rw [List.getElem?_take_of_lt hik, List.getElem?_drop] at hi
  have h1 := F i hik
  unfold BV at h1
  rw [← Array.getElem?_toList, hi] at h1
  exact o.le_of h1
/-- what is out: in order, and all that is left is no less -/
structure OutL (lt : Keyed → Keyed → Bool) (a b out : Array Keyed) (ia ib : Nat) : Prop where
  perm : Out a b out ia ib
  sort : So lt out.toList
  lowA : ∀ x ∈ out.toList, ∀ y ∈ a.toList.drop ia, Le lt x y
  lowB : ∀ x ∈ out.toList, ∀ y ∈ b.toList.drop ib, Le lt x y
/-- both, in order -/
structure Rs (lt : Keyed → Keyed → Bool) (a b r : Array Keyed) : Prop where
  perm : r.toList.Perm (a.toList ++ b.toList)
  sort : So lt r.toList
theorem mem_push {x : Keyed} (h : x ∈ (out.push p).toList) : x ∈ out.toList ∨ x = p := by
  rw [Array.toList_push] at h
  rcases List.mem_append.mp h with h | h
  · exact .inl h
  · exact .inr (List.mem_singleton.mp h)
theorem so_push (h : So lt out.toList) (hp : ∀ x ∈ out.toList, Le lt x p) : So lt (out.push p).toList := by
  rw [Array.toList_push]
  refine List.pairwise_append.mpr ⟨h, List.pairwise_singleton _ _, fun x hx y hy => ?_⟩
  rw [List.mem_singleton.mp hy]
  exact hp x hx
theorem drop_in {l : List Keyed} {i j : Nat} (h : i ≤ j) {y : Keyed} (hy : y ∈ l.drop j) : y ∈ l.drop i := by
  rw [show j = i + (j - i) by (first | lia | omega), ← List.drop_drop] at hy
  exact List.mem_of_mem_drop hy
theorem OutL.pushA (h : OutL lt a b out ia ib) (SA : So lt a.toList) (hp : a[ia]? = some p) (hb : ∀ y ∈ b.toList.drop ib, Le lt p y) : OutL lt a b (out.push p) (ia + 1) ib := by
  have hm : p ∈ a.toList.drop ia := by rw [drop_head hp]; exact List.mem_cons_self ..
  refine ⟨h.perm.pushA hp, so_push h.sort fun x hx => h.lowA x hx p hm, fun x hx y hy => ?_, fun x hx y hy => ?_⟩
  · rcases mem_push hx with hx | rfl
    · exact h.lowA x hx y (drop_in (by (first | lia | omega)) hy)
    · exact SA.head hp y hy
  · rcases mem_push hx with hx | rfl
    · exact h.lowB x hx y hy
    · exact hb y hy
theorem OutL.pushB (h : OutL lt a b out ia ib) (SB : So lt b.toList) (hp : b[ib]? = some p) (ha : ∀ y ∈ a.toList.drop ia, Le lt p y) : OutL lt a b (out.push p) ia (ib + 1) := by
  have hm : p ∈ b.toList.drop ib := by rw [drop_head hp]; exact List.mem_cons_self ..
  refine ⟨h.perm.pushB hp, so_push h.sort fun x hx => h.lowB x hx p hm, fun x hx y hy => ?_, fun x hx y hy => ?_⟩
  · rcases mem_push hx with hx | rfl
    · exact h.lowA x hx y hy
    · exact ha y hy
  · rcases mem_push hx with hx | rfl
    · exact h.lowB x hx y (drop_in (by (first | lia | omega)) hy)
    · exact SB.head hp y hy
theorem ext_list (a : Array Keyed) (i k : Nat) : (a.extract i (i + k)).toList = (a.toList.drop i).take k := by
  rw [Array.toList_extract, List.extract_eq_drop_take, show i + k - i = k by (first | lia | omega)]
theorem ext_all (a : Array Keyed) (i : Nat) : (a.extract i a.size).toList = a.toList.drop i := by
  rw [Array.toList_extract, List.extract_eq_drop_take]
  apply List.take_of_length_le
  rw [List.length_drop, Array.length_toList]
  exact Nat.le_refl _
theorem take_drop_le {l : List Keyed} {i k : Nat} (h : So lt l) {x y : Keyed} (hx : x ∈ (l.drop i).take k) (hy : y ∈ l.drop (i + k)) : Le lt x y := by
  have h1 := h.drop i
  rw [← List.take_append_drop k (l.drop i), List.drop_drop] at h1
  exact (List.pairwise_append.mp h1).2.2 x hx y hy
theorem OutL.extA (h : OutL lt a b out ia ib) (SA : So lt a.toList) (hk : ia + k ≤ a.size) (hb : ∀ x ∈ (a.toList.drop ia).take k, ∀ y ∈ b.toList.drop ib, Le lt x y) : OutL lt a b (out ++ a.extract ia (ia + k)) (ia + k) ib := by
  have hm : ∀ x, x ∈ (out ++ a.extract ia (ia + k)).toList → x ∈ out.toList ∨ x ∈ (a.toList.drop ia).take k := fun x hx => by
    rw [Array.toList_append, ext_list] at hx
    exact List.mem_append.mp hx
  refine ⟨h.perm.extA hk, ?_, fun x hx y hy => ?_, fun x hx y hy => ?_⟩
  · rw [Array.toList_append, ext_list]
    exact List.pairwise_append.mpr ⟨h.sort, List.Pairwise.sublist (List.take_sublist _ _) (SA.drop ia), fun x hx y hy => h.lowA x hx y (List.mem_of_mem_take hy)⟩
  · rcases hm x hx with hx | hx
    · exact h.lowA x hx y (drop_in (by (first | lia | omega)) hy)
    · exact take_drop_le SA hx hy
  · rcases hm x hx with hx | hx
    · exact h.lowB x hx y hy
    · exact hb x hx y hy
theorem OutL.extB (h : OutL lt a b out ia ib) (SB : So lt b.toList) (hk : ib + k ≤ b.size) (ha : ∀ x ∈ (b.toList.drop ib).take k, ∀ y ∈ a.toList.drop ia, Le lt x y) : OutL lt a b (out ++ b.extract ib (ib + k)) ia (ib + k) := by
  have hm : ∀ x, x ∈ (out ++ b.extract ib (ib + k)).toList → x ∈ out.toList ∨ x ∈ (b.toList.drop ib).take k := fun x hx => by
    rw [Array.toList_append, ext_list] at hx
    exact List.mem_append.mp hx
  refine ⟨h.perm.extB hk, ?_, fun x hx y hy => ?_, fun x hx y hy => ?_⟩
  · rw [Array.toList_append, ext_list]
    exact List.pairwise_append.mpr ⟨h.sort, List.Pairwise.sublist (List.take_sublist _ _) (SB.drop ib), fun x hx y hy => h.lowB x hx y (List.mem_of_mem_take hy)⟩
  · rcases hm x hx with hx | hx
    · exact h.lowA x hx y hy
    · exact ha x hx y hy
  · rcases hm x hx with hx | hx
    · exact h.lowB x hx y (drop_in (by (first | lia | omega)) hy)
    · exact take_drop_le SB hx hy
theorem OutL.doneB (h : OutL lt a b out ia ib) (SA : So lt a.toList) (e : (ib == b.size) = true) : Rs lt a b (out ++ a.extract ia a.size ++ b.extract ib b.size) := by
  refine ⟨h.perm.done, ?_⟩
  have e' : b.toList.drop ib = [] := List.drop_eq_nil_of_le (by rw [Array.length_toList, eq_of_beq e]; exact Nat.le_refl _)
  rw [Array.toList_append, Array.toList_append, ext_all, ext_all, e', List.append_nil]
  exact List.pairwise_append.mpr ⟨h.sort, SA.drop ia, fun x hx y hy => h.lowA x hx y hy⟩
theorem OutL.doneA (h : OutL lt a b out ia ib) (SB : So lt b.toList) (e : (ia == a.size) = true) : Rs lt a b (out ++ a.extract ia a.size ++ b.extract ib b.size) := by
  refine ⟨h.perm.done, ?_⟩
  have e' : a.toList.drop ia = [] := List.drop_eq_nil_of_le (by rw [Array.length_toList, eq_of_beq e]; exact Nat.le_refl _)
  rw [Array.toList_append, Array.toList_append, ext_all, ext_all, e', List.append_nil]
  exact List.pairwise_append.mpr ⟨h.sort, SB.drop ib, fun x hx y hy => h.lowB x hx y hy⟩
theorem OutL.lastL (h : OutL lt a b out ia ib) (SA : So lt a.toList) (SB : So lt b.toList) (LA : ∀ x ∈ b.toList, ∀ q, a[a.size - 1]? = some q → Le lt x q) (e : (ia + 1 == a.size) = true) : Rs lt a b (out ++ b.extract ib b.size ++ a.extract ia a.size) := by
  refine ⟨h.perm.last, ?_⟩
  have e1 := eq_of_beq e
  rw [Array.toList_append, Array.toList_append, ext_all, ext_all]
  refine List.pairwise_append.mpr ⟨List.pairwise_append.mpr ⟨h.sort, SB.drop ib, fun x hx y hy => h.lowB x hx y hy⟩, SA.drop ia, fun x hx y hy => ?_⟩
  rcases List.mem_append.mp hx with hx | hx
  · exact h.lowA x hx y hy
  · refine LA x (List.mem_of_mem_drop hx) y ?_
    obtain ⟨i, hi⟩ := mem_dropI hy
    have hl := (List.getElem?_eq_some_iff.mp hi).1
    rw [Array.length_toList] at hl
    rw [show a.size - 1 = ia + i by (first | lia | omega), ← Array.getElem?_toList]
    exact hi
theorem outL0 (SB : So lt b.toList) (hp : b[0]? = some p) (hb0 : ∀ p, b[0]? = some p → ∀ y ∈ a.toList, Le lt p y) : OutL lt a b #[p] 0 1 := by
  refine ⟨out0 hp, List.pairwise_singleton _ _, fun x hx y hy => ?_, fun x hx y hy => ?_⟩
  · obtain rfl : x = p := by simpa using hx
    exact hb0 x hp y hy
  · obtain rfl : x = p := by simpa using hx
    exact SB.head hp y hy
end
end Srd

namespace Srd
open PySem PyProof.Rows Srt
section
variable {prog : Program} {w : World} {A : Around} {E : Value → Shared → Prop} {s : Shared} {κ : SortKind} {Ok : Keyed → Prop} {st : SortSt} {lt : Keyed → Keyed → Bool}
abbrev LoT := Option (Array Keyed) × Array Keyed × Nat × Nat × Nat × Nat × Nat
def lo3 (a b out : Array Keyed) (ia ib g ac bc : Nat) : StateT SortSt Sem (ForInStep LoT) :=
  elem' a ia >>= fun p => if (ia + 1 + 1 == a.size) = true then pure (.done (some (out.push p ++ b.extract ib b.size ++ a.extract (ia + 1) a.size), out.push p, ia + 1, ib, g, ac, bc))
    else if (decide (ac < 7) && decide (bc < 7)) = true then pure (.done (none, out.push p, ia + 1, ib, g, ac, bc)) else pure (.yield (none, out.push p, ia + 1, ib, g, ac, bc))
/-- what holds behind a turn of the galloping -/
def LoP (lt : Keyed → Keyed → Bool) (a b : Array Keyed) (st : SortSt) (x : Nat) : ForInStep LoT → SortSt → Prop := fun r st' => match r with
  | .done c => Like st st' ∧ ((∃ r out ia ib g ac bc, c = (some r, out, ia, ib, g, ac, bc) ∧ Rs lt a b r) ∨ ∃ out ia ib g ac bc, c = (none, out, ia, ib, g, ac, bc) ∧ OutL lt a b out ia ib ∧ ia + 1 < a.size ∧ ib < b.size ∧ x + 2 ≤ ia + ib)
  | .yield c => Like st st' ∧ ∃ out ia ib g ac bc, c = (none, out, ia, ib, g, ac, bc) ∧ OutL lt a b out ia ib ∧ ia + 1 < a.size ∧ ib < b.size ∧ x + 2 ≤ ia + ib
/-- what a step may end in -/
structure LoQ (lt : Keyed → Keyed → Bool) (a b : Array Keyed) (st : SortSt) (N : Nat) (Q : ForInStep LoT → SortSt → Prop) : Prop where
  R : ∀ r out ia ib g ac bc, Rs lt a b r → Q (.done (some r, out, ia, ib, g, ac, bc)) st
  N : ∀ out ia ib g ac bc, OutL lt a b out ia ib → ia + 1 < a.size → ib < b.size → N ≤ ia + ib → Q (.done (none, out, ia, ib, g, ac, bc)) st ∧ Q (.yield (none, out, ia, ib, g, ac, bc)) st
section
variable {a b out : Array Keyed} {ia ib g ac bc N : Nat} {Q : ForInStep LoT → SortSt → Prop}
theorem lo3_ok (SA : So lt a.toList) (SB : So lt b.toList) (LA : ∀ x ∈ b.toList, ∀ q, a[a.size - 1]? = some q → Le lt x q) (q : LoQ lt a b st N Q) (ho : OutL lt a b out ia ib) (h1 : ia + 1 < a.size) (h2 : ib < b.size) (hN : N ≤ ia + ib) (hp : ∀ p, a[ia]? = some p → ∀ y ∈ b.toList.drop ib, Le lt p y) :
    wpS (model prog w) A E s (lo3 a b out ia ib g ac bc) Q st := by
  unfold lo3
  refine wpS_bind (wpS_elem (by (first | lia | omega)) fun p4 h4 e4 => ?_)
  have o4 := ho.pushA SA e4 (hp p4 e4)
  by_cases f1 : (ia + 1 + 1 == a.size) = true
  · rw [if_pos f1]
    exact wpS_pure (q.R _ _ _ _ _ _ _ (o4.lastL SA SB LA f1))
  rw [if_neg f1]
  have n4 : ia + 1 + 1 < a.size := by
    have : ¬ ia + 1 + 1 = a.size := fun e => f1 (by simp [← e])
    (first | lia | omega)
  have z := q.N _ _ _ g ac bc o4 n4 h2 (by (first | lia | omega))
  by_cases f2 : (decide (ac < 7) && decide (bc < 7)) = true
  · rw [if_pos f2]
    exact wpS_pure z.1
  · rw [if_neg f2]
    exact wpS_pure z.2
theorem lo2_ok (o : Swo lt) (hc : CmpL prog w A s κ Ok lt) (hk : kindOf st = κ) (ha : ∀ p ∈ a.toList, Ok p) (hb : ∀ p ∈ b.toList, Ok p) (SA : So lt a.toList) (SB : So lt b.toList) (LA : ∀ x ∈ b.toList, ∀ q, a[a.size - 1]? = some q → Le lt x q) (q : LoQ lt a b st N Q) (ho : OutL lt a b out ia ib) (h1 : ia + 1 < a.size) (h2 : ib < b.size) (hN : N ≤ ia + ib) (hp : ∀ p, b[ib]? = some p → ∀ y ∈ a.toList.drop ia, Le lt p y)
    {T : Keyed → Option Nat → StateT SortSt Sem (ForInStep LoT)} (hT : ∀ p k, T p (some k) = if k > 0 then (if (ib + 1 + k == b.size) = true then pure (.done (some (out.push p ++ b.extract (ib + 1) (ib + 1 + k) ++ a.extract ia a.size ++ b.extract (ib + 1 + k) b.size), out.push p ++ b.extract (ib + 1) (ib + 1 + k), ia, ib + 1 + k, g, ac, k))
          else lo3 a b (out.push p ++ b.extract (ib + 1) (ib + 1 + k)) ia (ib + 1 + k) g ac k)
        else lo3 a b (out.push p) ia (ib + 1) g ac k) :
    wpS (model prog w) A E s (elem' b ib >>= fun p => if (ib + 1 == b.size) = true then pure (.done (some (out.push p ++ a.extract ia a.size ++ b.extract (ib + 1) b.size), out.push p, ia, ib + 1, g, ac, bc))
      else elem' a ia >>= fun q => gallop' true q b (ib + 1) (b.size - (ib + 1)) 0 >>= T p) Q st := by
  refine wpS_bind (wpS_elem (by (first | lia | omega)) fun p3 h3 e3 => ?_)
  have o2 := ho.pushB SB e3 (hp p3 e3)
  by_cases c3 : (ib + 1 == b.size) = true
  · rw [if_pos c3]
    exact wpS_pure (q.R _ _ _ _ _ _ _ (o2.doneB SA c3))
  rw [if_neg c3]
  have n3 : ib + 1 < b.size := by
    have : ¬ ib + 1 = b.size := fun e => c3 (by simp [← e])
    (first | lia | omega)
  refine wpS_bind (wpS_elem (by (first | lia | omega)) fun q3 g3 u3 => ?_)
  refine wpS_bind (wpS_gallopL o hc hk (ha q3 g3) hb (by (first | lia | omega)) (by (first | lia | omega)) (up_of SB _ _) fun k2 hk2 G1 G2 => ?_)
  rw [hT]
  by_cases k20 : k2 > 0
  · rw [if_pos k20]
    have o3 := o2.extB SB (k := k2) (by (first | lia | omega)) (fun x hx => headLe o SA u3 (galB1 G1 o x hx))
    by_cases c4 : (ib + 1 + k2 == b.size) = true
    · rw [if_pos c4]
      exact wpS_pure (q.R _ _ _ _ _ _ _ (o3.doneB SA c4))
    rw [if_neg c4]
    have n5 : ib + 1 + k2 < b.size := by
      have : ¬ ib + 1 + k2 = b.size := fun e => c4 (by simp [← e])
      (first | lia | omega)
    exact lo3_ok SA SB LA q o3 h1 n5 (by (first | lia | omega)) fun p e => by rw [some_inj e u3]; exact galB G2
  · rw [if_neg k20]
    exact lo3_ok SA SB LA q o2 h1 n3 (by (first | lia | omega)) fun p e => by rw [some_inj e u3]; exact galB (k := 0) (fun i _ hi => G2 i (by (first | lia | omega)) hi)
end
set_option maxHeartbeats 2000000 in
theorem wpS_mergeLoL {a b : Array Keyed} {Q : Array Keyed → SortSt → Prop} (o : Swo lt) (hc : CmpL prog w A s κ Ok lt) (hk : kindOf st = κ) (ha : ∀ p ∈ a.toList, Ok p) (hb : ∀ p ∈ b.toList, Ok p) (ha1 : 1 ≤ a.size) (hb1 : 1 ≤ b.size) (SA : So lt a.toList) (SB : So lt b.toList) (hb0 : ∀ p, b[0]? = some p → ∀ y ∈ a.toList, Le lt p y) (LA : ∀ x ∈ b.toList, ∀ q, a[a.size - 1]? = some q → Le lt x q)
    (h : ∀ r st', Like st st' → Rs lt a b r → Q r st') : wpS (model prog w) A E s (mergeLo' a b) Q st := by
  refine wpS_bind (wpS_lift (wpAny_rule ⟨rfl, ?_⟩))
  refine wpS_bind (wpS_elem (by (first | lia | omega)) fun p hp he => ?_)
  try dsimp -zeta only
  have o0 : OutL lt a b #[p] 0 1 := outL0 SB he hb0
  by_cases c1 : (1 == b.size) = true
  · rw [if_pos c1]
    exact wpS_pure (h _ _ (Like.refl _) (o0.doneB SA c1))
  rw [if_neg c1]
  by_cases c2 : (0 + 1 == a.size) = true
  · rw [if_pos c2]
    exact wpS_pure (h _ _ (Like.refl _) (o0.lastL SA SB LA c2))
  rw [if_neg c2]
  have n1 : 1 < b.size := by
    have : ¬ 1 = b.size := fun e => c1 (by simp [← e])
    (first | lia | omega)
  have n2 : 1 < a.size := by
    have : ¬ 1 = a.size := fun e => c2 (by simp [← e])
    (first | lia | omega)
  refine wpS_bind (wpS_get ?_)
  -- the turns
  refine wpS_bind (wpS_mono (wpS_forRange (I := fun x c st' => Like st st' ∧ ∃ out ia ib g, c = (none, out, ia, ib, g) ∧ OutL lt a b out ia ib ∧ ia + 1 < a.size ∧ ib < b.size ∧ x + 1 ≤ ia + ib)
    (Q := fun c st' => Like st st' ∧ ∃ r out ia ib g, c = (some r, out, ia, ib, g) ∧ Rs lt a b r) ?_ ?_ ⟨Like.refl _, _, 0, 1, _, rfl, o0, by (first | lia | omega), by (first | lia | omega), by (first | lia | omega)⟩) ?_)
  · rintro x c st1 _ hx ⟨lk, out, ia, ib, g, rfl, ho, hia, hib, hxx⟩
    try dsimp -zeta only
    -- one by one
    refine wpS_bind (wpS_mono (wpS_forRange (I := fun y c st' => Like st st' ∧ ∃ out ia ib ac bc, c = (none, out, ia, ib, ac, bc) ∧ OutL lt a b out ia ib ∧ ia + 1 < a.size ∧ ib < b.size ∧ x + 1 + (if y = 0 then 0 else 1) ≤ ia + ib)
      (Q := fun c st' => Like st st' ∧ ((∃ r out ia ib ac bc, c = (some r, out, ia, ib, ac, bc) ∧ Rs lt a b r) ∨ ∃ out ia ib ac bc, c = (none, out, ia, ib, ac, bc) ∧ OutL lt a b out ia ib ∧ ia + 1 < a.size ∧ ib < b.size ∧ x + 2 ≤ ia + ib)) ?_ ?_ ⟨lk, out, ia, ib, 0, 0, rfl, ho, hia, hib, by simp; (first | lia | omega)⟩) ?_)
    · rintro y c st2 _ hy ⟨lk2, out, ia, ib, ac, bc, rfl, ho, hia, hib, hxx⟩
      dsimp only
      have hxx2 : x + 1 ≤ ia + ib := by split at hxx <;> (first | lia | omega)
      refine wpS_bind (wpS_elem (by (first | lia | omega)) fun p hp ep => ?_)
      refine wpS_bind (wpS_elem (by (first | lia | omega)) fun q hq eq => ?_)
      refine wpS_bind (wpS_ltL hc (lk2.kind.trans hk) (hb p hp) (ha q hq) ?_)
      cases hbw : lt p q with
      | true =>
        try dsimp -zeta only
        rw [if_pos rfl]
        refine wpS_bind (wpS_elem (by (first | lia | omega)) fun p2 hp2 ep2 => ?_)
        have o1 := ho.pushB SB ep2 (by rw [some_inj ep2 ep]; exact headLe o SA eq (o.le_of hbw))
        by_cases d1 : (ib + 1 == b.size) = true
        · rw [if_pos d1]
          exact wpS_pure ⟨lk2, .inl ⟨_, _, _, _, _, _, rfl, (o1.doneB SA d1)⟩⟩
        rw [if_neg d1]
        have m1 : ib + 1 < b.size := by
          have : ¬ ib + 1 = b.size := fun e => d1 (by simp [← e])
          (first | lia | omega)
        by_cases d2 : bc + 1 ≥ g
        · rw [if_pos d2]
          exact wpS_pure ⟨lk2, .inr ⟨_, _, _, _, _, rfl, o1, hia, m1, by (first | lia | omega)⟩⟩
        · rw [if_neg d2]
          exact wpS_pure ⟨lk2, _, _, _, _, _, rfl, o1, hia, m1, by rw [if_neg (by (first | lia | omega))]; (first | lia | omega)⟩
      | false =>
        try dsimp -zeta only
        rw [if_neg Bool.false_ne_true]
        refine wpS_bind (wpS_elem (by (first | lia | omega)) fun p2 hp2 ep2 => ?_)
        have o1 := ho.pushA SA ep2 (by rw [some_inj ep2 eq]; exact headLe o SB ep hbw)
        by_cases d1 : (ia + 1 + 1 == a.size) = true
        · rw [if_pos d1]
          exact wpS_pure ⟨lk2, .inl ⟨_, _, _, _, _, _, rfl, (o1.lastL SA SB LA d1)⟩⟩
        rw [if_neg d1]
        have m1 : ia + 1 + 1 < a.size := by
          have : ¬ ia + 1 + 1 = a.size := fun e => d1 (by simp [← e])
          (first | lia | omega)
        by_cases d2 : ac + 1 ≥ g
        · rw [if_pos d2]
          exact wpS_pure ⟨lk2, .inr ⟨_, _, _, _, _, rfl, o1, m1, hib, by (first | lia | omega)⟩⟩
        · rw [if_neg d2]
          exact wpS_pure ⟨lk2, _, _, _, _, _, rfl, o1, m1, hib, by rw [if_neg (by (first | lia | omega))]; (first | lia | omega)⟩
    · rintro c st2 ⟨lk2, out, ia, ib, ac, bc, rfl, ho, hia, hib, hxx⟩
      refine ⟨lk2, .inr ⟨_, _, _, _, _, rfl, ho, hia, hib, ?_⟩⟩
      rw [if_neg (by (first | lia | omega))] at hxx
      (first | lia | omega)
    · rintro c st2 ⟨lk2, ⟨r, out, ia, ib, ac, bc, rfl, hr⟩ | ⟨out, ia, ib, ac, bc, rfl, ho, hia, hib, hxx⟩⟩
      · exact wpS_pure ⟨lk2, _, _, _, _, _, rfl, hr⟩
      try dsimp -zeta only
      refine wpS_bind (wpS_lift (wpAny_rule ⟨rfl, ?_⟩))
      try dsimp -zeta only
      -- by leaps
      refine wpS_bind (wpS_mono (wpS_forRange (I := fun y c st' => Like st st' ∧ ∃ out ia ib g ac bc, c = (none, out, ia, ib, g, ac, bc) ∧ OutL lt a b out ia ib ∧ ia + 1 < a.size ∧ ib < b.size ∧ x + 2 ≤ ia + ib)
        (Q := fun c st' => Like st st' ∧ ((∃ r out ia ib g ac bc, c = (some r, out, ia, ib, g, ac, bc) ∧ Rs lt a b r) ∨ ∃ out ia ib g ac bc, c = (none, out, ia, ib, g, ac, bc) ∧ OutL lt a b out ia ib ∧ ia + 1 < a.size ∧ ib < b.size ∧ x + 2 ≤ ia + ib)) ?_ ?_ ⟨lk2, out, ia, ib, _, _, _, rfl, ho, hia, hib, hxx⟩) ?_)
      · rintro y c st3 _ hy ⟨lk3, out, ia, ib, g3, ac, bc, rfl, ho, hia, hib, hxx⟩
        dsimp only
        refine wpS_mono (Q := LoP lt a b st x) ?_ (fun r st' h => by cases r <;> exact h)
        have loq : ∀ {st4}, Like st st4 → LoQ lt a b st4 (ia + ib) (LoP lt a b st x) := fun lk4 => ⟨fun r out ia ib g ac bc hr => ⟨lk4, .inl ⟨r, out, ia, ib, g, ac, bc, rfl, hr⟩⟩, fun out ia ib g ac bc ho h1 h2 hN => ⟨⟨lk4, .inr ⟨out, ia, ib, g, ac, bc, rfl, ho, h1, h2, by (first | lia | omega)⟩⟩, ⟨lk4, out, ia, ib, g, ac, bc, rfl, ho, h1, h2, by (first | lia | omega)⟩⟩⟩
        by_cases g1 : g3 > 1
        · rw [if_pos g1]
          refine wpS_bind (wpS_modify ?_)
          have lk4 := lk3.trans (like_gallop st3 (g3 - 1))
          refine wpS_bind (wpS_elem (by (first | lia | omega)) fun p0 h0 e0 => ?_)
          refine wpS_bind (wpS_gallopL o hc (lk4.kind.trans hk) (hb p0 h0) ha (by (first | lia | omega)) (by (first | lia | omega)) (up_of SA _ _) fun k hk1 F1 F2 => ?_)
          try dsimp -zeta only
          by_cases k0 : k > 0
          · rw [if_pos k0]
            have o1 := ho.extA SA (k := k) (by (first | lia | omega)) (fun x hx => headLe o SB e0 (galA1 F1 x hx))
            by_cases c1 : (ia + k + 1 == a.size) = true
            · rw [if_pos c1]
              exact wpS_pure ⟨lk4, .inl ⟨_, _, _, _, _, _, _, rfl, (o1.lastL SA SB LA c1)⟩⟩
            rw [if_neg c1]
            by_cases c2 : (ia + k == a.size) = true
            · rw [if_pos c2]
              exact wpS_pure ⟨lk4, .inl ⟨_, _, _, _, _, _, _, rfl, (o1.doneA SB c2)⟩⟩
            rw [if_neg c2]
            have n1 : ia + k + 1 < a.size := by
              have h1 : ¬ ia + k + 1 = a.size := fun e => c1 (by simp [← e])
              have h2 : ¬ ia + k = a.size := fun e => c2 (by simp [← e])
              (first | lia | omega)
            refine lo2_ok o hc (lk4.kind.trans hk) ha hb SA SB LA (N := ia + ib) (loq lk4) o1 n1 hib (by (first | lia | omega)) (fun p e => by rw [some_inj e e0]; exact galA F2 o) ?_
            exact fun _ _ => rfl
          · rw [if_neg k0]
            refine lo2_ok o hc (lk4.kind.trans hk) ha hb SA SB LA (N := ia + ib) (loq lk4) ho hia hib (Nat.le_refl _) (fun p e => by rw [some_inj e e0]; exact galA (k := 0) (fun i _ hi => F2 i (by (first | lia | omega)) hi) o) ?_
            exact fun _ _ => rfl
        · rw [if_neg g1]
          refine wpS_bind (wpS_modify ?_)
          have lk4 := lk3.trans (like_gallop st3 g3)
          refine wpS_bind (wpS_elem (by (first | lia | omega)) fun p0 h0 e0 => ?_)
          refine wpS_bind (wpS_gallopL o hc (lk4.kind.trans hk) (hb p0 h0) ha (by (first | lia | omega)) (by (first | lia | omega)) (up_of SA _ _) fun k hk1 F1 F2 => ?_)
          try dsimp -zeta only
          by_cases k0 : k > 0
          · rw [if_pos k0]
            have o1 := ho.extA SA (k := k) (by (first | lia | omega)) (fun x hx => headLe o SB e0 (galA1 F1 x hx))
            by_cases c1 : (ia + k + 1 == a.size) = true
            · rw [if_pos c1]
              exact wpS_pure ⟨lk4, .inl ⟨_, _, _, _, _, _, _, rfl, (o1.lastL SA SB LA c1)⟩⟩
            rw [if_neg c1]
            by_cases c2 : (ia + k == a.size) = true
            · rw [if_pos c2]
              exact wpS_pure ⟨lk4, .inl ⟨_, _, _, _, _, _, _, rfl, (o1.doneA SB c2)⟩⟩
            rw [if_neg c2]
            have n1 : ia + k + 1 < a.size := by
              have h1 : ¬ ia + k + 1 = a.size := fun e => c1 (by simp [← e])
              have h2 : ¬ ia + k = a.size := fun e => c2 (by simp [← e])
              (first | lia | omega)
            refine lo2_ok o hc (lk4.kind.trans hk) ha hb SA SB LA (N := ia + ib) (loq lk4) o1 n1 hib (by (first | lia | omega)) (fun p e => by rw [some_inj e e0]; exact galA F2 o) ?_
            exact fun _ _ => rfl
          · rw [if_neg k0]
            refine lo2_ok o hc (lk4.kind.trans hk) ha hb SA SB LA (N := ia + ib) (loq lk4) ho hia hib (Nat.le_refl _) (fun p e => by rw [some_inj e e0]; exact galA (k := 0) (fun i _ hi => F2 i (by (first | lia | omega)) hi) o) ?_
            exact fun _ _ => rfl
      · rintro c st3 ⟨lk3, out, ia, ib, g3, ac, bc, rfl, ho, hia, hib, hxx⟩
        exact ⟨lk3, .inr ⟨_, _, _, _, _, _, rfl, ho, hia, hib, hxx⟩⟩
      · rintro c st3 ⟨lk3, ⟨r, out, ia, ib, g3, ac, bc, rfl, hr⟩ | ⟨out, ia, ib, g3, ac, bc, rfl, ho, hia, hib, hxx⟩⟩
        · exact wpS_pure ⟨lk3, _, _, _, _, _, rfl, hr⟩
        · try dsimp -zeta only
          refine wpS_bind (wpS_modify ?_)
          exact wpS_pure ⟨lk3.trans (like_gallop _ _), _, _, _, _, rfl, ho, hia, hib, by (first | lia | omega)⟩
  · rintro c st1 ⟨lk, out, ia, ib, g, rfl, ho, hia, hib, hx⟩
    exfalso
    (first | lia | omega)
  · rintro c st1 ⟨lk, r, out, ia, ib, g, rfl, hr⟩
    exact wpS_pure (h r st1 lk hr)
end
end Srd

namespace Srd
open PySem PyProof.Rows Srt
section
variable {lt : Keyed → Keyed → Bool} {a b out : Array Keyed} {na nb k : Nat} {p q : Keyed}
/-- what is out from the right: in order, and all that is left is no more -/
structure OutHL (lt : Keyed → Keyed → Bool) (a b out : Array Keyed) (na nb : Nat) : Prop where
  perm : OutH a b out na nb
  sort : So lt out.toList.reverse
  hiA : ∀ x ∈ out.toList, ∀ y ∈ a.toList.take na, Le lt y x
  hiB : ∀ x ∈ out.toList, ∀ y ∈ b.toList.take nb, Le lt y x
theorem take_last (h1 : 1 ≤ na) (hp : a[na - 1]? = some p) : a.toList.take na = a.toList.take (na - 1) ++ [p] := by
  have := take_one (getD' hp)
  rw [Nat.sub_add_cancel h1] at this
  exact this
theorem So.take {l : List Keyed} (h : So lt l) (n : Nat) : So lt (l.take n) := List.Pairwise.sublist (List.take_sublist n l) h
theorem So.last (h : So lt a.toList) (h1 : 1 ≤ na) (hp : a[na - 1]? = some p) : ∀ y ∈ a.toList.take (na - 1), Le lt y p := fun y hy => by
  have := h.take na
  rw [take_last h1 hp] at this
  exact (List.pairwise_append.mp this).2.2 y hy p (List.mem_singleton.mpr rfl)
theorem lastLe (o : Swo lt) (h : So lt a.toList) (h1 : 1 ≤ na) (hp : a[na - 1]? = some p) {x : Keyed} (hx : Le lt p x) : ∀ y ∈ a.toList.take na, Le lt y x := fun y hy => by
  rw [take_last h1 hp] at hy
  rcases List.mem_append.mp hy with hy | hy
  · exact o.le_trans (h.last h1 hp y hy) hx
  · rw [List.mem_singleton.mp hy]
    exact hx
theorem take_in {l : List Keyed} {i j : Nat} (h : i ≤ j) {y : Keyed} (hy : y ∈ l.take i) : y ∈ l.take j := by
  rw [show i = min i j by (first | lia | omega), ← List.take_take] at hy
  exact List.mem_of_mem_take hy
theorem mem_takeI {l : List Keyed} {n : Nat} {y : Keyed} (h : y ∈ l.take n) : ∃ i, i < n ∧ l[i]? = some y := by
  obtain ⟨i, hi⟩ := List.mem_iff_getElem?.mp h
  have hik : i < n := by
    have := (List.getElem?_eq_some_iff.mp hi).1
    rw [List.length_take] at this
    (first | lia | omega)
  rw [List.getElem?_take_of_lt hik] at hi
  exact ⟨i, hik, hi⟩
theorem mem_exI {i j : Nat} {x : Keyed} (h : x ∈ (a.extract i j).toList) : ∃ m, i ≤ m ∧ m < j ∧ a[m]? = some x := by
  rw [Array.toList_extract, List.extract_eq_drop_take] at h
  obtain ⟨m, hm, e⟩ := mem_takeI h
  rw [List.getElem?_drop] at e
  exact ⟨i + m, by (first | lia | omega), by (first | lia | omega), by rw [← Array.getElem?_toList]; exact e⟩
/-- behind a leap from the right -/
theorem galHA (F : ∀ i, k ≤ i → i < na → BV lt false p a 0 i = false) (o : Swo lt) : ∀ x ∈ (a.extract k na).toList, Le lt p x := fun x hx => by
  obtain ⟨m, h1, h2, e⟩ := mem_exI hx
  have h3 := F m h1 h2
  unfold BV at h3
  rw [Nat.zero_add, e] at h3
  have h4 : (!lt p x) = false := h3
  exact o.le_of (by simpa using h4)
theorem galHA1 (F : ∀ i, i < k → BV lt false p a 0 i = true) : ∀ y ∈ a.toList.take k, Le lt y p := fun y hy => by
  obtain ⟨i, hi, e⟩ := mem_takeI hy
  have h3 := F i hi
  unfold BV at h3
  rw [Nat.zero_add, ← Array.getElem?_toList, e] at h3
  have h4 : (!lt p y) = true := h3
  show lt p y = false
  simpa using h4
theorem galHB (F : ∀ i, k ≤ i → i < nb → BV lt true q b 0 i = false) : ∀ x ∈ (b.extract k nb).toList, Le lt q x := fun x hx => by
  obtain ⟨m, h1, h2, e⟩ := mem_exI hx
  have h3 := F m h1 h2
  unfold BV at h3
  rw [Nat.zero_add, e] at h3
  exact h3
theorem galHB1 (F : ∀ i, i < k → BV lt true q b 0 i = true) (o : Swo lt) : ∀ y ∈ b.toList.take k, Le lt y q := fun y hy => by
  obtain ⟨i, hi, e⟩ := mem_takeI hy
  have h3 := F i hi
  unfold BV at h3
  rw [Nat.zero_add, ← Array.getElem?_toList, e] at h3
  exact o.le_of h3
theorem so_pushH (h : So lt out.toList.reverse) (hp : ∀ x ∈ out.toList, Le lt p x) : So lt (out.push p).toList.reverse := by
  rw [Array.toList_push, List.reverse_append]
  exact List.pairwise_cons.mpr ⟨fun x hx => hp x (List.mem_reverse.mp hx), h⟩
theorem OutHL.pushA (h : OutHL lt a b out na nb) (SA : So lt a.toList) (h1 : 1 ≤ na) (hp : a[na - 1]? = some p) (hb : ∀ y ∈ b.toList.take nb, Le lt y p) : OutHL lt a b (out.push p) (na - 1) nb := by
  have hm : p ∈ a.toList.take na := by rw [take_last h1 hp]; exact List.mem_append_right _ (List.mem_singleton.mpr rfl)
  refine ⟨h.perm.pushA h1 hp, so_pushH h.sort fun x hx => h.hiA x hx p hm, fun x hx y hy => ?_, fun x hx y hy => ?_⟩
  · rcases mem_push hx with hx | rfl
    · exact h.hiA x hx y (take_in (by (first | lia | omega)) hy)
    · exact SA.last h1 hp y hy
  · rcases mem_push hx with hx | rfl
    · exact h.hiB x hx y hy
    · exact hb y hy
theorem OutHL.pushB (h : OutHL lt a b out na nb) (SB : So lt b.toList) (h1 : 1 ≤ nb) (hp : b[nb - 1]? = some p) (ha : ∀ y ∈ a.toList.take na, Le lt y p) : OutHL lt a b (out.push p) na (nb - 1) := by
  have hm : p ∈ b.toList.take nb := by rw [take_last h1 hp]; exact List.mem_append_right _ (List.mem_singleton.mpr rfl)
  refine ⟨h.perm.pushB h1 hp, so_pushH h.sort fun x hx => h.hiB x hx p hm, fun x hx y hy => ?_, fun x hx y hy => ?_⟩
  · rcases mem_push hx with hx | rfl
    · exact h.hiA x hx y hy
    · exact ha y hy
  · rcases mem_push hx with hx | rfl
    · exact h.hiB x hx y (take_in (by (first | lia | omega)) hy)
    · exact SB.last h1 hp y hy
theorem so_ext (h : So lt a.toList) (i j : Nat) : So lt (a.extract i j).toList := by
  rw [Array.toList_extract, List.extract_eq_drop_take]
  exact (h.drop i).take _
theorem ex_take {i j : Nat} {x : Keyed} (h : x ∈ (a.extract i j).toList) : x ∈ a.toList.take j := by
  obtain ⟨m, h1, h2, e⟩ := mem_exI h
  rw [← Array.getElem?_toList] at e
  refine List.mem_iff_getElem?.mpr ⟨m, ?_⟩
  rw [List.getElem?_take_of_lt h2]
  exact e
theorem take_ex_le (h : So lt a.toList) {i j : Nat} {x y : Keyed} (hy : y ∈ a.toList.take i) (hx : x ∈ (a.extract i j).toList) : Le lt y x := by
  obtain ⟨m, h1, h2, e⟩ := mem_exI hx
  obtain ⟨l, hl, e2⟩ := mem_takeI hy
  rw [Array.getElem?_toList] at e2
  exact up_of h 0 (m + 1) l m _ _ (Nat.zero_le _) (by (first | lia | omega)) (by (first | lia | omega)) e2 e
theorem OutHL.extA (h : OutHL lt a b out na nb) (SA : So lt a.toList) (hk : k ≤ na) (hb : ∀ x ∈ (a.extract k na).toList, ∀ y ∈ b.toList.take nb, Le lt y x) : OutHL lt a b (out ++ (a.extract k na).reverse) k nb := by
  have hm : ∀ x, x ∈ (out ++ (a.extract k na).reverse).toList → x ∈ out.toList ∨ x ∈ (a.extract k na).toList := fun x hx => by
    rw [Array.toList_append, Array.toList_reverse] at hx
    rcases List.mem_append.mp hx with hx | hx
    · exact .inl hx
    · exact .inr (List.mem_reverse.mp hx)
  refine ⟨h.perm.extA hk, ?_, fun x hx y hy => ?_, fun x hx y hy => ?_⟩
  · rw [Array.toList_append, Array.toList_reverse, List.reverse_append, List.reverse_reverse]
    exact List.pairwise_append.mpr ⟨so_ext SA _ _, h.sort, fun x hx y hy => h.hiA y (List.mem_reverse.mp hy) x (ex_take hx)⟩
  · rcases hm x hx with hx | hx
    · exact h.hiA x hx y (take_in (by (first | lia | omega)) hy)
    · exact take_ex_le SA hy hx
  · rcases hm x hx with hx | hx
    · exact h.hiB x hx y hy
    · exact hb x hx y hy
theorem OutHL.extB (h : OutHL lt a b out na nb) (SB : So lt b.toList) (hk : k ≤ nb) (ha : ∀ x ∈ (b.extract k nb).toList, ∀ y ∈ a.toList.take na, Le lt y x) : OutHL lt a b (out ++ (b.extract k nb).reverse) na k := by
  have hm : ∀ x, x ∈ (out ++ (b.extract k nb).reverse).toList → x ∈ out.toList ∨ x ∈ (b.extract k nb).toList := fun x hx => by
    rw [Array.toList_append, Array.toList_reverse] at hx
    rcases List.mem_append.mp hx with hx | hx
    · exact .inl hx
    · exact .inr (List.mem_reverse.mp hx)
  refine ⟨h.perm.extB hk, ?_, fun x hx y hy => ?_, fun x hx y hy => ?_⟩
  · rw [Array.toList_append, Array.toList_reverse, List.reverse_append, List.reverse_reverse]
    exact List.pairwise_append.mpr ⟨so_ext SB _ _, h.sort, fun x hx y hy => h.hiB y (List.mem_reverse.mp hy) x (ex_take hx)⟩
  · rcases hm x hx with hx | hx
    · exact h.hiA x hx y hy
    · exact ha x hx y hy
  · rcases hm x hx with hx | hx
    · exact h.hiB x hx y (take_in (by (first | lia | omega)) hy)
    · exact take_ex_le SB hy hx
theorem OutHL.doneA (h : OutHL lt a b out na nb) (SB : So lt b.toList) (e : (na == 0) = true) : Rs lt a b (a.extract 0 na ++ b.extract 0 nb ++ out.reverse) := by
  refine ⟨h.perm.done, ?_⟩
  rw [Array.toList_append, Array.toList_append, ex0, ex0, Array.toList_reverse, eq_of_beq e, List.take_zero, List.nil_append]
  exact List.pairwise_append.mpr ⟨SB.take nb, h.sort, fun x hx y hy => h.hiB y (List.mem_reverse.mp hy) x hx⟩
theorem OutHL.doneB (h : OutHL lt a b out na nb) (SA : So lt a.toList) (e : (nb == 0) = true) : Rs lt a b (a.extract 0 na ++ b.extract 0 nb ++ out.reverse) := by
  refine ⟨h.perm.done, ?_⟩
  rw [Array.toList_append, Array.toList_append, ex0, ex0, Array.toList_reverse, eq_of_beq e, List.take_zero, List.append_nil]
  exact List.pairwise_append.mpr ⟨SA.take na, h.sort, fun x hx y hy => h.hiA y (List.mem_reverse.mp hy) x hx⟩
theorem OutHL.firstL (h : OutHL lt a b out na nb) (SA : So lt a.toList) (SB : So lt b.toList) (hb0 : ∀ p, b[0]? = some p → ∀ y ∈ a.toList, Le lt p y) (e : (nb == 1) = true) : Rs lt a b (b.extract 0 nb ++ a.extract 0 na ++ out.reverse) := by
  refine ⟨h.perm.first, ?_⟩
  rw [Array.toList_append, Array.toList_append, ex0, ex0, Array.toList_reverse]
  refine List.pairwise_append.mpr ⟨List.pairwise_append.mpr ⟨SB.take nb, SA.take na, fun x hx y hy => ?_⟩, h.sort, fun x hx y hy => ?_⟩
  · obtain ⟨i, hi, e2⟩ := mem_takeI hx
    rw [eq_of_beq e] at hi
    obtain rfl : i = 0 := by (first | lia | omega)
    rw [Array.getElem?_toList] at e2
    exact hb0 x e2 y (List.mem_of_mem_take hy)
  · rcases List.mem_append.mp hx with hx | hx
    · exact h.hiB y (List.mem_reverse.mp hy) x hx
    · exact h.hiA y (List.mem_reverse.mp hy) x hx
theorem outHL0 (SA : So lt a.toList) (h1 : 1 ≤ a.size) (hp : a[a.size - 1]? = some p) (LA : ∀ x ∈ b.toList, ∀ q, a[a.size - 1]? = some q → Le lt x q) : OutHL lt a b #[p] (a.size - 1) b.size := by
  refine ⟨outH0 h1 hp, List.pairwise_singleton _ _, fun x hx y hy => ?_, fun x hx y hy => ?_⟩
  · obtain rfl : x = p := by simpa using hx
    exact SA.last h1 hp y hy
  · obtain rfl : x = p := by simpa using hx
    exact LA y (List.mem_of_mem_take hy) x hp
end
section
variable {prog : Program} {w : World} {A : Around} {E : Value → Shared → Prop} {s : Shared} {κ : SortKind} {Ok : Keyed → Prop} {st : SortSt} {lt : Keyed → Keyed → Bool}
abbrev HiT := Option (Array Keyed) × Nat × Nat × Array Keyed × Nat × Nat × Nat
def hi3 (a b : Array Keyed) (na nb : Nat) (out : Array Keyed) (g ac bc : Nat) : StateT SortSt Sem (ForInStep HiT) :=
  elem' a (na - 1) >>= fun p => if (na - 1 == 0) = true then pure (.done (some (a.extract 0 (na - 1) ++ b.extract 0 nb ++ (out.push p).reverse), na - 1, nb, out.push p, g, ac, bc))
    else if (decide (ac < 7) && decide (bc < 7)) = true then pure (.done (none, na - 1, nb, out.push p, g, ac, bc)) else pure (.yield (none, na - 1, nb, out.push p, g, ac, bc))
/-- what a step may end in -/
structure HiQ (lt : Keyed → Keyed → Bool) (a b : Array Keyed) (st : SortSt) (N : Nat) (Q : ForInStep HiT → SortSt → Prop) : Prop where
  R : ∀ r na nb out g ac bc, Rs lt a b r → Q (.done (some r, na, nb, out, g, ac, bc)) st
  N : ∀ na nb out g ac bc, OutHL lt a b out na nb → 1 ≤ na → na ≤ a.size → 2 ≤ nb → nb ≤ b.size → na + nb ≤ N → Q (.done (none, na, nb, out, g, ac, bc)) st ∧ Q (.yield (none, na, nb, out, g, ac, bc)) st
/-- what holds behind a turn of the galloping -/
def HiP (lt : Keyed → Keyed → Bool) (a b : Array Keyed) (st : SortSt) (x : Nat) : ForInStep HiT → SortSt → Prop := fun r st' => match r with
  | .done c => Like st st' ∧ ((∃ r na nb out g ac bc, c = (some r, na, nb, out, g, ac, bc) ∧ Rs lt a b r) ∨ ∃ na nb out g ac bc, c = (none, na, nb, out, g, ac, bc) ∧ OutHL lt a b out na nb ∧ 1 ≤ na ∧ na ≤ a.size ∧ 2 ≤ nb ∧ nb ≤ b.size ∧ na + nb + x + 2 ≤ a.size + b.size)
  | .yield c => Like st st' ∧ ∃ na nb out g ac bc, c = (none, na, nb, out, g, ac, bc) ∧ OutHL lt a b out na nb ∧ 1 ≤ na ∧ na ≤ a.size ∧ 2 ≤ nb ∧ nb ≤ b.size ∧ na + nb + x + 2 ≤ a.size + b.size
section
variable {a b out : Array Keyed} {na nb g ac bc N : Nat} {Q : ForInStep HiT → SortSt → Prop}
theorem hi3_ok (SA : So lt a.toList) (SB : So lt b.toList) (q : HiQ lt a b st N Q) (ho : OutHL lt a b out na nb) (h1 : 1 ≤ na) (h2 : na ≤ a.size) (h3 : 2 ≤ nb) (h4 : nb ≤ b.size) (hN : na + nb ≤ N) (hp : ∀ p, a[na - 1]? = some p → ∀ y ∈ b.toList.take nb, Le lt y p) :
    wpS (model prog w) A E s (hi3 a b na nb out g ac bc) Q st := by
  unfold hi3
  refine wpS_bind (wpS_elem (by (first | lia | omega)) fun p4 w4 e4 => ?_)
  have o4 := ho.pushA SA h1 e4 (hp p4 e4)
  by_cases f1 : (na - 1 == 0) = true
  · rw [if_pos f1]
    exact wpS_pure (q.R _ _ _ _ _ _ _ (o4.doneA SB f1))
  rw [if_neg f1]
  have n4 : ¬ na - 1 = 0 := fun e => f1 (by simp [e])
  have z := q.N _ _ _ g ac bc o4 (by (first | lia | omega)) (by (first | lia | omega)) h3 h4 (by (first | lia | omega))
  by_cases f2 : (decide (ac < 7) && decide (bc < 7)) = true
  · rw [if_pos f2]
    exact wpS_pure z.1
  · rw [if_neg f2]
    exact wpS_pure z.2
theorem hi2_ok (o : Swo lt) (hc : CmpL prog w A s κ Ok lt) (hk : kindOf st = κ) (ha : ∀ p ∈ a.toList, Ok p) (hb : ∀ p ∈ b.toList, Ok p) (hb0 : ∀ p, b[0]? = some p → ∀ y ∈ a.toList, Le lt p y) (SA : So lt a.toList) (SB : So lt b.toList) (q : HiQ lt a b st N Q) (ho : OutHL lt a b out na nb) (h1 : 1 ≤ na) (h2 : na ≤ a.size) (h3 : 2 ≤ nb) (h4 : nb ≤ b.size) (hN : na + nb ≤ N) (hp : ∀ p, b[nb - 1]? = some p → ∀ y ∈ a.toList.take na, Le lt y p)
    {T : Keyed → Option Nat → StateT SortSt Sem (ForInStep HiT)} (hT : ∀ p k, T p (some k) = if nb - 1 - k > 0 then (if (k == 1) = true then pure (.done (some (b.extract 0 k ++ a.extract 0 na ++ (out.push p ++ (b.extract k (nb - 1)).reverse).reverse), na, k, out.push p ++ (b.extract k (nb - 1)).reverse, g, ac, nb - 1 - k))
          else if (k == 0) = true then pure (.done (some (a.extract 0 na ++ b.extract 0 k ++ (out.push p ++ (b.extract k (nb - 1)).reverse).reverse), na, k, out.push p ++ (b.extract k (nb - 1)).reverse, g, ac, nb - 1 - k))
          else hi3 a b na k (out.push p ++ (b.extract k (nb - 1)).reverse) g ac (nb - 1 - k))
        else hi3 a b na (nb - 1) (out.push p) g ac (nb - 1 - k)) :
    wpS (model prog w) A E s (elem' b (nb - 1) >>= fun p => if (nb - 1 == 1) = true then pure (.done (some (b.extract 0 (nb - 1) ++ a.extract 0 na ++ (out.push p).reverse), na, nb - 1, out.push p, g, ac, bc))
      else elem' a (na - 1) >>= fun q => gallop' true q b 0 (nb - 1) (nb - 1 - 1) >>= T p) Q st := by
  refine wpS_bind (wpS_elem (by (first | lia | omega)) fun p3 w3 e3 => ?_)
  have o2 := ho.pushB SB (by (first | lia | omega)) e3 (hp p3 e3)
  by_cases c3 : (nb - 1 == 1) = true
  · rw [if_pos c3]
    exact wpS_pure (q.R _ _ _ _ _ _ _ (o2.firstL SA SB hb0 c3))
  rw [if_neg c3]
  have n3 : ¬ nb - 1 = 1 := fun e => c3 (by simp [e])
  refine wpS_bind (wpS_elem (by (first | lia | omega)) fun q3 v3 u3 => ?_)
  refine wpS_bind (wpS_gallopL o hc hk (ha q3 v3) hb (by (first | lia | omega)) (by (first | lia | omega)) (up_of SB _ _) fun k2 hk2 G1 G2 => ?_)
  rw [hT]
  by_cases k20 : nb - 1 - k2 > 0
  · rw [if_pos k20]
    have o3 := o2.extB SB (k := k2) (by (first | lia | omega)) (fun x hx => lastLe o SA (by (first | lia | omega)) u3 (galHB G2 x hx))
    by_cases c4 : (k2 == 1) = true
    · rw [if_pos c4]
      exact wpS_pure (q.R _ _ _ _ _ _ _ (o3.firstL SA SB hb0 c4))
    rw [if_neg c4]
    by_cases c5 : (k2 == 0) = true
    · rw [if_pos c5]
      exact wpS_pure (q.R _ _ _ _ _ _ _ (o3.doneB SA c5))
    rw [if_neg c5]
    have n5 : ¬ k2 = 1 := fun e => c4 (by simp [e])
    have n6 : ¬ k2 = 0 := fun e => c5 (by simp [e])
    exact hi3_ok SA SB q o3 h1 h2 (by (first | lia | omega)) (by (first | lia | omega)) (by (first | lia | omega)) fun p e => by rw [some_inj e u3]; exact galHB1 G1 o
  · rw [if_neg k20]
    exact hi3_ok SA SB q o2 h1 h2 (by (first | lia | omega)) (by (first | lia | omega)) (by (first | lia | omega)) fun p e => by rw [some_inj e u3]; exact galHB1 (fun i hi => G1 i (by (first | lia | omega))) o
end
set_option maxHeartbeats 2000000 in
theorem wpS_mergeHiL {a b : Array Keyed} {Q : Array Keyed → SortSt → Prop} (o : Swo lt) (hc : CmpL prog w A s κ Ok lt) (hk : kindOf st = κ) (ha : ∀ p ∈ a.toList, Ok p) (hb : ∀ p ∈ b.toList, Ok p) (ha1 : 1 ≤ a.size) (hb1 : 1 ≤ b.size) (SA : So lt a.toList) (SB : So lt b.toList) (hb0 : ∀ p, b[0]? = some p → ∀ y ∈ a.toList, Le lt p y) (LA : ∀ x ∈ b.toList, ∀ q, a[a.size - 1]? = some q → Le lt x q)
    (h : ∀ r st', Like st st' → Rs lt a b r → Q r st') : wpS (model prog w) A E s (mergeHi' a b) Q st := by
  refine wpS_bind (wpS_lift (wpAny_rule ⟨rfl, ?_⟩))
  refine wpS_bind (wpS_elem (by (first | lia | omega)) fun p hp he => ?_)
  try dsimp -zeta only
  have o0 : OutHL lt a b #[p] (a.size - 1) b.size := outHL0 SA ha1 he LA
  by_cases c1 : (a.size - 1 == 0) = true
  · rw [if_pos c1]
    exact wpS_pure (h _ _ (Like.refl _) (o0.doneA SB c1))
  rw [if_neg c1]
  by_cases c2 : (b.size == 1) = true
  · rw [if_pos c2]
    exact wpS_pure (h _ _ (Like.refl _) (o0.firstL SA SB hb0 c2))
  rw [if_neg c2]
  have n1 : 1 < b.size := by
    have : ¬ b.size = 1 := fun e => c2 (by simp [e])
    (first | lia | omega)
  have n2 : 1 < a.size := by
    have : ¬ a.size - 1 = 0 := fun e => c1 (by simp [e])
    (first | lia | omega)
  refine wpS_bind (wpS_get ?_)
  refine wpS_bind (wpS_mono (wpS_forRange (I := fun x c st' => Like st st' ∧ ∃ na nb out g, c = (none, na, nb, out, g) ∧ OutHL lt a b out na nb ∧ 1 ≤ na ∧ na ≤ a.size ∧ 2 ≤ nb ∧ nb ≤ b.size ∧ na + nb + x + 1 ≤ a.size + b.size)
    (Q := fun c st' => Like st st' ∧ ∃ r na nb out g, c = (some r, na, nb, out, g) ∧ Rs lt a b r) ?_ ?_ ⟨Like.refl _, _, _, _, _, rfl, o0, by (first | lia | omega), by (first | lia | omega), by (first | lia | omega), by (first | lia | omega), by (first | lia | omega)⟩) ?_)
  · rintro x c st1 _ hx ⟨lk, na, nb, out, g, rfl, ho, h1, h2, h3, h4, hxx⟩
    try dsimp -zeta only
    refine wpS_bind (wpS_mono (wpS_forRange (I := fun y c st' => Like st st' ∧ ∃ na nb out ac bc, c = (none, na, nb, out, ac, bc) ∧ OutHL lt a b out na nb ∧ 1 ≤ na ∧ na ≤ a.size ∧ 2 ≤ nb ∧ nb ≤ b.size ∧ na + nb + x + 1 + (if y = 0 then 0 else 1) ≤ a.size + b.size)
      (Q := fun c st' => Like st st' ∧ ((∃ r na nb out ac bc, c = (some r, na, nb, out, ac, bc) ∧ Rs lt a b r) ∨ ∃ na nb out ac bc, c = (none, na, nb, out, ac, bc) ∧ OutHL lt a b out na nb ∧ 1 ≤ na ∧ na ≤ a.size ∧ 2 ≤ nb ∧ nb ≤ b.size ∧ na + nb + x + 2 ≤ a.size + b.size)) ?_ ?_ ⟨lk, na, nb, out, 0, 0, rfl, ho, h1, h2, h3, h4, by simp; (first | lia | omega)⟩) ?_)
    · rintro y c st2 _ hy ⟨lk2, na, nb, out, ac, bc, rfl, ho, h1, h2, h3, h4, hxx⟩
      have hxx2 : na + nb + x + 1 ≤ a.size + b.size := by split at hxx <;> (first | lia | omega)
      try dsimp only
      refine wpS_bind (wpS_elem (by (first | lia | omega)) fun p hp ep => ?_)
      refine wpS_bind (wpS_elem (by (first | lia | omega)) fun q hq eq => ?_)
      refine wpS_bind (wpS_ltL hc (lk2.kind.trans hk) (hb p hp) (ha q hq) ?_)
      cases hbw : lt p q with
      | true =>
        try dsimp only
        rw [if_pos rfl]
        refine wpS_bind (wpS_elem (by (first | lia | omega)) fun p2 hp2 ep2 => ?_)
        have o1 := ho.pushA SA h1 ep2 (by rw [some_inj ep2 eq]; exact lastLe o SB (by (first | lia | omega)) ep (o.le_of hbw))
        by_cases d1 : (na - 1 == 0) = true
        · rw [if_pos d1]
          exact wpS_pure ⟨lk2, .inl ⟨_, _, _, _, _, _, rfl, (o1.doneA SB d1)⟩⟩
        rw [if_neg d1]
        have m1 : ¬ na - 1 = 0 := fun e => d1 (by simp [e])
        by_cases d2 : ac + 1 ≥ g
        · rw [if_pos d2]
          exact wpS_pure ⟨lk2, .inr ⟨_, _, _, _, _, rfl, o1, by (first | lia | omega), by (first | lia | omega), h3, h4, by (first | lia | omega)⟩⟩
        · rw [if_neg d2]
          exact wpS_pure ⟨lk2, _, _, _, _, _, rfl, o1, by (first | lia | omega), by (first | lia | omega), h3, h4, by rw [if_neg (by (first | lia | omega))]; (first | lia | omega)⟩
      | false =>
        try dsimp only
        rw [if_neg Bool.false_ne_true]
        refine wpS_bind (wpS_elem (by (first | lia | omega)) fun p2 hp2 ep2 => ?_)
        have o1 := ho.pushB SB (by (first | lia | omega)) ep2 (by rw [some_inj ep2 ep]; exact lastLe o SA h1 eq hbw)
        by_cases d1 : (nb - 1 == 1) = true
        · rw [if_pos d1]
          exact wpS_pure ⟨lk2, .inl ⟨_, _, _, _, _, _, rfl, (o1.firstL SA SB hb0 d1)⟩⟩
        rw [if_neg d1]
        have m1 : ¬ nb - 1 = 1 := fun e => d1 (by simp [e])
        by_cases d2 : bc + 1 ≥ g
        · rw [if_pos d2]
          exact wpS_pure ⟨lk2, .inr ⟨_, _, _, _, _, rfl, o1, h1, h2, by (first | lia | omega), by (first | lia | omega), by (first | lia | omega)⟩⟩
        · rw [if_neg d2]
          exact wpS_pure ⟨lk2, _, _, _, _, _, rfl, o1, h1, h2, by (first | lia | omega), by (first | lia | omega), by rw [if_neg (by (first | lia | omega))]; (first | lia | omega)⟩
    · rintro c st2 ⟨lk2, na, nb, out, ac, bc, rfl, ho, h1, h2, h3, h4, hxx⟩
      refine ⟨lk2, .inr ⟨_, _, _, _, _, rfl, ho, h1, h2, h3, h4, ?_⟩⟩
      rw [if_neg (by (first | lia | omega))] at hxx
      (first | lia | omega)
    · rintro c st2 ⟨lk2, ⟨r, na, nb, out, ac, bc, rfl, hr⟩ | ⟨na, nb, out, ac, bc, rfl, ho, h1, h2, h3, h4, hxx⟩⟩
      · exact wpS_pure ⟨lk2, _, _, _, _, _, rfl, hr⟩
      try dsimp -zeta only
      refine wpS_bind (wpS_lift (wpAny_rule ⟨rfl, ?_⟩))
      try dsimp -zeta only
      refine wpS_bind (wpS_mono (wpS_forRange (I := fun y c st' => Like st st' ∧ ∃ na nb out g ac bc, c = (none, na, nb, out, g, ac, bc) ∧ OutHL lt a b out na nb ∧ 1 ≤ na ∧ na ≤ a.size ∧ 2 ≤ nb ∧ nb ≤ b.size ∧ na + nb + x + 2 ≤ a.size + b.size)
        (Q := fun c st' => Like st st' ∧ ((∃ r na nb out g ac bc, c = (some r, na, nb, out, g, ac, bc) ∧ Rs lt a b r) ∨ ∃ na nb out g ac bc, c = (none, na, nb, out, g, ac, bc) ∧ OutHL lt a b out na nb ∧ 1 ≤ na ∧ na ≤ a.size ∧ 2 ≤ nb ∧ nb ≤ b.size ∧ na + nb + x + 2 ≤ a.size + b.size)) ?_ ?_ ⟨lk2, na, nb, out, _, _, _, rfl, ho, h1, h2, h3, h4, hxx⟩) ?_)
      · rintro y c st3 _ hy ⟨lk3, na, nb, out, g3, ac, bc, rfl, ho, h1, h2, h3, h4, hxx⟩
        try dsimp only
        refine wpS_mono (Q := HiP lt a b st x) ?_ (fun r st' h => by cases r <;> exact h)
        have hiq : ∀ {st4}, Like st st4 → HiQ lt a b st4 (na + nb) (HiP lt a b st x) := fun lk4 => ⟨fun r na nb out g ac bc hr => ⟨lk4, .inl ⟨r, na, nb, out, g, ac, bc, rfl, hr⟩⟩, fun na nb out g ac bc ho h1 h2 h3 h4 hN => ⟨⟨lk4, .inr ⟨na, nb, out, g, ac, bc, rfl, ho, h1, h2, h3, h4, by (first | lia | omega)⟩⟩, ⟨lk4, na, nb, out, g, ac, bc, rfl, ho, h1, h2, h3, h4, by (first | lia | omega)⟩⟩⟩
        by_cases g1 : g3 > 1
        · rw [if_pos g1]
          refine wpS_bind (wpS_modify ?_)
          have lk4 := lk3.trans (like_gallop st3 (g3 - 1))
          refine wpS_bind (wpS_elem (by (first | lia | omega)) fun p0 w0 e0 => ?_)
          refine wpS_bind (wpS_gallopL o hc (lk4.kind.trans hk) (hb p0 w0) ha (by (first | lia | omega)) (by (first | lia | omega)) (up_of SA _ _) fun k hk1 F1 F2 => ?_)
          dsimp only
          by_cases k0 : na - k > 0
          · rw [if_pos k0]
            have o1 := ho.extA SA (k := k) (by (first | lia | omega)) (fun x hx => lastLe o SB (by (first | lia | omega)) e0 (galHA F2 o x hx))
            by_cases c1 : (k == 0) = true
            · rw [if_pos c1]
              exact wpS_pure ⟨lk4, .inl ⟨_, _, _, _, _, _, _, rfl, (o1.doneA SB c1)⟩⟩
            rw [if_neg c1]
            have n1 : ¬ k = 0 := fun e => c1 (by simp [e])
            refine hi2_ok o hc (lk4.kind.trans hk) ha hb hb0 SA SB (N := na + nb) (hiq lk4) o1 (by (first | lia | omega)) (by (first | lia | omega)) h3 h4 (by (first | lia | omega)) (fun p e => by rw [some_inj e e0]; exact galHA1 F1) ?_
            exact fun _ _ => rfl
          · rw [if_neg k0]
            refine hi2_ok o hc (lk4.kind.trans hk) ha hb hb0 SA SB (N := na + nb) (hiq lk4) ho h1 h2 h3 h4 (Nat.le_refl _) (fun p e => by rw [some_inj e e0]; exact galHA1 fun i hi => F1 i (by (first | lia | omega))) ?_
            exact fun _ _ => rfl
        · rw [if_neg g1]
          refine wpS_bind (wpS_modify ?_)
          have lk4 := lk3.trans (like_gallop st3 g3)
          refine wpS_bind (wpS_elem (by (first | lia | omega)) fun p0 w0 e0 => ?_)
          refine wpS_bind (wpS_gallopL o hc (lk4.kind.trans hk) (hb p0 w0) ha (by (first | lia | omega)) (by (first | lia | omega)) (up_of SA _ _) fun k hk1 F1 F2 => ?_)
          dsimp only
          by_cases k0 : na - k > 0
          · rw [if_pos k0]
            have o1 := ho.extA SA (k := k) (by (first | lia | omega)) (fun x hx => lastLe o SB (by (first | lia | omega)) e0 (galHA F2 o x hx))
            by_cases c1 : (k == 0) = true
            · rw [if_pos c1]
              exact wpS_pure ⟨lk4, .inl ⟨_, _, _, _, _, _, _, rfl, (o1.doneA SB c1)⟩⟩
            rw [if_neg c1]
            have n1 : ¬ k = 0 := fun e => c1 (by simp [e])
            refine hi2_ok o hc (lk4.kind.trans hk) ha hb hb0 SA SB (N := na + nb) (hiq lk4) o1 (by (first | lia | omega)) (by (first | lia | omega)) h3 h4 (by (first | lia | omega)) (fun p e => by rw [some_inj e e0]; exact galHA1 F1) ?_
            exact fun _ _ => rfl
          · rw [if_neg k0]
            refine hi2_ok o hc (lk4.kind.trans hk) ha hb hb0 SA SB (N := na + nb) (hiq lk4) ho h1 h2 h3 h4 (Nat.le_refl _) (fun p e => by rw [some_inj e e0]; exact galHA1 fun i hi => F1 i (by (first | lia | omega))) ?_
            exact fun _ _ => rfl
      · rintro c st3 ⟨lk3, na, nb, out, g3, ac, bc, rfl, ho, h1, h2, h3, h4, hxx⟩
        exact ⟨lk3, .inr ⟨_, _, _, _, _, _, rfl, ho, h1, h2, h3, h4, hxx⟩⟩
      · rintro c st3 ⟨lk3, ⟨r, na, nb, out, g3, ac, bc, rfl, hr⟩ | ⟨na, nb, out, g3, ac, bc, rfl, ho, h1, h2, h3, h4, hxx⟩⟩
        · exact wpS_pure ⟨lk3, _, _, _, _, _, rfl, hr⟩
        · try dsimp only
          refine wpS_bind (wpS_modify ?_)
          exact wpS_pure ⟨lk3.trans (like_gallop _ _), _, _, _, _, rfl, ho, h1, h2, h3, h4, by (first | lia | omega)⟩
  · rintro c st1 ⟨lk, na, nb, out, g, rfl, ho, h1, h2, h3, h4, hx⟩
    exfalso
    (first | lia | omega)
  · rintro c st1 ⟨lk, r, na, nb, out, g, rfl, hr⟩
    exact wpS_pure (h r st1 lk hr)
end
end Srd

namespace Srd
open PySem PyProof.Rows Srt
/-- all but this piece is as it was -/
structure Pl (lo hi : Nat) (st st' : SortSt) : Prop where
  pm : Pm st st'
  out : ∀ i, i < lo ∨ hi ≤ i → (arrOf st')[i]? = (arrOf st)[i]?
theorem Pl.refl (lo hi : Nat) (st : SortSt) : Pl lo hi st st := ⟨Pm.refl _, fun _ _ => rfl⟩
theorem Pl.trans {lo hi : Nat} {a b c : SortSt} (x : Pl lo hi a b) (y : Pl lo hi b c) : Pl lo hi a c := ⟨x.pm.trans y.pm, fun i h => (y.out i h).trans (x.out i h)⟩
theorem Pl.mirror {lo hi i j : Nat} (st : SortSt) (h1 : lo ≤ i) (h2 : j ≤ hi) (hj : j ≤ (arrOf st).size) : Pl lo hi st (setArr st (mirror (arrOf st) i j ((j - i) / 2))) := ⟨Pm.mirror st i j, fun k hk => by
  show (PyProof.Rows.mirror (arrOf st) i j ((j - i) / 2))[k]? = _
  rw [getElem?_mirror_all hj, if_neg (by (first | lia | omega))]⟩
theorem Pl.bubble {lo hi src dst : Nat} (st : SortSt) (h1 : lo ≤ dst) (h2 : dst ≤ src) (h3 : src < hi) (hs : src < (arrOf st).size) : Pl lo hi st (setArr st (bubble (arrOf st) src (src - dst))) := ⟨Pm.bubble st src dst, fun k hk => by
  show (PyProof.Rows.bubble (arrOf st) src (src - dst))[k]? = _
  rw [getElem?_bubble hs _ (by (first | lia | omega)), if_neg (by (first | lia | omega)), if_neg (by (first | lia | omega))]⟩
section
variable {lt : Keyed → Keyed → Bool} {arr : Array Keyed} {lo hi m : Nat} {p q : Keyed}
/-- this piece falls -/
def Dn (lt : Keyed → Keyed → Bool) (arr : Array Keyed) (i j : Nat) : Prop := ∀ x y p q, i ≤ x → x < y → y < j → arr[x]? = some p → arr[y]? = some q → Le lt q p
/-- this piece is all alike -/
def Eqv (lt : Keyed → Keyed → Bool) (arr : Array Keyed) (i j : Nat) : Prop := ∀ x y p q, i ≤ x → x < j → i ≤ y → y < j → arr[x]? = some p → arr[y]? = some q → Le lt p q
theorem up_one : Up lt arr lo (lo + 1) := fun x y _ _ h1 h2 h3 => by (first | lia | omega)
theorem dn_one : Dn lt arr lo (lo + 1) := fun x y _ _ h1 h2 h3 => by (first | lia | omega)
theorem Up.ext (o : Swo lt) (h : Up lt arr lo m) (hm : lo < m) (hp : arr[m - 1]? = some p) (hq : arr[m]? = some q) (hle : Le lt p q) : Up lt arr lo (m + 1) := fun x y u v h1 h2 h3 eu ev => by
  by_cases hy : y < m
  · exact h x y u v h1 h2 hy eu ev
  obtain rfl : y = m := by (first | lia | omega)
  rw [hq] at ev
  cases ev
  by_cases hx : x = y - 1
  · rw [hx, hp] at eu
    cases eu
    exact hle
  · exact o.le_trans (h x (y - 1) u p h1 (by (first | lia | omega)) (by (first | lia | omega)) eu hp) hle
theorem Dn.ext (o : Swo lt) (h : Dn lt arr lo m) (hm : lo < m) (hp : arr[m - 1]? = some p) (hq : arr[m]? = some q) (hle : Le lt q p) : Dn lt arr lo (m + 1) := fun x y u v h1 h2 h3 eu ev => by
  by_cases hy : y < m
  · exact h x y u v h1 h2 hy eu ev
  obtain rfl : y = m := by (first | lia | omega)
  rw [hq] at ev
  cases ev
  by_cases hx : x = y - 1
  · rw [hx, hp] at eu
    cases eu
    exact hle
  · exact o.le_trans hle (h x (y - 1) u p h1 (by (first | lia | omega)) (by (first | lia | omega)) eu hp)
theorem Dn.mirror (h : Dn lt arr lo hi) (hs : hi ≤ arr.size) : Up lt (mirror arr lo hi ((hi - lo) / 2)) lo hi := fun x y u v h1 h2 h3 eu ev => by
  rw [getElem?_mirror_all hs, if_pos (by (first | lia | omega))] at eu ev
  exact h (lo + hi - 1 - y) (lo + hi - 1 - x) v u (by (first | lia | omega)) (by (first | lia | omega)) (by (first | lia | omega)) ev eu
theorem Up.mirror (h : Up lt arr lo hi) (hs : hi ≤ arr.size) : Dn lt (mirror arr lo hi ((hi - lo) / 2)) lo hi := fun x y u v h1 h2 h3 eu ev => by
  rw [getElem?_mirror_all hs, if_pos (by (first | lia | omega))] at eu ev
  exact h (lo + hi - 1 - y) (lo + hi - 1 - x) v u (by (first | lia | omega)) (by (first | lia | omega)) (by (first | lia | omega)) ev eu
/-- the alike ones turned round -/
theorem Dn.turn (h : Dn lt arr lo hi) (he : Eqv lt arr m hi) (hm : lo ≤ m) (hs : hi ≤ arr.size) : Dn lt (PyProof.Rows.mirror arr m hi ((hi - m) / 2)) lo hi := fun x y u v h1 h2 h3 eu ev => by
  rw [getElem?_mirror_all hs] at eu ev
  by_cases hy : m ≤ y ∧ y < hi
  · rw [if_pos hy] at ev
    by_cases hx : m ≤ x ∧ x < hi
    · rw [if_pos hx] at eu
      exact he _ _ _ _ (by (first | lia | omega)) (by (first | lia | omega)) (by (first | lia | omega)) (by (first | lia | omega)) ev eu
    · rw [if_neg hx] at eu
      exact h x (m + hi - 1 - y) u v h1 (by (first | lia | omega)) (by (first | lia | omega)) eu ev
  · rw [if_neg hy] at ev
    rw [if_neg (by (first | lia | omega))] at eu
    exact h x y u v h1 h2 h3 eu ev
end
section
variable {prog : Program} {w : World} {A : Around} {E : Value → Shared → Prop} {s : Shared} {κ : SortKind} {Ok : Keyed → Prop} {st : SortSt} {lt : Keyed → Keyed → Bool}
theorem wpS_ltAtL {i j : Nat} {Q : Option Bool → SortSt → Prop} (hc : CmpL prog w A s κ Ok lt) (hk : kindOf st = κ) (ho : ∀ p ∈ (arrOf st).toList, Ok p) (hi : i < (arrOf st).size) (hj : j < (arrOf st).size) (h : ∀ p q, (arrOf st)[i]? = some p → (arrOf st)[j]? = some q → Q (some (lt p q)) st) : wpS (model prog w) A E s (ltAt' i j) Q st := by
  rw [ltAt'_eq]
  refine wpS_bind (wpS_get ?_)
  refine wpS_bind (wpS_elem hi fun p hp e1 => wpS_bind (wpS_elem hj fun q hq e2 => ?_))
  exact wpS_ltL hc hk (ho p hp) (ho q hq) (h p q e1 e2)
theorem wpS_revX {i j : Nat} {Q : PUnit → SortSt → Prop} (h : Q ⟨⟩ (setArr st (mirror (arrOf st) i j ((j - i) / 2)))) : wpS (model prog w) A E s (reverseSlice' i j) Q st := by
  rw [reverseSlice'_eq]
  exact wpS_modify h
theorem wpS_moveX {i j : Nat} {Q : PUnit → SortSt → Prop} (h : Q ⟨⟩ (setArr st (bubble (arrOf st) i (i - j)))) : wpS (model prog w) A E s (moveDown' i j) Q st := by
  rw [moveDown'_eq]
  exact wpS_modify h
/-- put in at its place -/
theorem ins_up (o : Swo lt) {arr : Array Keyed} {lo k l : Nat} {pv : Keyed} (h : Up lt arr lo (lo + k)) (hs : lo + k < arr.size) (hl : l ≤ k) (ep : arr[lo + k]? = some pv) (h1 : ∀ i p, i < l → arr[lo + i]? = some p → Le lt p pv) (h2 : ∀ i p, l ≤ i → i < k → arr[lo + i]? = some p → lt pv p = true) :
    Up lt (bubble arr (lo + k) (lo + k - (lo + l))) lo (lo + k + 1) := fun x y u v a1 a2 a3 eu ev => by
  rw [getElem?_bubble hs _ (by (first | lia | omega))] at eu ev
  rw [show lo + k - (lo + k - (lo + l)) = lo + l by (first | lia | omega)] at eu ev
  by_cases hy : y = lo + l
  · rw [if_pos hy, ep] at ev
    cases ev
    rw [if_neg (by (first | lia | omega)), if_neg (by (first | lia | omega))] at eu
    exact h1 (x - lo) u (by (first | lia | omega)) (by rw [show lo + (x - lo) = x by (first | lia | omega)]; exact eu)
  rw [if_neg hy] at ev
  by_cases hx : x = lo + l
  · rw [if_pos hx, ep] at eu
    cases eu
    rw [if_pos (by (first | lia | omega))] at ev
    exact o.le_of (h2 (y - 1 - lo) v (by (first | lia | omega)) (by (first | lia | omega)) (by rw [show lo + (y - 1 - lo) = y - 1 by (first | lia | omega)]; exact ev))
  rw [if_neg hx] at eu
  by_cases hy2 : lo + l < y ∧ y ≤ lo + k
  · rw [if_pos hy2] at ev
    by_cases hx2 : lo + l < x ∧ x ≤ lo + k
    · rw [if_pos hx2] at eu
      exact h (x - 1) (y - 1) u v (by (first | lia | omega)) (by (first | lia | omega)) (by (first | lia | omega)) eu ev
    · rw [if_neg hx2] at eu
      exact h x (y - 1) u v (by (first | lia | omega)) (by (first | lia | omega)) (by (first | lia | omega)) eu ev
  · rw [if_neg hy2] at ev
    rw [if_neg (by (first | lia | omega))] at eu
    exact h x y u v (by (first | lia | omega)) (by (first | lia | omega)) (by (first | lia | omega)) eu ev
set_option maxHeartbeats 1000000 in
theorem wpS_binaryL {lo n ok : Nat} {Q : Bool → SortSt → Prop} (o : Swo lt) (hc : CmpL prog w A s κ Ok lt) (hk : kindOf st = κ) (ho : ∀ p ∈ (arrOf st).toList, Ok p) (hn : lo + n ≤ (arrOf st).size) (hok : ok ≤ n) (hn1 : 1 ≤ n) (hu : Up lt (arrOf st) lo (lo + ok)) (h : ∀ st', Pl lo (lo + n) st st' → Up lt (arrOf st') lo (lo + n) → Q true st') : wpS (model prog w) A E s (binarySort' lo n ok) Q st := by
  have hu0 : Up lt (arrOf st) lo (lo + max ok 1) := by
    by_cases h0 : ok = 0
    · rw [h0]
      exact up_one
    · rw [show max ok 1 = ok by (first | lia | omega)]
      exact hu
  refine wpS_bind (wpS_mono (wpS_forRange (I := fun x c st' => c = (none, ()) ∧ Pl lo (lo + n) st st' ∧ Up lt (arrOf st') lo (lo + x)) (Q := fun c st' => c = (none, ()) ∧ Pl lo (lo + n) st st' ∧ Up lt (arrOf st') lo (lo + n)) ?_ ?_ ⟨rfl, Pl.refl _ _ _, hu0⟩) ?_)
  · rintro k c st1 hk1 hkn ⟨rfl, pl, u1⟩
    try dsimp only
    have hsz := pl.pm.size
    obtain ⟨pv, epv⟩ : ∃ pv, (arrOf st1)[lo + k]? = some pv := ⟨_, getElem?_pos _ (lo + k) (by (first | lia | omega))⟩
    refine wpS_bind (wpS_mono (wpS_forRange (I := fun y c st' => st' = st1 ∧ ∃ l r, c = (none, l, r) ∧ l ≤ r ∧ r ≤ k ∧ (∀ i p, i < l → (arrOf st1)[lo + i]? = some p → Le lt p pv) ∧ (∀ i p, r ≤ i → i < k → (arrOf st1)[lo + i]? = some p → lt pv p = true) ∧ r - l + y ≤ k)
      (Q := fun c st' => st' = st1 ∧ ∃ l r, c = (none, l, r) ∧ l = r ∧ r ≤ k ∧ (∀ i p, i < l → (arrOf st1)[lo + i]? = some p → Le lt p pv) ∧ (∀ i p, r ≤ i → i < k → (arrOf st1)[lo + i]? = some p → lt pv p = true)) ?_ ?_ ⟨rfl, 0, k, rfl, by (first | lia | omega), by (first | lia | omega), fun i p hi => by (first | lia | omega), fun i p h1 h2 => by (first | lia | omega), by (first | lia | omega)⟩) ?_)
    · rintro y c st2 _ _ ⟨rfl, l, r, rfl, h1, h2, h3, h4, h5⟩
      try dsimp only
      by_cases hlr : l ≥ r
      · rw [if_pos hlr]
        exact wpS_pure ⟨rfl, l, r, rfl, by (first | lia | omega), h2, h3, h4⟩
      rw [if_neg hlr]
      refine wpS_bind (wpS_ltAtL hc (pl.pm.kind.trans hk) (pl.pm.ok ho) (by (first | lia | omega)) (by (first | lia | omega)) fun p q e1 e2 => ?_)
      rw [epv] at e1
      cases e1
      cases hb : lt pv q with
      | true =>
        refine wpS_pure ⟨rfl, _, _, rfl, by (first | lia | omega), by (first | lia | omega), h3, fun i p hi1 hi2 ei => ?_, by (first | lia | omega)⟩
        by_cases e : i = (l + r) / 2
        · rw [e, e2] at ei
          cases ei
          exact hb
        · exact o.lt_le hb (u1 _ _ q p (by (first | lia | omega)) (show lo + (l + r) / 2 < lo + i by (first | lia | omega)) (by (first | lia | omega)) e2 ei)
      | false =>
        refine wpS_pure ⟨rfl, _, _, rfl, by (first | lia | omega), by (first | lia | omega), fun i p hi1 ei => ?_, h4, by (first | lia | omega)⟩
        by_cases e : i = (l + r) / 2
        · rw [e, e2] at ei
          cases ei
          exact hb
        · exact o.le_trans (u1 _ _ p q (by (first | lia | omega)) (show lo + i < lo + (l + r) / 2 by (first | lia | omega)) (by (first | lia | omega)) ei e2) hb
    · rintro c st2 ⟨rfl, l, r, rfl, h1, h2, h3, h4, h5⟩
      exact ⟨rfl, l, r, rfl, by (first | lia | omega), h2, h3, h4⟩
    · rintro c st2 ⟨rfl, l, r, rfl, rfl, h2, h3, h4⟩
      try dsimp only
      refine wpS_bind (wpS_moveX ?_)
      exact wpS_pure ⟨rfl, pl.trans (Pl.bubble st2 (by (first | lia | omega)) (by (first | lia | omega)) (by (first | lia | omega)) (by (first | lia | omega))), ins_up o u1 (by (first | lia | omega)) h2 epv h3 h4⟩
  · rintro c st1 ⟨rfl, pl, u1⟩
    rw [show max (max ok 1) n = n by (first | lia | omega)] at u1
    exact ⟨rfl, pl, u1⟩
  · rintro c st1 ⟨rfl, pl, u1⟩
    exact wpS_pure (h st1 pl u1)
set_option maxHeartbeats 4000000 in
theorem wpS_countL {lo nrem : Nat} {Q : Option Nat → SortSt → Prop} (o : Swo lt) (hc : CmpL prog w A s κ Ok lt) (hk : kindOf st = κ) (ho : ∀ p ∈ (arrOf st).toList, Ok p) (h1 : 1 ≤ nrem) (hn : lo + nrem ≤ (arrOf st).size) (h : ∀ n st', 1 ≤ n → n ≤ nrem → Pl lo (lo + nrem) st st' → Up lt (arrOf st') lo (lo + n) → Q (some n) st') : wpS (model prog w) A E s (countRun' lo nrem) Q st := by
  refine wpS_bind (wpS_mono (wpS_forRange (I := fun x c st' => st' = st ∧ ∃ n, c = (none, n) ∧ n = x ∧ Up lt (arrOf st) lo (lo + n)) (Q := fun c st' => st' = st ∧ ∃ n, c = (none, n) ∧ 1 ≤ n ∧ n ≤ nrem ∧ Up lt (arrOf st) lo (lo + n) ∧ (n = nrem ∨ ∀ p q, (arrOf st)[lo + n]? = some p → (arrOf st)[lo + n - 1]? = some q → lt p q = true)) ?_ ?_ ⟨rfl, 1, rfl, rfl, up_one⟩) ?_)
  · rintro x c st1 hx1 hx ⟨rfl, n, rfl, rfl, u1⟩
    try dsimp only
    refine wpS_bind (wpS_ltAtL hc hk ho (by (first | lia | omega)) (by (first | lia | omega)) fun p q e1 e2 => ?_)
    cases hb : lt p q with
    | true => exact wpS_pure ⟨rfl, n, rfl, by (first | lia | omega), by (first | lia | omega), u1, .inr fun p' q' f1 f2 => by rw [e1] at f1; rw [e2] at f2; cases f1; cases f2; exact hb⟩
    | false => exact wpS_pure ⟨rfl, n + 1, rfl, rfl, u1.ext (m := lo + n) o (by (first | lia | omega)) e2 e1 hb⟩
  · rintro c st1 ⟨rfl, n, rfl, rfl, u1⟩
    exact ⟨rfl, _, rfl, by (first | lia | omega), by (first | lia | omega), u1, .inl (by (first | lia | omega))⟩
  · rintro c st1 ⟨rfl, n, rfl, n1, n2, u1, hstop⟩
    try dsimp only
    by_cases e1 : (n == nrem) = true
    · rw [if_pos e1]
      exact wpS_pure (h n st1 n1 n2 (Pl.refl _ _ _) u1)
    rw [if_neg e1]
    have n3 : n < nrem := by
      have : ¬ n = nrem := fun e => e1 (by simp [e])
      (first | lia | omega)
    have hstop2 := hstop.resolve_left (by (first | lia | omega))
    obtain ⟨pn, epn⟩ : ∃ p, (arrOf st1)[lo + n]? = some p := ⟨_, getElem?_pos _ (lo + n) (by (first | lia | omega))⟩
    obtain ⟨pm, epm⟩ : ∃ p, (arrOf st1)[lo + n - 1]? = some p := ⟨_, getElem?_pos _ (lo + n - 1) (by (first | lia | omega))⟩
    have hless := hstop2 pn pm epn epm
    by_cases e2 : n > 1
    · rw [if_pos e2]
      refine wpS_bind (wpS_ltAtL hc hk ho (by (first | lia | omega)) (by (first | lia | omega)) fun p q f1 f2 => ?_)
      cases hb : lt p q with
      | true =>
        try dsimp only
        rw [if_pos rfl]
        exact wpS_pure (h n st1 n1 n2 (Pl.refl _ _ _) u1)
      | false =>
        try dsimp only
        rw [if_neg Bool.false_ne_true]
        refine wpS_bind (wpS_revX ?_)
        have p2 := Pl.mirror (lo := lo) (hi := lo + nrem) (i := lo) (j := lo + n) st1 (by (first | lia | omega)) (by (first | lia | omega)) (by (first | lia | omega))
        have d2 : Dn lt (arrOf (setArr st1 (mirror (arrOf st1) lo (lo + n) ((lo + n - lo) / 2)))) lo (lo + n) := u1.mirror (by (first | lia | omega))
        have d3 : Dn lt (arrOf (setArr st1 (mirror (arrOf st1) lo (lo + n) ((lo + n - lo) / 2)))) lo (lo + (n + 1)) := by
          refine d2.ext (m := lo + n) o (by (first | lia | omega)) (p := p) (q := pn) ?_ ?_ ?_
          · show (mirror (arrOf st1) lo (lo + n) ((lo + n - lo) / 2))[lo + n - 1]? = some p
            rw [getElem?_mirror_all (by (first | lia | omega)), if_pos (by (first | lia | omega)), show lo + (lo + n) - 1 - (lo + n - 1) = lo by (first | lia | omega)]
            exact f1
          · show (mirror (arrOf st1) lo (lo + n) ((lo + n - lo) / 2))[lo + n]? = some pn
            rw [getElem?_mirror_all (by (first | lia | omega)), if_neg (by (first | lia | omega))]
            exact epn
          · rw [epm] at f2
            cases f2
            exact o.le_trans (o.le_of hless) hb
        generalize setArr st1 (mirror (arrOf st1) lo (lo + n) ((lo + n - lo) / 2)) = st2 at p2 d3
        refine wpS_bind (wpS_lift (wpAny_rule ⟨rfl, ?_⟩))
        refine wpS_bind (wpS_mono (wpS_forRange (I := fun x c st' => Pl lo (lo + nrem) st1 st' ∧ ∃ n q, c = (none, n, q) ∧ n = x ∧ 1 ≤ n ∧ q + 1 ≤ n ∧ Dn lt (arrOf st') lo (lo + n) ∧ Eqv lt (arrOf st') (lo + n - (q + 1)) (lo + n)) (Q := fun c st' => Pl lo (lo + nrem) st1 st' ∧ ∃ n q, c = (none, n, q) ∧ 1 ≤ n ∧ n ≤ nrem ∧ q + 1 ≤ n ∧ Dn lt (arrOf st') lo (lo + n) ∧ Eqv lt (arrOf st') (lo + n - (q + 1)) (lo + n)) ?_ ?_ ⟨p2, n + 1, 0, rfl, rfl, by (first | lia | omega), by (first | lia | omega), d3, fun x y u v a1 a2 a3 a4 eu ev => by obtain rfl : x = y := (by (first | lia | omega)); rw [eu] at ev; cases ev; exact o.le_refl _⟩) ?_)
        · rintro x c st3 hx1 hx ⟨p3, n, q, rfl, rfl, m1, m2, d3, q3⟩
          have z3 := p3.pm.size
          try dsimp only
          refine wpS_bind (wpS_ltAtL hc (p3.pm.kind.trans hk) (p3.pm.ok ho) (by (first | lia | omega)) (by (first | lia | omega)) fun p1 p0 e1 e0 => ?_)
          cases hb : lt p1 p0 with
          | true =>
            try dsimp only
            rw [if_pos rfl]
            by_cases q0 : q > 0
            · rw [if_pos q0]
              refine wpS_bind (wpS_revX ?_)
              have p4 := Pl.mirror (lo := lo) (hi := lo + nrem) (i := lo + n - (q + 1)) (j := lo + n) st3 (by (first | lia | omega)) (by (first | lia | omega)) (by (first | lia | omega))
              have d4 := d3.turn q3 (by (first | lia | omega)) (by (first | lia | omega))
              refine wpS_pure ⟨p3.trans p4, n + 1, 0, rfl, rfl, by (first | lia | omega), by (first | lia | omega), ?_, fun x y u v a1 a2 a3 a4 eu ev => by obtain rfl : x = y := (by (first | lia | omega)); rw [eu] at ev; cases ev; exact o.le_refl _⟩
              obtain ⟨p5, e5⟩ : ∃ p5, (arrOf (setArr st3 (mirror (arrOf st3) (lo + n - (q + 1)) (lo + n) ((lo + n - (lo + n - (q + 1))) / 2))))[lo + n - 1]? = some p5 := ⟨_, getElem?_pos _ (lo + n - 1) (by show _ < (mirror _ _ _ _).size; rw [mirror_size]; (first | lia | omega))⟩
              refine d4.ext (m := lo + n) o (by (first | lia | omega)) e5 (q := p1) ?_ ?_
              · show (mirror (arrOf st3) (lo + n - (q + 1)) (lo + n) ((lo + n - (lo + n - (q + 1))) / 2))[lo + n]? = some p1
                rw [getElem?_mirror_all (by (first | lia | omega)), if_neg (by (first | lia | omega))]
                exact e1
              · have e6 : (mirror (arrOf st3) (lo + n - (q + 1)) (lo + n) ((lo + n - (lo + n - (q + 1))) / 2))[lo + n - 1]? = some p5 := e5
                rw [getElem?_mirror_all (by (first | lia | omega)), if_pos (by (first | lia | omega))] at e6
                exact o.le_trans (o.le_of hb) (q3 _ _ p0 p5 (show lo + n - (q + 1) ≤ lo + n - 1 by (first | lia | omega)) (by (first | lia | omega)) (by (first | lia | omega)) (by (first | lia | omega)) e0 e6)
            · rw [if_neg q0]
              exact wpS_pure ⟨p3, n + 1, 0, rfl, rfl, by (first | lia | omega), by (first | lia | omega), d3.ext (m := lo + n) o (by (first | lia | omega)) e0 e1 (o.le_of hb), fun x y u v a1 a2 a3 a4 eu ev => by obtain rfl : x = y := (by (first | lia | omega)); rw [eu] at ev; cases ev; exact o.le_refl _⟩
          | false =>
            try dsimp only
            rw [if_neg Bool.false_ne_true]
            refine wpS_bind (wpS_ltAtL hc (p3.pm.kind.trans hk) (p3.pm.ok ho) (by (first | lia | omega)) (by (first | lia | omega)) fun p0' p1' e0' e1' => ?_)
            rw [e0] at e0'
            rw [e1] at e1'
            cases e0'
            cases e1'
            cases hb2 : lt p0 p1 with
            | true => exact wpS_pure ⟨p3, n, q, rfl, m1, by (first | lia | omega), m2, d3, q3⟩
            | false =>
              refine wpS_pure ⟨p3, n + 1, q + 1, rfl, rfl, by (first | lia | omega), by (first | lia | omega), d3.ext (m := lo + n) o (by (first | lia | omega)) e0 e1 hb2, fun x y u v a1 a2 a3 a4 eu ev => ?_⟩
              -- p0 and p1 alike
              have one : ∀ x u, lo + (n + 1) - (q + 1 + 1) ≤ x → x < lo + (n + 1) → (arrOf st3)[x]? = some u → Le lt u p0 ∧ Le lt p0 u := fun x u a1 a2 eu => by
                by_cases hx : x = lo + n
                · rw [hx, e1] at eu
                  cases eu
                  exact ⟨hb2, hb⟩
                · exact ⟨q3 x (lo + n - 1) u p0 (by (first | lia | omega)) (by (first | lia | omega)) (by (first | lia | omega)) (by (first | lia | omega)) eu e0, q3 (lo + n - 1) x p0 u (by (first | lia | omega)) (by (first | lia | omega)) (by (first | lia | omega)) (by (first | lia | omega)) e0 eu⟩
              exact o.le_trans (one x u a1 a2 eu).1 (one y v a3 a4 ev).2
        · rintro c st3 ⟨p3, n', q, rfl, rfl, m1, m2, d3, q3⟩
          exact ⟨p3, _, q, rfl, m1, by (first | lia | omega), m2, d3, q3⟩
        · rintro c st3 ⟨p3, n, q, rfl, m1, mn, m2, d3, q3⟩
          have z3 := p3.pm.size
          try dsimp only
          by_cases q0 : q > 0
          · rw [if_pos q0]
            refine wpS_bind (wpS_revX ?_)
            have p4 := Pl.mirror (lo := lo) (hi := lo + nrem) (i := lo + n - (q + 1)) (j := lo + n) st3 (by (first | lia | omega)) (by (first | lia | omega)) (by (first | lia | omega))
            have d4 := d3.turn q3 (by (first | lia | omega)) (by (first | lia | omega))
            have z4 := p4.pm.size
            generalize hst4 : setArr st3 (mirror (arrOf st3) (lo + n - (q + 1)) (lo + n) ((lo + n - (lo + n - (q + 1))) / 2)) = st4 at p4 z4
            have d5 : Dn lt (arrOf st4) lo (lo + n) := by rw [← hst4]; exact d4
            refine wpS_bind (wpS_revX ?_)
            have p6 := (p3.trans p4).trans (Pl.mirror (lo := lo) (hi := lo + nrem) (i := lo) (j := lo + n) st4 (by (first | lia | omega)) (by (first | lia | omega)) (by (first | lia | omega)))
            have u6 : Up lt (arrOf (setArr st4 (mirror (arrOf st4) lo (lo + n) ((lo + n - lo) / 2)))) lo (lo + n) := d5.mirror (by (first | lia | omega))
            have z6 := p6.pm.size
            generalize setArr st4 (mirror (arrOf st4) lo (lo + n) ((lo + n - lo) / 2)) = st5 at p6 u6 z6
            refine wpS_bind (wpS_mono (wpS_forRange (I := fun x c st' => st' = st5 ∧ ∃ k, c = (none, k) ∧ k = x ∧ Up lt (arrOf st5) lo (lo + k)) (Q := fun c st' => st' = st5 ∧ ∃ k, c = (none, k) ∧ n ≤ k ∧ k ≤ nrem ∧ Up lt (arrOf st5) lo (lo + k)) ?_ ?_ ⟨rfl, n, rfl, rfl, u6⟩) ?_)
            · rintro x c st7 hx1 hx2 ⟨rfl, k, rfl, rfl, u7⟩
              try dsimp only
              refine wpS_bind (wpS_ltAtL hc (p6.pm.kind.trans hk) (p6.pm.ok ho) (by (first | lia | omega)) (by (first | lia | omega)) fun p q e1 e2 => ?_)
              cases hb : lt p q with
              | true => exact wpS_pure ⟨rfl, k, rfl, by (first | lia | omega), by (first | lia | omega), u7⟩
              | false => exact wpS_pure ⟨rfl, k + 1, rfl, rfl, u7.ext (m := lo + k) o (by (first | lia | omega)) e2 e1 hb⟩
            · rintro c st7 ⟨rfl, k, rfl, rfl, u7⟩
              exact ⟨rfl, max n nrem, rfl, by (first | lia | omega), by (first | lia | omega), u7⟩
            · rintro c st7 ⟨rfl, k, rfl, k1, k2, u7⟩
              exact wpS_pure (h k _ (by (first | lia | omega)) k2 p6 u7)
          · rw [if_neg q0]
            refine wpS_bind (wpS_revX ?_)
            have p6 := p3.trans (Pl.mirror (lo := lo) (hi := lo + nrem) (i := lo) (j := lo + n) st3 (by (first | lia | omega)) (by (first | lia | omega)) (by (first | lia | omega)))
            have u6 : Up lt (arrOf (setArr st3 (mirror (arrOf st3) lo (lo + n) ((lo + n - lo) / 2)))) lo (lo + n) := d3.mirror (by (first | lia | omega))
            have z6 := p6.pm.size
            generalize setArr st3 (mirror (arrOf st3) lo (lo + n) ((lo + n - lo) / 2)) = st5 at p6 u6 z6
            refine wpS_bind (wpS_mono (wpS_forRange (I := fun x c st' => st' = st5 ∧ ∃ k, c = (none, k) ∧ k = x ∧ Up lt (arrOf st5) lo (lo + k)) (Q := fun c st' => st' = st5 ∧ ∃ k, c = (none, k) ∧ n ≤ k ∧ k ≤ nrem ∧ Up lt (arrOf st5) lo (lo + k)) ?_ ?_ ⟨rfl, n, rfl, rfl, u6⟩) ?_)
            · rintro x c st7 hx1 hx2 ⟨rfl, k, rfl, rfl, u7⟩
              try dsimp only
              refine wpS_bind (wpS_ltAtL hc (p6.pm.kind.trans hk) (p6.pm.ok ho) (by (first | lia | omega)) (by (first | lia | omega)) fun p q e1 e2 => ?_)
              cases hb : lt p q with
              | true => exact wpS_pure ⟨rfl, k, rfl, by (first | lia | omega), by (first | lia | omega), u7⟩
              | false => exact wpS_pure ⟨rfl, k + 1, rfl, rfl, u7.ext (m := lo + k) o (by (first | lia | omega)) e2 e1 hb⟩
            · rintro c st7 ⟨rfl, k, rfl, rfl, u7⟩
              exact ⟨rfl, max n nrem, rfl, by (first | lia | omega), by (first | lia | omega), u7⟩
            · rintro c st7 ⟨rfl, k, rfl, k1, k2, u7⟩
              exact wpS_pure (h k _ (by (first | lia | omega)) k2 p6 u7)
    · rw [if_neg e2]
      have p2 := Pl.refl lo (lo + nrem) st1
      have d3 : Dn lt (arrOf st1) lo (lo + (n + 1)) := by
        obtain rfl : n = 1 := by (first | lia | omega)
        exact dn_one.ext (m := lo + 1) o (by (first | lia | omega)) epm epn (o.le_of hless)
      refine wpS_bind (wpS_lift (wpAny_rule ⟨rfl, ?_⟩))
      refine wpS_bind (wpS_mono (wpS_forRange (I := fun x c st' => Pl lo (lo + nrem) st1 st' ∧ ∃ n q, c = (none, n, q) ∧ n = x ∧ 1 ≤ n ∧ q + 1 ≤ n ∧ Dn lt (arrOf st') lo (lo + n) ∧ Eqv lt (arrOf st') (lo + n - (q + 1)) (lo + n)) (Q := fun c st' => Pl lo (lo + nrem) st1 st' ∧ ∃ n q, c = (none, n, q) ∧ 1 ≤ n ∧ n ≤ nrem ∧ q + 1 ≤ n ∧ Dn lt (arrOf st') lo (lo + n) ∧ Eqv lt (arrOf st') (lo + n - (q + 1)) (lo + n)) ?_ ?_ ⟨p2, n + 1, 0, rfl, rfl, by (first | lia | omega), by (first | lia | omega), d3, fun x y u v a1 a2 a3 a4 eu ev => by obtain rfl : x = y := (by (first | lia | omega)); rw [eu] at ev; cases ev; exact o.le_refl _⟩) ?_)
      · rintro x c st3 hx1 hx ⟨p3, n, q, rfl, rfl, m1, m2, d3, q3⟩
        have z3 := p3.pm.size
        try dsimp only
        refine wpS_bind (wpS_ltAtL hc (p3.pm.kind.trans hk) (p3.pm.ok ho) (by (first | lia | omega)) (by (first | lia | omega)) fun p1 p0 e1 e0 => ?_)
        cases hb : lt p1 p0 with
        | true =>
          try dsimp only
          rw [if_pos rfl]
          by_cases q0 : q > 0
          · rw [if_pos q0]
            refine wpS_bind (wpS_revX ?_)
            have p4 := Pl.mirror (lo := lo) (hi := lo + nrem) (i := lo + n - (q + 1)) (j := lo + n) st3 (by (first | lia | omega)) (by (first | lia | omega)) (by (first | lia | omega))
            have d4 := d3.turn q3 (by (first | lia | omega)) (by (first | lia | omega))
            refine wpS_pure ⟨p3.trans p4, n + 1, 0, rfl, rfl, by (first | lia | omega), by (first | lia | omega), ?_, fun x y u v a1 a2 a3 a4 eu ev => by obtain rfl : x = y := (by (first | lia | omega)); rw [eu] at ev; cases ev; exact o.le_refl _⟩
            obtain ⟨p5, e5⟩ : ∃ p5, (arrOf (setArr st3 (mirror (arrOf st3) (lo + n - (q + 1)) (lo + n) ((lo + n - (lo + n - (q + 1))) / 2))))[lo + n - 1]? = some p5 := ⟨_, getElem?_pos _ (lo + n - 1) (by show _ < (mirror _ _ _ _).size; rw [mirror_size]; (first | lia | omega))⟩
            refine d4.ext (m := lo + n) o (by (first | lia | omega)) e5 (q := p1) ?_ ?_
            · show (mirror (arrOf st3) (lo + n - (q + 1)) (lo + n) ((lo + n - (lo + n - (q + 1))) / 2))[lo + n]? = some p1
              rw [getElem?_mirror_all (by (first | lia | omega)), if_neg (by (first | lia | omega))]
              exact e1
            · have e6 : (mirror (arrOf st3) (lo + n - (q + 1)) (lo + n) ((lo + n - (lo + n - (q + 1))) / 2))[lo + n - 1]? = some p5 := e5
              rw [getElem?_mirror_all (by (first | lia | omega)), if_pos (by (first | lia | omega))] at e6
              exact o.le_trans (o.le_of hb) (q3 _ _ p0 p5 (show lo + n - (q + 1) ≤ lo + n - 1 by (first | lia | omega)) (by (first | lia | omega)) (by (first | lia | omega)) (by (first | lia | omega)) e0 e6)
          · rw [if_neg q0]
            exact wpS_pure ⟨p3, n + 1, 0, rfl, rfl, by (first | lia | omega), by (first | lia | omega), d3.ext (m := lo + n) o (by (first | lia | omega)) e0 e1 (o.le_of hb), fun x y u v a1 a2 a3 a4 eu ev => by obtain rfl : x = y := (by (first | lia | omega)); rw [eu] at ev; cases ev; exact o.le_refl _⟩
        | false =>
          try dsimp only
          rw [if_neg Bool.false_ne_true]
          refine wpS_bind (wpS_ltAtL hc (p3.pm.kind.trans hk) (p3.pm.ok ho) (by (first | lia | omega)) (by (first | lia | omega)) fun p0' p1' e0' e1' => ?_)
          rw [e0] at e0'
          rw [e1] at e1'
          cases e0'
          cases e1'
          cases hb2 : lt p0 p1 with
          | true => exact wpS_pure ⟨p3, n, q, rfl, m1, by (first | lia | omega), m2, d3, q3⟩
          | false =>
            refine wpS_pure ⟨p3, n + 1, q + 1, rfl, rfl, by (first | lia | omega), by (first | lia | omega), d3.ext (m := lo + n) o (by (first | lia | omega)) e0 e1 hb2, fun x y u v a1 a2 a3 a4 eu ev => ?_⟩
            -- p0 and p1 alike
            have one : ∀ x u, lo + (n + 1) - (q + 1 + 1) ≤ x → x < lo + (n + 1) → (arrOf st3)[x]? = some u → Le lt u p0 ∧ Le lt p0 u := fun x u a1 a2 eu => by
              by_cases hx : x = lo + n
              · rw [hx, e1] at eu
                cases eu
                exact ⟨hb2, hb⟩
              · exact ⟨q3 x (lo + n - 1) u p0 (by (first | lia | omega)) (by (first | lia | omega)) (by (first | lia | omega)) (by (first | lia | omega)) eu e0, q3 (lo + n - 1) x p0 u (by (first | lia | omega)) (by (first | lia | omega)) (by (first | lia | omega)) (by (first | lia | omega)) e0 eu⟩
            exact o.le_trans (one x u a1 a2 eu).1 (one y v a3 a4 ev).2
      · rintro c st3 ⟨p3, n', q, rfl, rfl, m1, m2, d3, q3⟩
        exact ⟨p3, _, q, rfl, m1, by (first | lia | omega), m2, d3, q3⟩
      · rintro c st3 ⟨p3, n, q, rfl, m1, mn, m2, d3, q3⟩
        have z3 := p3.pm.size
        try dsimp only
        by_cases q0 : q > 0
        · rw [if_pos q0]
          refine wpS_bind (wpS_revX ?_)
          have p4 := Pl.mirror (lo := lo) (hi := lo + nrem) (i := lo + n - (q + 1)) (j := lo + n) st3 (by (first | lia | omega)) (by (first | lia | omega)) (by (first | lia | omega))
          have d4 := d3.turn q3 (by (first | lia | omega)) (by (first | lia | omega))
          have z4 := p4.pm.size
          generalize hst4 : setArr st3 (mirror (arrOf st3) (lo + n - (q + 1)) (lo + n) ((lo + n - (lo + n - (q + 1))) / 2)) = st4 at p4 z4
          have d5 : Dn lt (arrOf st4) lo (lo + n) := by rw [← hst4]; exact d4
          refine wpS_bind (wpS_revX ?_)
          have p6 := (p3.trans p4).trans (Pl.mirror (lo := lo) (hi := lo + nrem) (i := lo) (j := lo + n) st4 (by (first | lia | omega)) (by (first | lia | omega)) (by (first | lia | omega)))
          have u6 : Up lt (arrOf (setArr st4 (mirror (arrOf st4) lo (lo + n) ((lo + n - lo) / 2)))) lo (lo + n) := d5.mirror (by (first | lia | omega))
          have z6 := p6.pm.size
          generalize setArr st4 (mirror (arrOf st4) lo (lo + n) ((lo + n - lo) / 2)) = st5 at p6 u6 z6
          refine wpS_bind (wpS_mono (wpS_forRange (I := fun x c st' => st' = st5 ∧ ∃ k, c = (none, k) ∧ k = x ∧ Up lt (arrOf st5) lo (lo + k)) (Q := fun c st' => st' = st5 ∧ ∃ k, c = (none, k) ∧ n ≤ k ∧ k ≤ nrem ∧ Up lt (arrOf st5) lo (lo + k)) ?_ ?_ ⟨rfl, n, rfl, rfl, u6⟩) ?_)
          · rintro x c st7 hx1 hx2 ⟨rfl, k, rfl, rfl, u7⟩
            try dsimp only
            refine wpS_bind (wpS_ltAtL hc (p6.pm.kind.trans hk) (p6.pm.ok ho) (by (first | lia | omega)) (by (first | lia | omega)) fun p q e1 e2 => ?_)
            cases hb : lt p q with
            | true => exact wpS_pure ⟨rfl, k, rfl, by (first | lia | omega), by (first | lia | omega), u7⟩
            | false => exact wpS_pure ⟨rfl, k + 1, rfl, rfl, u7.ext (m := lo + k) o (by (first | lia | omega)) e2 e1 hb⟩
          · rintro c st7 ⟨rfl, k, rfl, rfl, u7⟩
            exact ⟨rfl, max n nrem, rfl, by (first | lia | omega), by (first | lia | omega), u7⟩
          · rintro c st7 ⟨rfl, k, rfl, k1, k2, u7⟩
            exact wpS_pure (h k _ (by (first | lia | omega)) k2 p6 u7)
        · rw [if_neg q0]
          refine wpS_bind (wpS_revX ?_)
          have p6 := p3.trans (Pl.mirror (lo := lo) (hi := lo + nrem) (i := lo) (j := lo + n) st3 (by (first | lia | omega)) (by (first | lia | omega)) (by (first | lia | omega)))
          have u6 : Up lt (arrOf (setArr st3 (mirror (arrOf st3) lo (lo + n) ((lo + n - lo) / 2)))) lo (lo + n) := d3.mirror (by (first | lia | omega))
          have z6 := p6.pm.size
          generalize setArr st3 (mirror (arrOf st3) lo (lo + n) ((lo + n - lo) / 2)) = st5 at p6 u6 z6
          refine wpS_bind (wpS_mono (wpS_forRange (I := fun x c st' => st' = st5 ∧ ∃ k, c = (none, k) ∧ k = x ∧ Up lt (arrOf st5) lo (lo + k)) (Q := fun c st' => st' = st5 ∧ ∃ k, c = (none, k) ∧ n ≤ k ∧ k ≤ nrem ∧ Up lt (arrOf st5) lo (lo + k)) ?_ ?_ ⟨rfl, n, rfl, rfl, u6⟩) ?_)
          · rintro x c st7 hx1 hx2 ⟨rfl, k, rfl, rfl, u7⟩
            try dsimp only
            refine wpS_bind (wpS_ltAtL hc (p6.pm.kind.trans hk) (p6.pm.ok ho) (by (first | lia | omega)) (by (first | lia | omega)) fun p q e1 e2 => ?_)
            cases hb : lt p q with
            | true => exact wpS_pure ⟨rfl, k, rfl, by (first | lia | omega), by (first | lia | omega), u7⟩
            | false => exact wpS_pure ⟨rfl, k + 1, rfl, rfl, u7.ext (m := lo + k) o (by (first | lia | omega)) e2 e1 hb⟩
          · rintro c st7 ⟨rfl, k, rfl, rfl, u7⟩
            exact ⟨rfl, max n nrem, rfl, by (first | lia | omega), by (first | lia | omega), u7⟩
          · rintro c st7 ⟨rfl, k, rfl, k1, k2, u7⟩
            exact wpS_pure (h k _ (by (first | lia | omega)) k2 p6 u7)
end
end Srd

namespace Srd
open PySem PyProof.Rows Srt
theorem cov_ge : ∀ {l : List (Nat × Nat × Nat)} {lo hi : Nat}, Cov l lo hi → ∀ z ∈ l, lo ≤ z.1
  | [], _, _, _, z, hz => (nomatch hz)
  | x :: r, lo, hi, ⟨a, b, c⟩, z, hz => by
    rcases List.mem_cons.mp hz with rfl | hz
    · (first | lia | omega)
    · have := cov_ge c z hz
      (first | lia | omega)
theorem cov_hi : ∀ {l : List (Nat × Nat × Nat)} {lo hi : Nat}, Cov l lo hi → ∀ z ∈ l, z.1 + z.2.1 ≤ hi
  | [], _, _, _, z, hz => (nomatch hz)
  | x :: r, lo, hi, ⟨a, b, c⟩, z, hz => by
    rcases List.mem_cons.mp hz with rfl | hz
    · have := c.le
      (first | lia | omega)
    · exact cov_hi c z hz
/-- the runs that are not put together -/
theorem cov_others : ∀ {l : List (Nat × Nat × Nat)} {i lo hi sa na p sb nb q : Nat}, Cov l lo hi → l[i]? = some (sa, na, p) → l[i + 1]? = some (sb, nb, q) →
    ∀ z ∈ (l.set i (sa, na + nb, p)).eraseIdx (i + 1), z = (sa, na + nb, p) ∨ z ∈ l ∧ (z.1 + z.2.1 ≤ sa ∨ sb + nb ≤ z.1)
  | x :: y :: r, 0, lo, hi, sa, na, p, sb, nb, q, ⟨a, b, c1, c2, c3⟩, h1, h2, z, hz => by
    have e1 : x = (sa, na, p) := by simpa using h1
    have e2 : y = (sb, nb, q) := by simpa using h2
    subst e1
    subst e2
    have hz' : z ∈ (sa, na + nb, p) :: r := hz
    rcases List.mem_cons.mp hz' with hz | hz
    · exact .inl hz
    · refine .inr ⟨List.mem_cons_of_mem _ (List.mem_cons_of_mem _ hz), .inr ?_⟩
      have := cov_ge c3 z hz
      have c1' : sb = lo + na := c1
      have this' : lo + na + nb ≤ z.1 := this
      (first | lia | omega)
  | x :: r, i + 1, lo, hi, sa, na, p, sb, nb, q, ⟨a, b, c⟩, h1, h2, z, hz => by
    have h1' : r[i]? = some (sa, na, p) := by simpa using h1
    have hz' : z ∈ x :: ((r.set i (sa, na + nb, p)).eraseIdx (i + 1)) := hz
    rcases List.mem_cons.mp hz' with rfl | hz
    · refine .inr ⟨List.mem_cons_self .., .inl ?_⟩
      have := cov_ge c _ (List.mem_of_getElem? h1')
      have this' : lo + z.2.1 ≤ sa := this
      (first | lia | omega)
    · rcases cov_others (l := r) (i := i) c h1' (by simpa using h2) z hz with h | ⟨h, h'⟩
      · exact .inl h
      · exact .inr ⟨List.mem_cons_of_mem _ h, h'⟩
  | [x], 0, _, _, _, _, _, _, _, _, _, _, h2, _, _ => by simp at h2
  | [], _, _, _, _, _, _, _, _, _, _, h1, _, _, _ => by simp at h1
/-- an item of a list with a piece put in -/
theorem splice_get {L r : List Keyed} {m : Nat} (h : m + r.length ≤ L.length) (x : Nat) : (L.take m ++ r ++ L.drop (m + r.length))[x]? = if x < m then L[x]? else if x < m + r.length then r[x - m]? else L[x]? := by
  have hm : (L.take m).length = m := by rw [List.length_take]; (first | lia | omega)
  by_cases h1 : x < m
  · rw [if_pos h1, List.append_assoc, List.getElem?_append_left (by (first | lia | omega)), List.getElem?_take_of_lt h1]
  rw [if_neg h1]
  by_cases h2 : x < m + r.length
  · rw [if_pos h2, List.getElem?_append_left (by rw [List.length_append]; (first | lia | omega)), List.getElem?_append_right (by (first | lia | omega)), hm]
  · rw [if_neg h2, List.getElem?_append_right (by rw [List.length_append]; (first | lia | omega)), List.getElem?_drop, List.length_append, hm]
    congr 1
    (first | lia | omega)
section
variable {lt : Keyed → Keyed → Bool} {κ : SortKind}
/-- some order of what was given, the runs cover it up to here, and each rises -/
structure SBL (lt : Keyed → Keyed → Bool) (a₀ : Array Keyed) (κ : SortKind) (hi : Nat) (st : SortSt) : Prop where
  sb : SB a₀ κ hi st
  ups : ∀ z ∈ (pendingOf st).toList, Up lt (arrOf st) z.1 (z.1 + z.2.1)
theorem Up.same {arr arr' : Array Keyed} {i j : Nat} (h : Up lt arr i j) (e : ∀ x, i ≤ x → x < j → arr'[x]? = arr[x]?) : Up lt arr' i j := fun x y p q h1 h2 h3 ep eq => by
  rw [e x (by (first | lia | omega)) (by (first | lia | omega))] at ep
  rw [e y (by (first | lia | omega)) (by (first | lia | omega))] at eq
  exact h x y p q h1 h2 h3 ep eq
theorem SBL.pl {a₀ : Array Keyed} {hi hi' : Nat} {st st' : SortSt} (x : SBL lt a₀ κ hi st) (p : Pl hi hi' st st') : SBL lt a₀ κ hi st' := ⟨x.sb.pm p.pm, fun z hz => by
  rw [p.pm.pend] at hz
  have h1 := cov_hi x.sb.cov z hz
  exact (x.ups z hz).same fun i _ h => p.out i (.inl (by (first | lia | omega)))⟩
end
end Srd

namespace Srd
open PySem PyProof.Rows Srt
section
variable {prog : Program} {w : World} {A : Around} {E : Value → Shared → Prop} {s : Shared} {κ : SortKind} {Ok : Keyed → Prop} {st : SortSt} {lt : Keyed → Keyed → Bool}
set_option maxHeartbeats 4000000 in
theorem wpS_mergeAtL {a₀ : Array Keyed} {hi i : Nat} {Q : Bool → SortSt → Prop} (o : Swo lt) (hc : CmpL prog w A s κ Ok lt) (h0 : ∀ p ∈ a₀.toList, Ok p) (hL : SBL lt a₀ κ hi st) (hh : hi ≤ a₀.size) (hi1 : i + 1 < (pendingOf st).size)
    (h : ∀ st', SBL lt a₀ κ hi st' → (∀ x, hi ≤ x → (arrOf st')[x]? = (arrOf st)[x]?) → (pendingOf st').size + 1 = (pendingOf st).size → Q true st') : wpS (model prog w) A E s (mergeAt' i) Q st := by
  have hB := hL.sb
  refine wpS_bind (wpS_get ?_)
  obtain ⟨⟨sa, na, p⟩, e1⟩ : ∃ x, (pendingOf st)[i]? = some x := ⟨_, getElem?_pos _ i (by (first | lia | omega))⟩
  obtain ⟨⟨sb, nb, q⟩, e2⟩ : ∃ x, (pendingOf st)[i + 1]? = some x := ⟨_, getElem?_pos _ (i + 1) hi1⟩
  obtain ⟨k1, k2, k3, k4, k5⟩ := hB.cov.at (i := i) (by rw [← e1]; simp) (by rw [← e2]; simp)
  have e3 : ((pendingOf st)[i]?, (pendingOf st)[i + 1]?) = (some (sa, na, p), some (sb, nb, q)) := by rw [e1, e2]
  have hsz := hB.size
  have l1 : (pendingOf st).toList[i]? = some (sa, na, p) := by rw [← e1]; simp
  have l2 : (pendingOf st).toList[i + 1]? = some (sb, nb, q) := by rw [← e2]; simp
  have ua : Up lt (arrOf st) sa (sa + na) := hL.ups _ (List.mem_of_getElem? l1)
  have ub : Up lt (arrOf st) sb (sb + nb) := hL.ups _ (List.mem_of_getElem? l2)
  have oth := cov_others hB.cov l1 l2
  show wpS _ _ _ _ (match ((pendingOf st)[i]?, (pendingOf st)[i + 1]?) with | (some (sa, na, power), some (sb, nb, _)) => _ | _ => _) Q st
  rw [e1, e2]
  dsimp only
  have hpl : (((pendingOf st).setIfInBounds i (sa, na + nb, p)).eraseIdxIfInBounds (i + 1)).toList = ((pendingOf st).toList.set i (sa, na + nb, p)).eraseIdx (i + 1) := by
    simp
  have hps : ((((pendingOf st).setIfInBounds i (sa, na + nb, p)).eraseIdxIfInBounds (i + 1)).size + 1 = (pendingOf st).size) := by
    have := congrArg List.length hpl
    rw [Array.length_toList, List.length_eraseIdx, List.length_set, Array.length_toList, if_pos hi1] at this
    (first | lia | omega)
  have hB1 : SB a₀ κ hi (SortSt.mk' (kindOf st) (arrOf st) (((pendingOf st).setIfInBounds i (sa, na + nb, p)).eraseIdxIfInBounds (i + 1)) (gallopOf st) (failedOf st)) := ⟨hB.arr, hB.kind, hB.fail, by
    show Cov (((pendingOf st).setIfInBounds i (sa, na + nb, p)).eraseIdxIfInBounds (i + 1)).toList 0 hi
    rw [hpl]
    exact k5⟩
  have hok := hB.ok h0
  have fin : ∀ st' : SortSt, SB a₀ κ hi st' → (pendingOf st').toList = ((pendingOf st).toList.set i (sa, na + nb, p)).eraseIdx (i + 1) → (∀ x, x < sa ∨ sb + nb ≤ x → (arrOf st')[x]? = (arrOf st)[x]?) → Up lt (arrOf st') sa (sa + (na + nb)) → SBL lt a₀ κ hi st' := fun st' hB' hp he hu => ⟨hB', fun z hz => by
    rw [hp] at hz
    rcases oth z hz with rfl | ⟨hz, hd⟩
    · exact hu
    · exact (hL.ups z hz).same fun x h1 h2 => he x (by (first | lia | omega))⟩
  have exm : ∀ (arr : Array Keyed) (x y : Nat) {p : Keyed}, p ∈ (arr.extract x y).toList → p ∈ arr.toList := fun arr x y p hp => by
    rw [Array.toList_extract, List.extract_eq_drop_take] at hp
    exact List.mem_of_mem_drop (List.mem_of_mem_take hp)
  refine wpS_bind (wpS_set ?_)
  refine wpS_bind (wpS_elem (arr := arrOf st) (by (first | lia | omega)) fun p1 m1 ep1 => ?_)
  refine wpS_bind (wpS_gallopL (a := arrOf st) o hc hB1.kind (hok p1 m1) hok (by (first | lia | omega)) (by (first | lia | omega)) ua fun k hk F1 F2 => ?_)
  dsimp only
  have low1 : ∀ i u, i < k → (arrOf st)[sa + i]? = some u → Le lt u p1 := fun i u hi eu => by
    have h3 := F1 i hi
    unfold BV at h3
    rw [eu] at h3
    have h4 : (!lt p1 u) = true := h3
    show lt p1 u = false
    simpa using h4
  have hig1 : ∀ i u, k ≤ i → i < na → (arrOf st)[sa + i]? = some u → Le lt p1 u := fun i u h1 h2 eu => by
    have h3 := F2 i h1 h2
    unfold BV at h3
    rw [eu] at h3
    have h4 : (!lt p1 u) = false := h3
    exact o.le_of (by simpa using h4)
  have p1le : ∀ y v, sb ≤ y → y < sb + nb → (arrOf st)[y]? = some v → Le lt p1 v := fun y v h1 h2 ev => by
    by_cases e : y = sb
    · rw [e, ep1] at ev
      cases ev
      exact o.le_refl _
    · exact ub sb y p1 v (by (first | lia | omega)) (by (first | lia | omega)) h2 ep1 ev
  by_cases c1 : (na - k == 0) = true
  · rw [if_pos c1]
    have ek : k = na := by
      have := eq_of_beq c1
      (first | lia | omega)
    refine wpS_pure (h _ (fin _ hB1 hpl (fun _ _ => rfl) ?_) (fun _ _ => rfl) hps)
    intro x y u v a1 a2 a3 eu ev
    have eu' : (arrOf st)[x]? = some u := eu
    have ev' : (arrOf st)[y]? = some v := ev
    by_cases hy : y < sb
    · exact ua x y u v a1 a2 (by (first | lia | omega)) eu' ev'
    by_cases hx : sb ≤ x
    · exact ub x y u v hx a2 (by (first | lia | omega)) eu' ev'
    exact o.le_trans (low1 (x - sa) u (by (first | lia | omega)) (by rw [show sa + (x - sa) = x by (first | lia | omega)]; exact eu')) (p1le y v (by (first | lia | omega)) (by (first | lia | omega)) ev')
  rw [if_neg c1]
  have n1 : ¬ na - k = 0 := fun e => c1 (by simp [e])
  refine wpS_bind (wpS_elem (arr := arrOf st) (by (first | lia | omega)) fun p2 m2 ep2 => ?_)
  refine wpS_bind (wpS_gallopL (a := arrOf st) o hc hB1.kind (hok p2 m2) hok (by (first | lia | omega)) (by (first | lia | omega)) ub fun nb' hnb G1 G2 => ?_)
  dsimp only
  have ep2' : (arrOf st)[sb - 1]? = some p2 := by
    rw [← ep2]
    congr 1
    (first | lia | omega)
  have lep2 : ∀ x u, sa ≤ x → x < sb → (arrOf st)[x]? = some u → Le lt u p2 := fun x u h1 h2 eu => by
    by_cases e : x = sb - 1
    · rw [e, ep2'] at eu
      cases eu
      exact o.le_refl _
    · exact ua x (sb - 1) u p2 h1 (by (first | lia | omega)) (by (first | lia | omega)) eu ep2'
  have low2 : ∀ i u, i < nb' → (arrOf st)[sb + i]? = some u → Le lt u p2 := fun i u hi eu => by
    have h3 := G1 i hi
    unfold BV at h3
    rw [eu] at h3
    exact o.le_of h3
  have hig2 : ∀ i u, nb' ≤ i → i < nb → (arrOf st)[sb + i]? = some u → Le lt p2 u := fun i u h1 h2 eu => by
    have h3 := G2 i h1 h2
    unfold BV at h3
    rw [eu] at h3
    exact h3
  by_cases c2 : (nb' == 0) = true
  · rw [if_pos c2]
    have ek : nb' = 0 := eq_of_beq c2
    refine wpS_pure (h _ (fin _ hB1 hpl (fun _ _ => rfl) ?_) (fun _ _ => rfl) hps)
    intro x y u v a1 a2 a3 eu ev
    have eu' : (arrOf st)[x]? = some u := eu
    have ev' : (arrOf st)[y]? = some v := ev
    by_cases hy : y < sb
    · exact ua x y u v a1 a2 (by (first | lia | omega)) eu' ev'
    by_cases hx : sb ≤ x
    · exact ub x y u v hx a2 (by (first | lia | omega)) eu' ev'
    exact o.le_trans (lep2 x u a1 (by (first | lia | omega)) eu') (hig2 (y - sb) v (by (first | lia | omega)) (by (first | lia | omega)) (by rw [show sb + (y - sb) = y by (first | lia | omega)]; exact ev'))
  rw [if_neg c2]
  have n2 : ¬ nb' = 0 := fun e => c2 (by simp [e])
  have xs : ((arrOf st).extract (sa + k) sb).size = na - k := by
    rw [Array.size_extract]
    (first | lia | omega)
  have ys : ((arrOf st).extract sb (sb + nb')).size = nb' := by
    rw [Array.size_extract]
    (first | lia | omega)
  have SX : So lt ((arrOf st).extract (sa + k) sb).toList := List.pairwise_iff_getElem.mpr fun x y hx hy hxy => by
    rw [Array.length_toList] at hx hy
    have ex : ((arrOf st).extract (sa + k) sb)[x]? = (arrOf st)[sa + k + x]? := by rw [Array.getElem?_extract, if_pos (by (first | lia | omega))]
    have ey : ((arrOf st).extract (sa + k) sb)[y]? = (arrOf st)[sa + k + y]? := by rw [Array.getElem?_extract, if_pos (by (first | lia | omega))]
    rw [← Array.getElem?_toList, List.getElem?_eq_getElem (by rw [Array.length_toList]; exact hx)] at ex
    rw [← Array.getElem?_toList, List.getElem?_eq_getElem (by rw [Array.length_toList]; exact hy)] at ey
    exact ua _ _ _ _ (by (first | lia | omega)) (show sa + k + x < sa + k + y by (first | lia | omega)) (by (first | lia | omega)) ex.symm ey.symm
  have SY : So lt ((arrOf st).extract sb (sb + nb')).toList := List.pairwise_iff_getElem.mpr fun x y hx hy hxy => by
    rw [Array.length_toList] at hx hy
    have ex : ((arrOf st).extract sb (sb + nb'))[x]? = (arrOf st)[sb + x]? := by rw [Array.getElem?_extract, if_pos (by (first | lia | omega))]
    have ey : ((arrOf st).extract sb (sb + nb'))[y]? = (arrOf st)[sb + y]? := by rw [Array.getElem?_extract, if_pos (by (first | lia | omega))]
    rw [← Array.getElem?_toList, List.getElem?_eq_getElem (by rw [Array.length_toList]; exact hx)] at ex
    rw [← Array.getElem?_toList, List.getElem?_eq_getElem (by rw [Array.length_toList]; exact hy)] at ey
    exact ub _ _ _ _ (by (first | lia | omega)) (show sb + x < sb + y by (first | lia | omega)) (by (first | lia | omega)) ex.symm ey.symm
  have HB0 : ∀ p, ((arrOf st).extract sb (sb + nb'))[0]? = some p → ∀ y ∈ ((arrOf st).extract (sa + k) sb).toList, Le lt p y := fun p ep y hy => by
    rw [Array.getElem?_extract, if_pos (by (first | lia | omega)), Nat.add_zero, ep1] at ep
    cases ep
    obtain ⟨m, h1, h2, e⟩ := mem_exI hy
    exact hig1 (m - sa) y (by (first | lia | omega)) (by (first | lia | omega)) (by rw [show sa + (m - sa) = m by (first | lia | omega)]; exact e)
  have HLA : ∀ x ∈ ((arrOf st).extract sb (sb + nb')).toList, ∀ q, ((arrOf st).extract (sa + k) sb)[((arrOf st).extract (sa + k) sb).size - 1]? = some q → Le lt x q := fun x hx q eq => by
    rw [xs, Array.getElem?_extract, if_pos (by (first | lia | omega)), show sa + k + (na - k - 1) = sb - 1 by (first | lia | omega), ep2'] at eq
    cases eq
    obtain ⟨m, h1, h2, e⟩ := mem_exI hx
    exact low2 (m - sb) x (by (first | lia | omega)) (by rw [show sb + (m - sb) = m by (first | lia | omega)]; exact e)
  -- what the piece put in gives
  have whole : ∀ (r : Array Keyed) (arr' : Array Keyed), Rs lt ((arrOf st).extract (sa + k) sb) ((arrOf st).extract sb (sb + nb')) r → r.toList.length = (na - k) + nb' → arr'.toList = (arrOf st).toList.take (sa + k) ++ r.toList ++ (arrOf st).toList.drop (sa + k + r.toList.length) →
      (∀ x, x < sa ∨ sb + nb ≤ x → arr'[x]? = (arrOf st)[x]?) ∧ Up lt arr' sa (sa + (na + nb)) := fun r arr' hr hrl ha => by
    have get : ∀ x, arr'[x]? = if x < sa + k then (arrOf st)[x]? else if x < sa + k + r.toList.length then r.toList[x - (sa + k)]? else (arrOf st)[x]? := fun x => by
      rw [← Array.getElem?_toList, ha, splice_get (by have hll : (arrOf st).toList.length = (arrOf st).size := Array.length_toList; (first | lia | omega)), Array.getElem?_toList]
    have inr : ∀ u, u ∈ r.toList → (∃ m, sa + k ≤ m ∧ m < sb ∧ (arrOf st)[m]? = some u) ∨ ∃ m, sb ≤ m ∧ m < sb + nb' ∧ (arrOf st)[m]? = some u := fun u hu => by
      rcases List.mem_append.mp (hr.perm.mem_iff.mp hu) with hu | hu
      · exact .inl (mem_exI hu)
      · exact .inr (mem_exI hu)
    refine ⟨fun x hx => ?_, fun x y u v a1 a2 a3 eu ev => ?_⟩
    · rw [get]
      by_cases h1 : x < sa + k
      · rw [if_pos h1]
      · rw [if_neg h1, if_neg (by (first | lia | omega))]
    rw [get] at eu ev
    by_cases hx1 : x < sa + k
    · rw [if_pos hx1] at eu
      have hu1 := low1 (x - sa) u (by (first | lia | omega)) (by rw [show sa + (x - sa) = x by (first | lia | omega)]; exact eu)
      by_cases hy1 : y < sa + k
      · rw [if_pos hy1] at ev
        exact ua x y u v a1 a2 (by (first | lia | omega)) eu ev
      rw [if_neg hy1] at ev
      by_cases hy2 : y < sa + k + r.toList.length
      · rw [if_pos hy2] at ev
        rcases inr v (List.mem_of_getElem? ev) with ⟨m, b1, b2, e⟩ | ⟨m, b1, b2, e⟩
        · exact ua x m u v a1 (by (first | lia | omega)) (by (first | lia | omega)) eu e
        · exact o.le_trans hu1 (p1le m v b1 (by (first | lia | omega)) e)
      · rw [if_neg hy2] at ev
        exact o.le_trans hu1 (p1le y v (by (first | lia | omega)) (by (first | lia | omega)) ev)
    rw [if_neg hx1] at eu
    rw [if_neg (by (first | lia | omega))] at ev
    by_cases hx2 : x < sa + k + r.toList.length
    · rw [if_pos hx2] at eu
      by_cases hy2 : y < sa + k + r.toList.length
      · rw [if_pos hy2] at ev
        obtain ⟨hx3, rfl⟩ := List.getElem?_eq_some_iff.mp eu
        obtain ⟨hy3, rfl⟩ := List.getElem?_eq_some_iff.mp ev
        exact (List.pairwise_iff_getElem.mp hr.sort) _ _ hx3 hy3 (by (first | lia | omega))
      · rw [if_neg hy2] at ev
        rcases inr u (List.mem_of_getElem? eu) with ⟨m, b1, b2, e⟩ | ⟨m, b1, b2, e⟩
        · exact o.le_trans (lep2 m u (by (first | lia | omega)) b2 e) (hig2 (y - sb) v (by (first | lia | omega)) (by (first | lia | omega)) (by rw [show sb + (y - sb) = y by (first | lia | omega)]; exact ev))
        · exact ub m y u v b1 (by (first | lia | omega)) (by (first | lia | omega)) e ev
    · rw [if_neg hx2] at eu
      rw [if_neg (by (first | lia | omega))] at ev
      exact ub x y u v (by (first | lia | omega)) a2 (by (first | lia | omega)) eu ev
  by_cases c3 : na - k ≤ nb'
  · rw [if_pos c3]
    refine wpS_bind (wpS_mergeLoL (a := (arrOf st).extract (sa + k) sb) (b := (arrOf st).extract sb (sb + nb')) o hc hB1.kind (fun p hp => hok p (exm _ _ _ hp)) (fun p hp => hok p (exm _ _ _ hp)) (by rw [xs]; (first | lia | omega)) (by rw [ys]; (first | lia | omega)) SX SY HB0 HLA fun r st2 lk hr => ?_)
    refine wpS_bind (wpS_modify ?_)
    refine wpS_bind (wpS_get ?_)
    have hf : failedOf st2 = none := lk.fail.trans hB.fail
    have hr2 : r.toList.Perm (((arrOf st).toList.drop (sa + k)).take ((na - k) + nb')) := by
      refine hr.perm.trans (List.Perm.of_eq ?_)
      rw [Array.toList_extract, Array.toList_extract, ex_mid _ (by (first | lia | omega)) (by (first | lia | omega))]
      congr 1
      (first | lia | omega)
    have hrl : r.toList.length = (na - k) + nb' := by
      rw [hr2.length_eq, List.length_take, List.length_drop, Array.length_toList]
      (first | lia | omega)
    show wpS _ _ _ _ (pure (failedOf st2).isNone) Q _
    rw [hf]
    have hnew : (List.foldl (fun (a : Array Keyed) (x : Keyed × Nat) => a.setIfInBounds (sa + k + x.2) x.1) (arrOf st2) r.toList.zipIdx).toList = (arrOf st).toList.take (sa + k) ++ r.toList ++ (arrOf st).toList.drop (sa + k + r.toList.length) := by
      rw [lk.arr, splice2 _ _ _ (by show sa + k + r.toList.length ≤ (arrOf st).size; (first | lia | omega))]
    obtain ⟨w1, w2⟩ := whole r _ hr hrl hnew
    refine wpS_pure (h _ (fin _ ⟨?_, lk.kind.trans hB.kind, hf, ?_⟩ (by show (pendingOf st2).toList = _; rw [lk.pend]; exact hpl) w1 w2) (fun x hx => w1 x (.inr (by (first | lia | omega)))) ?_)
    · show (List.foldl (fun (a : Array Keyed) (x : Keyed × Nat) => a.setIfInBounds (sa + k + x.2) x.1) (arrOf st2) r.toList.zipIdx).toList.Perm a₀.toList
      rw [hnew]
      exact (perm_mid hr2 hrl).trans hB.arr
    · show Cov (pendingOf st2).toList 0 hi
      rw [lk.pend]
      exact hB1.cov
    · show (pendingOf st2).size + 1 = _
      rw [lk.pend]
      exact hps
  · rw [if_neg c3]
    refine wpS_bind (wpS_mergeHiL (a := (arrOf st).extract (sa + k) sb) (b := (arrOf st).extract sb (sb + nb')) o hc hB1.kind (fun p hp => hok p (exm _ _ _ hp)) (fun p hp => hok p (exm _ _ _ hp)) (by rw [xs]; (first | lia | omega)) (by rw [ys]; (first | lia | omega)) SX SY HB0 HLA fun r st2 lk hr => ?_)
    refine wpS_bind (wpS_modify ?_)
    refine wpS_bind (wpS_get ?_)
    have hf : failedOf st2 = none := lk.fail.trans hB.fail
    have hr2 : r.toList.Perm (((arrOf st).toList.drop (sa + k)).take ((na - k) + nb')) := by
      refine hr.perm.trans (List.Perm.of_eq ?_)
      rw [Array.toList_extract, Array.toList_extract, ex_mid _ (by (first | lia | omega)) (by (first | lia | omega))]
      congr 1
      (first | lia | omega)
    have hrl : r.toList.length = (na - k) + nb' := by
      rw [hr2.length_eq, List.length_take, List.length_drop, Array.length_toList]
      (first | lia | omega)
    show wpS _ _ _ _ (pure (failedOf st2).isNone) Q _
    rw [hf]
    have hnew : (List.foldl (fun (a : Array Keyed) (x : Keyed × Nat) => a.setIfInBounds (sa + k + x.2) x.1) (arrOf st2) r.toList.zipIdx).toList = (arrOf st).toList.take (sa + k) ++ r.toList ++ (arrOf st).toList.drop (sa + k + r.toList.length) := by
      rw [lk.arr, splice2 _ _ _ (by show sa + k + r.toList.length ≤ (arrOf st).size; (first | lia | omega))]
    obtain ⟨w1, w2⟩ := whole r _ hr hrl hnew
    refine wpS_pure (h _ (fin _ ⟨?_, lk.kind.trans hB.kind, hf, ?_⟩ (by show (pendingOf st2).toList = _; rw [lk.pend]; exact hpl) w1 w2) (fun x hx => w1 x (.inr (by (first | lia | omega)))) ?_)
    · show (List.foldl (fun (a : Array Keyed) (x : Keyed × Nat) => a.setIfInBounds (sa + k + x.2) x.1) (arrOf st2) r.toList.zipIdx).toList.Perm a₀.toList
      rw [hnew]
      exact (perm_mid hr2 hrl).trans hB.arr
    · show Cov (pendingOf st2).toList 0 hi
      rw [lk.pend]
      exact hB1.cov
    · show (pendingOf st2).size + 1 = _
      rw [lk.pend]
      exact hps
end
end Srd

namespace Srd
open PySem PyProof.Rows Srt
section
variable {prog : Program} {w : World} {A : Around} {E : Value → Shared → Prop} {s : Shared} {κ : SortKind} {Ok : Keyed → Prop} {st : SortSt} {lt : Keyed → Keyed → Bool}
set_option maxHeartbeats 4000000 in
theorem wpS_runsL {a₀ : Array Keyed} {Q : Unit → SortSt → Prop} (o : Swo lt) (hc : CmpL prog w A s κ Ok lt) (h0 : ∀ p ∈ a₀.toList, Ok p) (hB : SBL lt a₀ κ 0 st) (h : ∀ st', (arrOf st').toList.Perm a₀.toList → So lt (arrOf st').toList → failedOf st' = none → Q () st') : wpS (model prog w) A E s sortRuns' Q st := by
  refine wpS_bind (wpS_get ?_)
  have hsz := hB.sb.size
  show wpS _ _ _ _ (forIn [:(arrOf st).size] _ _ >>= _) Q st
  rw [hsz]
  refine wpS_bind (wpS_mono (wpS_forRange (I := fun x c st' => ∃ lo, c = (none, lo) ∧ lo ≤ a₀.size ∧ SBL lt a₀ κ lo st' ∧ x ≤ lo) (Q := fun c st' => ∃ lo, c = (none, lo) ∧ lo = a₀.size ∧ SBL lt a₀ κ lo st') ?_ (fun c st' ⟨lo, z1, z2, z3, z4⟩ => ⟨lo, z1, by (first | lia | omega), z3⟩) ⟨0, rfl, Nat.zero_le _, hB, Nat.le_refl _⟩) ?_)
  · rintro x c st1 _ hx ⟨lo, rfl, hlo, hB1, hxl⟩
    try dsimp only
    by_cases c1 : lo ≥ a₀.size
    · rw [if_pos c1]
      exact wpS_pure ⟨lo, rfl, by (first | lia | omega), hB1⟩
    rw [if_neg c1]
    have hs1 := hB1.sb.size
    refine wpS_bind (wpS_countL o hc hB1.sb.kind (hB1.sb.ok h0) (by (first | lia | omega)) (by (first | lia | omega)) fun n st2 n1 n2 p2 u2 => ?_)
    have hB2 := hB1.pl p2
    have hs2 := hB2.sb.size
    try dsimp only
    show wpS _ _ _ _ (if n < minRun' a₀.size a₀.size 0 then _ else _) _ st2
    by_cases c2 : n < minRun' a₀.size a₀.size 0
    · rw [if_pos c2]
      refine wpS_bind (wpS_lift (wpAny_rule ⟨rfl, ?_⟩))
      refine wpS_bind (wpS_binaryL o hc hB2.sb.kind (hB2.sb.ok h0) (by show lo + min (a₀.size - lo) (minRun' a₀.size a₀.size 0) ≤ _; (first | lia | omega)) (by show n ≤ min (a₀.size - lo) (minRun' a₀.size a₀.size 0); (first | lia | omega)) (by show 1 ≤ min (a₀.size - lo) (minRun' a₀.size a₀.size 0); (first | lia | omega)) u2 fun st3 p3 u3 => ?_)
      rw [if_neg (by decide)]
      have hB3 := hB2.pl p3
      have u3' : Up lt (arrOf st3) lo (lo + min (a₀.size - lo) (minRun' a₀.size a₀.size 0)) := u3
      have hN : 1 ≤ min (a₀.size - lo) (minRun' a₀.size a₀.size 0) := by (first | lia | omega)
      refine wpS_bind (wpS_get ?_)
      cases hb : (pendingOf st3).back? with
      | none =>
        dsimp only
        refine wpS_bind (wpS_modify ?_)
        refine wpS_pure ⟨lo + min (a₀.size - lo) (minRun' a₀.size a₀.size 0), rfl, by (first | lia | omega), ⟨⟨hB3.sb.arr, hB3.sb.kind, hB3.sb.fail, ?_⟩, fun z hz => ?_⟩, by (first | lia | omega)⟩
        · show Cov ((pendingOf st3).push (lo, min (a₀.size - lo) (minRun' a₀.size a₀.size 0), 0)).toList 0 (lo + min (a₀.size - lo) (minRun' a₀.size a₀.size 0))
          rw [Array.toList_push]
          exact hB3.sb.cov.push hN
        · have hz' : z ∈ ((pendingOf st3).push (lo, min (a₀.size - lo) (minRun' a₀.size a₀.size 0), 0)).toList := hz
          rw [Array.toList_push] at hz'
          rcases List.mem_append.mp hz' with hz' | hz'
          · exact hB3.ups z hz'
          · rw [List.mem_singleton.mp hz']
            exact u3'
      | some t =>
        obtain ⟨s1, n1, q⟩ := t
        dsimp only
        refine wpS_bind (wpS_mono (wpS_forRange (I := fun _ c st' => c = (none, ()) ∧ SBL lt a₀ κ lo st' ∧ ∀ x, lo ≤ x → (arrOf st')[x]? = (arrOf st3)[x]?) (Q := fun c st' => c = (none, ()) ∧ SBL lt a₀ κ lo st' ∧ ∀ x, lo ≤ x → (arrOf st')[x]? = (arrOf st3)[x]?) ?_ (fun _ _ z => z) ⟨rfl, hB3, fun _ _ => rfl⟩) ?_)
        · rintro y c st4 _ _ ⟨rfl, hB4, hO4⟩
          refine wpS_bind (wpS_get ?_)
          by_cases g1 : (pendingOf st4).size > 1
          · rw [if_pos g1]
            obtain ⟨⟨a1, a2, older⟩, e⟩ : ∃ x, (pendingOf st4)[(pendingOf st4).size - 2]? = some x := ⟨_, getElem?_pos _ _ (by (first | lia | omega))⟩
            rw [e]
            dsimp only
            split
            · exact wpS_pure ⟨rfl, hB4, hO4⟩
            · refine wpS_bind (wpS_mergeAtL o hc h0 hB4 hlo (by show (pendingOf st4).size - 2 + 1 < (pendingOf st4).size; (first | lia | omega)) fun st5 hB5 hO5 _ => ?_)
              rw [if_neg (by decide)]
              exact wpS_pure ⟨rfl, hB5, fun x hx => (hO5 x hx).trans (hO4 x hx)⟩
          · rw [if_neg g1]
            exact wpS_pure ⟨rfl, hB4, hO4⟩
        · rintro c st4 ⟨rfl, hB4, hO4⟩
          dsimp only
          refine wpS_bind (wpS_modify ?_)
          refine wpS_bind (wpS_modify ?_)
          refine wpS_pure ⟨lo + min (a₀.size - lo) (minRun' a₀.size a₀.size 0), rfl, by (first | lia | omega), ⟨⟨hB4.sb.arr, hB4.sb.kind, hB4.sb.fail, ?_⟩, fun z hz => ?_⟩, by (first | lia | omega)⟩
          · show Cov (Array.push ((pendingOf st4).modify _ _) (lo, min (a₀.size - lo) (minRun' a₀.size a₀.size 0), 0)).toList 0 (lo + min (a₀.size - lo) (minRun' a₀.size a₀.size 0))
            rw [Array.toList_push, Array.toList_modify]
            refine Cov.push ?_ hN
            refine Cov.last _ (fun x => ?_) _ hB4.sb.cov
            exact ⟨rfl, rfl⟩
          · change z ∈ (Array.push ((pendingOf st4).modify _ _) (lo, min (a₀.size - lo) (minRun' a₀.size a₀.size 0), 0)).toList at hz
            rw [Array.toList_push, Array.toList_modify] at hz
            rcases List.mem_append.mp hz with hz | hz
            · obtain ⟨i, hi⟩ := List.mem_iff_getElem?.mp hz
              rw [List.getElem?_modify] at hi
              obtain ⟨z0, hz0, rfl⟩ := Option.map_eq_some_iff.mp hi
              have h1 := hB4.ups z0 (List.mem_of_getElem? hz0)
              split
              · exact h1
              · exact h1
            · rw [List.mem_singleton.mp hz]
              exact u3'.same fun x h1 _ => hO4 x h1
    · rw [if_neg c2]
      have hB3 := hB2
      have hN := n1
      have u3' := u2
      refine wpS_bind (wpS_get ?_)
      cases hb : (pendingOf st2).back? with
      | none =>
        dsimp only
        refine wpS_bind (wpS_modify ?_)
        refine wpS_pure ⟨lo + n, rfl, by (first | lia | omega), ⟨⟨hB3.sb.arr, hB3.sb.kind, hB3.sb.fail, ?_⟩, fun z hz => ?_⟩, by (first | lia | omega)⟩
        · show Cov ((pendingOf st2).push (lo, n, 0)).toList 0 (lo + n)
          rw [Array.toList_push]
          exact hB3.sb.cov.push hN
        · have hz' : z ∈ ((pendingOf st2).push (lo, n, 0)).toList := hz
          rw [Array.toList_push] at hz'
          rcases List.mem_append.mp hz' with hz' | hz'
          · exact hB3.ups z hz'
          · rw [List.mem_singleton.mp hz']
            exact u3'
      | some t =>
        obtain ⟨s1, n1, q⟩ := t
        dsimp only
        refine wpS_bind (wpS_mono (wpS_forRange (I := fun _ c st' => c = (none, ()) ∧ SBL lt a₀ κ lo st' ∧ ∀ x, lo ≤ x → (arrOf st')[x]? = (arrOf st2)[x]?) (Q := fun c st' => c = (none, ()) ∧ SBL lt a₀ κ lo st' ∧ ∀ x, lo ≤ x → (arrOf st')[x]? = (arrOf st2)[x]?) ?_ (fun _ _ z => z) ⟨rfl, hB3, fun _ _ => rfl⟩) ?_)
        · rintro y c st4 _ _ ⟨rfl, hB4, hO4⟩
          refine wpS_bind (wpS_get ?_)
          by_cases g1 : (pendingOf st4).size > 1
          · rw [if_pos g1]
            obtain ⟨⟨a1, a2, older⟩, e⟩ : ∃ x, (pendingOf st4)[(pendingOf st4).size - 2]? = some x := ⟨_, getElem?_pos _ _ (by (first | lia | omega))⟩
            rw [e]
            dsimp only
            split
            · exact wpS_pure ⟨rfl, hB4, hO4⟩
            · refine wpS_bind (wpS_mergeAtL o hc h0 hB4 hlo (by show (pendingOf st4).size - 2 + 1 < (pendingOf st4).size; (first | lia | omega)) fun st5 hB5 hO5 _ => ?_)
              rw [if_neg (by decide)]
              exact wpS_pure ⟨rfl, hB5, fun x hx => (hO5 x hx).trans (hO4 x hx)⟩
          · rw [if_neg g1]
            exact wpS_pure ⟨rfl, hB4, hO4⟩
        · rintro c st4 ⟨rfl, hB4, hO4⟩
          dsimp only
          refine wpS_bind (wpS_modify ?_)
          refine wpS_bind (wpS_modify ?_)
          refine wpS_pure ⟨lo + n, rfl, by (first | lia | omega), ⟨⟨hB4.sb.arr, hB4.sb.kind, hB4.sb.fail, ?_⟩, fun z hz => ?_⟩, by (first | lia | omega)⟩
          · show Cov (Array.push ((pendingOf st4).modify _ _) (lo, n, 0)).toList 0 (lo + n)
            rw [Array.toList_push, Array.toList_modify]
            refine Cov.push ?_ hN
            refine Cov.last _ (fun x => ?_) _ hB4.sb.cov
            exact ⟨rfl, rfl⟩
          · change z ∈ (Array.push ((pendingOf st4).modify _ _) (lo, n, 0)).toList at hz
            rw [Array.toList_push, Array.toList_modify] at hz
            rcases List.mem_append.mp hz with hz | hz
            · obtain ⟨i, hi⟩ := List.mem_iff_getElem?.mp hz
              rw [List.getElem?_modify] at hi
              obtain ⟨z0, hz0, rfl⟩ := Option.map_eq_some_iff.mp hi
              have h1 := hB4.ups z0 (List.mem_of_getElem? hz0)
              split
              · exact h1
              · exact h1
            · rw [List.mem_singleton.mp hz]
              exact u3'.same fun x h1 _ => hO4 x h1
  · rintro c st1 ⟨lo, rfl, rfl, hB1⟩
    try dsimp only
    refine wpS_bind (wpS_mono (wpS_forRange (I := fun x c st' => c = (none, ()) ∧ SBL lt a₀ κ a₀.size st' ∧ (pendingOf st').size + x ≤ a₀.size + 1) (Q := fun c st' => c = (none, ()) ∧ SBL lt a₀ κ a₀.size st' ∧ (pendingOf st').size ≤ 1) ?_ (fun c st' ⟨z1, z2, z3⟩ => ⟨z1, z2, by (first | lia | omega)⟩) ⟨rfl, hB1, by have := hB1.sb.cov.le; rw [Array.length_toList] at this; (first | lia | omega)⟩) ?_)
    · rintro x c st2 _ _ ⟨rfl, hB2, hp2⟩
      try dsimp only
      refine wpS_bind (wpS_get ?_)
      try dsimp only
      by_cases c2 : (pendingOf st2).size ≤ 1
      · rw [if_pos c2]
        exact wpS_pure ⟨rfl, hB2, c2⟩
      · rw [if_neg c2]
        have hx : ∀ b : Bool, (if b = true then (pendingOf st2).size - 2 - 1 else (pendingOf st2).size - 2) + 1 < (pendingOf st2).size := fun b => by
          cases b
          · rw [if_neg Bool.false_ne_true]; (first | lia | omega)
          · rw [if_pos rfl]; (first | lia | omega)
        refine wpS_bind (wpS_mergeAtL o hc h0 hB2 (Nat.le_refl _) (hx _) fun st3 hB3 _ hs3 => ?_)
        rw [if_neg (by decide)]
        exact wpS_pure ⟨rfl, hB3, by (first | lia | omega)⟩
    · rintro c st2 ⟨rfl, hB2, hp2⟩
      refine wpS_pure (h st2 hB2.sb.arr ?_ hB2.sb.fail)
      have hz2 := hB2.sb.size
      have hcov := hB2.sb.cov
      have hups := hB2.ups
      have hpl : (pendingOf st2).toList.length ≤ 1 := by rw [Array.length_toList]; exact hp2
      match hl : (pendingOf st2).toList, hpl with
      | [], _ =>
        rw [hl] at hcov
        have h0 : 0 = a₀.size := hcov
        refine so_of (n := 0) (fun x y _ _ _ _ h3 => by (first | lia | omega)) (by (first | lia | omega))
      | [z], _ =>
        rw [hl] at hcov hups
        obtain ⟨z1, z2, z3⟩ := hcov
        have z3' : 0 + z.2.1 = a₀.size := z3
        have hu := hups z (List.mem_singleton.mpr rfl)
        rw [z1, z3'] at hu
        exact so_of hu (by (first | lia | omega))
end
end Srd

namespace Srd
open PySem PyProof.Rows Srt PySem.W
section
variable {prog : Program} {w : World} {A : Around} {E : Value → Shared → Prop} {s : Shared}
/-- these can be sorted in this state by this order -/
def SortableL (prog : Program) (w : World) (A : Around) (lv : Value → Value → Bool) (vs : List Value) (s : Shared) : Prop :=
  ∃ κ, (∀ (Q : SortKind → Shared → Prop) (E : Value → Shared → Prop), Q κ s → wpAny (model prog w) A (keyKind' vs.toArray) Q E s) ∧ CmpL prog w A s κ (fun p => p ∈ (pairsOf vs).toList) fun x y => lv x.1 y.1
theorem zip_self_eq {vs : List Value} {p : Keyed} (h : p ∈ (pairsOf vs).toList) : p.1 = p.2 := by
  rw [pairsOf_toList] at h
  obtain ⟨i, hi⟩ := List.mem_iff_getElem?.mp h
  rw [List.getElem?_zip_eq_some] at hi
  have := hi.1.symm.trans hi.2
  exact Option.some.inj this
theorem so_short {lt : Keyed → Keyed → Bool} {vs : List Value} (h : vs.length < 2) : So lt (pairsOf vs).toList := List.pairwise_iff_getElem.mpr fun i j hi hj hij => by
  rw [Array.length_toList, pairsOf_size] at hi hj
  (first | lia | omega)
theorem snds_so {lv : Value → Value → Bool} {vs : List Value} {xs : Array Keyed} (hp : xs.toList.Perm (pairsOf vs).toList) (h : So (fun x y => lv x.1 y.1) xs.toList) : (xs.map (·.2)).toList.Pairwise (fun u v => lv v u = false) := by
  rw [Array.toList_map, List.pairwise_map]
  refine List.Pairwise.imp_of_mem (fun {x y} hx hy hxy => ?_) h
  have hxy' : lv y.1 x.1 = false := hxy
  rw [zip_self_eq (hp.mem_iff.mp hx), zip_self_eq (hp.mem_iff.mp hy)] at hxy'
  exact hxy'
theorem list_sort_L {lv : Value → Value → Bool} (o : Swo fun x y => lv x.1 y.1) {a : Addr} {vs : List Value} {n : Nat} {P : Fin → Shared → Prop} (ho : s.heap.get? a = some (seqObj "list" vs.toArray n)) (hlen : vs.length ≤ 90000)
    (hc : ∀ h6 : Heap, (∀ b o, b ≠ a → s.heap.get? b = some o → h6.get? b = some o) → 2 ≤ vs.length → SortableL prog w A lv vs { s with heap := h6 })
    (h : ∀ out : Array Value, out.toList.Perm vs → out.toList.Pairwise (fun u v => lv v u = false) → P (.done (.ret .none)) { s with heap := sortedHeap s.heap a vs out }) : wpAny (model prog w) A (Builtin.«list.sort» ⟨[.ref a], []⟩) P E s := by
  have hv : vs.toArray.size ≤ sizeLine := by rw [List.size_toArray, sizeLine_eq]; (first | lia | omega)
  have ha : a < s.heap.objs.size := Heap.lt_size ho
  obtain ⟨e1, ho1⟩ : ∃ e1, (s.heap.update a (Obj.mapSeq fun _ => #[])).get? a = some (seqObj "list" #[] e1) := ⟨_, get?_update_seq ho (fun _ => #[])⟩
  rw [list_sort_plain]
  refine wpAny_bind (listItems_at ho rfl (wpAny_bind (listUpdate_at ho rfl (wpAny_bind (seqEpoch_at ho1 rfl (wpAny_bind (wpAny_newTuple (wpAny_bind (wpAny_newList (wpAny_holding ?_)))))))  hv (Nat.zero_le _))))
  have nT : a ≠ (s.heap.update a (Obj.mapSeq fun _ => #[])).objs.size := by rw [Heap.size_update]; exact Nat.ne_of_lt ha
  have nL : a ≠ ((s.heap.update a (Obj.mapSeq fun _ => #[])).push (seqObj "tuple" vs.toArray 0)).objs.size := by rw [size_push', Heap.size_update]; exact Nat.ne_of_lt (Nat.lt_succ_of_lt ha)
  have ho6 : (((s.heap.update a (Obj.mapSeq fun _ => #[])).push (seqObj "tuple" vs.toArray 0)).push (seqObj "list" #[] 0)).get? a = some (seqObj "list" #[] e1) := by
    rw [Heap.get?_push_ne _ _ _ nL, Heap.get?_push_ne _ _ _ nT]
    exact ho1
  have hkeep : ∀ b o, b ≠ a → s.heap.get? b = some o → (((s.heap.update a (Obj.mapSeq fun _ => #[])).push (seqObj "tuple" vs.toArray 0)).push (seqObj "list" #[] 0)).get? b = some o := fun b o hb e => by
    refine Heap.get?_push_of_some _ (Heap.get?_push_of_some _ ?_)
    rw [Heap.get?_update_other _ _ hb.symm]
    exact e
  show wpAny (model prog w) A _ P E { s with heap := ((s.heap.update a (Obj.mapSeq fun _ => #[])).push (seqObj "tuple" vs.toArray 0)).push (seqObj "list" #[] 0) }
  dsimp only
  by_cases h2 : vs.toArray.size < 2
  · rw [if_pos h2, if_pos h2]
    refine wpAny_bind (wpAny_pure ?_)
    rw [StateT.run_pure]
    refine wpAny_bind (wpAny_pure (wpAny_bind (seqEpoch_at ho6 rfl (wpAny_bind (listUpdate_at ho6 rfl ?_ (Nat.zero_le _) ?_)))))
    · simp only [bne_self_eq_false, Bool.false_eq_true, if_false]
      exact wpAny_pure (h _ (snds_perm (xs := pairsOf vs) (List.Perm.refl _)) (snds_so (xs := pairsOf vs) (List.Perm.refl _) (so_short (by rw [List.size_toArray] at h2; exact h2))))
    · show ((pairsOf vs).map (·.2)).size ≤ _
      rw [Array.size_map, pairsOf_size, sizeLine_eq]
      (first | lia | omega)
  · rw [if_neg h2, if_neg h2]
    rw [List.size_toArray] at h2
    obtain ⟨κ, hkk, hcm⟩ := hc _ hkeep (by (first | lia | omega))
    refine wpAny_bind (hkk _ _ ?_)
    refine wpAny_bind (wpAny_mono (wpS_runsL (a₀ := pairsOf vs) (Q := fun _ st' => (arrOf st').toList.Perm (pairsOf vs).toList ∧ So (fun x y => lv x.1 y.1) (arrOf st').toList ∧ failedOf st' = none) o hcm (fun p hp => hp) ⟨⟨List.Perm.refl _, rfl, rfl, rfl⟩, fun z hz => (nomatch hz)⟩ fun st' a1 a3 a2 => ⟨a1, a3, a2⟩) ?_ fun _ _ e => e)
    rintro ⟨⟨⟩, st'⟩ s' ⟨rfl, hp, hso, hf⟩
    dsimp only
    refine wpAny_bind (seqEpoch_at ho6 rfl (wpAny_bind (listUpdate_at ho6 rfl ?_ (Nat.zero_le _) ?_)))
    · rw [hf]
      simp only [bne_self_eq_false, Bool.false_eq_true, if_false]
      exact wpAny_pure (h _ (snds_perm hp) (snds_so hp hso))
    · have hp' : (arrOf st').toList.Perm (pairsOf vs).toList := hp
      have := hp'.length_eq
      rw [Array.length_toList, Array.length_toList, pairsOf_size] at this
      show ((arrOf st').map (·.2)).size ≤ _
      rw [Array.size_map, sizeLine_eq]
      (first | lia | omega)
/-- sorted of what is gone through: a new list of its items, rising -/
theorem sorted_colL {lv : Value → Value → Bool} (o : Swo fun x y => lv x.1 y.1) {v : Value} {C : List Value → Prop} {Q : Value → Shared → Prop}
    (hcol : ∀ (Q' : List Value → Shared → Prop) (E' : Value → Shared → Prop), (∀ (ys : List Value) (h' : Heap) (tk : Nat) (d : Drawn), (∀ b o, s.heap.get? b = some o → h'.get? b = some o) → C ys → ys.length ≤ 90000 → s.heap.objs.size ≤ h'.objs.size → Q' ys { s with heap := h', toks := tk, drawn := d }) → wpAny (model prog w) A.in1 (collect v) Q' E' s)
    (hc : ∀ (ys : List Value) (h6 : Heap) (tk : Nat) (d : Drawn), C ys → (∀ b o, s.heap.get? b = some o → h6.get? b = some o) → 2 ≤ ys.length → SortableL prog w A.in1.in1 lv ys { s with heap := h6, toks := tk, drawn := d })
    (q : ∀ (p : Addr) (ys : List Value) (out : Array Value) (h' : Heap) (tk : Nat) (d : Drawn) (c : Nat), C ys → out.toList.Perm ys → out.toList.Pairwise (fun u v => lv v u = false) → (∀ b o, s.heap.get? b = some o → h'.get? b = some o) → h'.get? p = some (seqObj "list" out c) → s.heap.objs.size ≤ p → out.size ≤ 90000 → Q (.ref p) { s with heap := h', toks := tk, drawn := d }) :
    wpAny (model prog w) A (call (.builtin "sorted") [v]) Q E s := by
  refine Calls.call_function_entry kind_sorted plain_sorted entry_sorted (args_sorted1 _) ?_
  unfold Builtin.«sorted»
  refine wpAny_bind (m := checkCount "sorted" 1 1 _) (wpAny_pure (wpAny_bind (hcol _ _ fun ys h1 tk d k1 hC hyl hle => wpAny_bind (wpAny_newList ?_ (by rw [sizeLine_eq]; (first | lia | omega))))))
  have hoL : (h1.push (seqObj "list" ys.toArray 0)).get? h1.objs.size = some (seqObj "list" ys.toArray 0) := Heap.get?_push_size _ rfl
  have keep : ∀ b o, s.heap.get? b = some o → (h1.push (seqObj "list" ys.toArray 0)).get? b = some o := fun b o e => Heap.get?_push_of_some _ (k1 b o e)
  have hbp : ∀ b o, s.heap.get? b = some o → h1.objs.size ≠ b := fun b o e => Nat.ne_of_gt (Nat.lt_of_lt_of_le (Heap.lt_size e) hle)
  change wpAny _ _ _ _ _ { s with heap := h1.push (seqObj "list" ys.toArray 0), toks := tk, drawn := d }
  refine wpAny_bind (wpAny_holding (wpAny_call_entry slot_list_sort ⟨_, hoL, rfl⟩ entry_list_sort (list_sort_L (s := { s with heap := h1.push (seqObj "list" ys.toArray 0), toks := tk, drawn := d }) o hoL (by (first | lia | omega)) (fun h6 k6 h2 => hc ys h6 tk d hC (fun b o e => k6 b o (hbp b o e).symm (keep b o e)) h2) fun out hp hso => ⟨_, rfl, ?_⟩) (args_list_sort _)))
  generalize h1.push (seqObj "list" ys.toArray 0) = h5 at hoL keep
  obtain ⟨e1, ho1⟩ : ∃ e1, (h5.update h1.objs.size (Obj.mapSeq fun _ => #[])).get? h1.objs.size = some (seqObj "list" #[] e1) := ⟨_, get?_update_seq hoL (fun _ => #[])⟩
  have ho6 := Heap.get?_push_of_some (seqObj "list" #[] 0) (Heap.get?_push_of_some (seqObj "tuple" ys.toArray 0) ho1)
  have hol : out.size ≤ 90000 := by rw [← Array.length_toList, hp.length_eq]; exact hyl
  refine wpAny_pure ⟨_, rfl, q h1.objs.size ys out (sortedHeap h5 h1.objs.size ys out) tk d _ hC hp hso (fun b o e => ?_) (get?_update_seq ho6 (fun _ => out)) hle hol⟩
  unfold sortedHeap
  rw [Heap.get?_update_other _ _ (hbp b o e)]
  refine Heap.get?_push_of_some _ (Heap.get?_push_of_some _ ?_)
  rw [Heap.get?_update_other _ _ (hbp b o e)]
  exact keep b o e
/-- the order of whole numbers -/
def iKey : Value → Int
  | .int i _ => i
  | _ => 0
def iLt (u v : Value) : Bool := decide (iKey u < iKey v)
theorem iLt_swo : Swo fun x y => iLt x.1 y.1 := ⟨fun x y h => decide_eq_false (by have := of_decide_eq_true h; (first | lia | omega)), fun x y z h1 h2 => decide_eq_false (by have := of_decide_eq_false h1; have := of_decide_eq_false h2; (first | lia | omega))⟩
theorem ints_sortableL {vs : List Value} (hv : ∀ v ∈ vs, ∃ i t, v = Value.int i t) (h2 : 2 ≤ vs.length) : SortableL prog w A iLt vs s := by
  refine ⟨oneType', fun Q E hq => kas_kind (T := .type "int") h2 (fun v hm => ?_) rfl rfl hq, ?_⟩
  · obtain ⟨i, t, rfl⟩ := hv v hm
    exact Looks.of_pure rfl
  · intro x y hx hy E
    rw [pairsOf_toList] at hx hy
    obtain ⟨i, t, e⟩ := hv _ (mem_zip_self hx).2
    obtain ⟨i', t', e'⟩ := hv _ (mem_zip_self hy).2
    rw [e, e', keyLt'_oneType]
    refine oneLt_int ⟨rfl, ?_⟩
    show decide (i < i') = decide (iKey x.1 < iKey y.1)
    rw [e, e']
    rfl
end
section
variable {prog : Program} {w : World} {A : Around} {E : Value → Shared → Prop} {s : Shared} {T : String} {r d : Addr} {n : Nat} {P : Nat → Value → Prop} {OK : Heap → Prop}
/-- what is gone through, item by item -/
theorem collect_src {Q : List Value → Shared → Prop} (K : KdlSrc prog w T r d n P OK) (hh : A.handled = none) (hok : OK s.heap) (hn : n ≤ sizeLine)
    (q : ∀ (acc : Array Value) (h' : Heap) (tk : Nat), (∀ b o, s.heap.get? b = some o → h'.get? b = some o) → ItemsOf P acc n → s.heap.objs.size ≤ h'.objs.size → Q acc.toList { s with heap := h', toks := tk }) : wpAny (model prog w) A (collect (.ref r)) Q E s := by
  unfold collect
  refine wpAny_bind (wpAny_runValue (codeAny_builtin entry_proto_collect' ?_))
  change wpAny _ _ (do again (.builtin "list.__iadd__" ⟨[← newList [], .ref r], []⟩)) _ _ s
  refine wpAny_bind (wpAny_newList (wpAny_pure ⟨Code.quiet_builtin _ (by decide +kernel), codeAny_builtin entry_list_iadd' ?_⟩))
  change wpAny _ A.in1 (Builtin.List.listExtendWith (.ref s.heap.objs.size) (.ref r) (.ref s.heap.objs.size)) _ _ { s with heap := s.heap.push (seqObj "list" #[] 0) }
  have hlt := K.there _ hok
  refine kdl_extend (R := wants (fun v s' => wpAny (model prog w) A (match v with
          | Value.ref a => do
            let o ← load a
            match o.data with
            | .seq xs _ => pure xs.toList
            | _ => unsupported "internal:collect"
          | _ => unsupported "internal:collect") Q E s') E) (s := { s with heap := s.heap.push (seqObj "list" #[] 0) }) K hh (K.keep _ _ hok fun b _ o e => Heap.get?_push_of_some _ e) s.heap.objs.size (Nat.ne_of_gt hlt.1) (Nat.ne_of_gt hlt.2) _ 0 (Heap.get?_push_size _ rfl) (fun h' tk acc c kp hS hit => ?_) hn
  refine wpAny_bind (wpAny_load hS ?_)
  refine wpAny_pure ?_
  exact q acc h' tk (fun b o e => kp b o (Nat.ne_of_lt (Heap.lt_size e)) (Heap.get?_push_of_some _ e)) hit (Nat.le_of_lt (Heap.lt_size hS))
end
end Srd

/-! a list has no keys() -/
namespace Srd
open PySem PyProof.Rows
end Srd

/-! dict(list of pairs) -/
namespace Srd
open PySem PyProof.Rows
end Srd

/-! dict(list of pairs) and sorted(dict of ints), as rules -/
namespace L2
open PySem PySem.Spec PyProof.Rows PySem.W
section
variable {X : Cx}
theorem perm_ints {zs : List V} {ns : List Int} (h : zs.Perm (ns.map V.int)) : ∃ ms : List Int, zs = ms.map V.int ∧ ms.Perm ns := by
  obtain ⟨ms, rfl, _⟩ := ints_sub zs fun z hz => h.mem_iff.mp hz
  refine ⟨ms, rfl, ?_⟩
  have h2 := h.filterMap (fun v => match v with | V.int i => some i | _ => none)
  simpa [List.filterMap_map, Function.comp_def] using h2
theorem vals_mem2 : ∀ {vs : List V} {us : List Value}, Vals vs us → ∀ v ∈ vs, ∃ u ∈ us, RelV v u
  | _, _, .cons a t, v, hv => by
    rcases List.mem_cons.mp hv with rfl | hv
    · exact ⟨_, List.mem_cons_self .., a⟩
    · obtain ⟨u, hu, r⟩ := vals_mem2 t v hv
      exact ⟨u, List.mem_cons_of_mem _ hu, r⟩
theorem rising : ∀ {ms : List Int} {us : List Value}, Vals (ms.map V.int) us → us.Pairwise (fun u v => Srd.iLt v u = false) → ms.Pairwise (· ≤ ·)
  | [], _, _, _ => .nil
  | m :: ms, us, r, h => by
    cases r with
    | cons r rr =>
      obtain ⟨t, rfl⟩ := r
      obtain ⟨h1, h2⟩ := List.pairwise_cons.mp h
      refine List.pairwise_cons.mpr ⟨fun m' hm => ?_, rising rr h2⟩
      obtain ⟨u, hu, ru⟩ := vals_mem2 rr (V.int m') (List.mem_map.mpr ⟨m', hm, rfl⟩)
      obtain ⟨t', rfl⟩ := ru
      have := of_decide_eq_false (h1 _ hu)
      have h3 : ¬ m' < m := this
      (first | lia | omega)
theorem strictly {ms : List Int} (h : ms.Pairwise (· ≤ ·)) (hn : ms.Nodup) : ms.Pairwise (· < ·) := by
  refine List.pairwise_iff_getElem.mpr fun i j hi hj hij => ?_
  have h1 := (List.pairwise_iff_getElem.mp h) i j hi hj hij
  have h2 := (List.pairwise_iff_getElem.mp hn) i j hi hj hij
  (first | lia | omega)
/-- the keys of a dict in its object -/
theorem keys_vals {P : Program} {w : World} {kvs : List (Key × V)} {ps : List (Key × Value)} (h : KV kvs ps) : ∀ {es : List DictEntry} {ns : List Int}, PySem.Pairs (mixKind P w) es ps → kvs.map (·.1) = ns.map Sum.inl → Vals (ns.map V.int) (es.map (·.key)) := by
  have h' : Paired (fun (p : Key × V) (q : Key × Value) => p.1 = q.1 ∧ RelV p.2 q.2) kvs ps := h
  clear h
  induction h' with
  | nil =>
    intro es ns h2 e
    cases h2
    cases ns with
    | nil => exact .nil
    | cons n ns => cases e
  | cons r t ih =>
    intro es ns h2 e
    cases h2 with
    | cons h1 h2 h3 =>
      cases ns with
      | nil => cases e
      | cons n ns =>
        rw [List.map_cons, List.map_cons] at e
        obtain ⟨e1, e2⟩ := List.cons.inj e
        refine .cons ?_ (ih h3 e2)
        rw [← r.1, e1] at h1
        have h1' : keyIs (Sum.inl n) _ = true := h1
        rcases keyIs_shape h1' with ⟨i, t, he, hk⟩ | ⟨x, t, he, hk⟩
        · cases he
          exact ⟨t, hk⟩
        · cases he
theorem kv_keys : ∀ {kvs : List (Key × V)} {vs : List (Key × Value)}, KV kvs vs → kvs.map (·.1) = vs.map (·.1)
  | _, _, .nil => rfl
  | _, _, .cons r t => by rw [List.map_cons, List.map_cons, r.1, kv_keys t]
theorem call_sorted_dK (hc : X.calm = true) : CallR X (.builtin "sorted") (fun xs H Q => ∃ (d : Addr) (kvs : List (Key × V)) (ns : List Int), xs = [.ref d] ∧ H d = some (.dK kvs) ∧ kvs.length ≤ 90000 ∧ kvs.map (·.1) = ns.map Sum.inl ∧ ∀ (p : Addr) (ms : List Int), H p = none → ms.Perm ns → ms.Pairwise (· < ·) → Q (.ref p) (upd H p (.lst (ms.map V.int)))) := by
  intro pins s σ H xs us Q I r h
  obtain ⟨d, kvs, ns, rfl, hd, hlen, hkn, q⟩ := h
  obtain ⟨u, rfl, rx⟩ := vals1 r
  obtain rfl : u = .ref d := rx
  obtain ⟨hl, lo, vs, kv, o, es, ep, ho, hx, hdat, hko, hpr, hnd⟩ := dk_of I.hok hd
  have hvals := keys_vals kv hpr hkn
  have hkl : kvs.length = vs.length := kv.length
  have hnl : kvs.length = ns.length := by have := congrArg List.length hkn; simpa using this
  have hes : es.size = ns.length := by
    have := hvals.length
    simpa using this.symm
  have hnod : ns.Nodup := by
    rw [← kv_keys kv, hkn] at hnd
    exact (List.pairwise_map.mp hnd).imp fun h e => h (by rw [e])
  refine Srd.sorted_colL (C := fun ys => Vals (ns.map V.int) ys) Srd.iLt_swo (fun Q' E' hq => ?_) (fun ys h6 tk d6 hC k6 h2 => Srd.ints_sortableL (fun v hv => ?_) h2) fun p ys out h' tk d6 c hC hperm hso kp e3 hle hos => ?_
  · refine Srd.collect_src (raw_src lo) (I.ok.hd hc) (⟨o, ho, hx, hdat⟩ : RawD s.heap d es ep) (by rw [sizeLine_eq]; (first | lia | omega)) fun acc h' tk kp hit hle => ?_
    have hacc : acc.toList = es.toList.map (·.key) := by
      refine List.ext_getElem? fun j => ?_
      rw [Array.getElem?_toList, List.getElem?_map, Array.getElem?_toList]
      cases hj : acc[j]? with
      | none =>
        have h3 : acc.size ≤ j := Array.getElem?_eq_none_iff.mp hj
        rw [hit.1] at h3
        rw [Array.getElem?_eq_none h3]
        rfl
      | some v =>
        obtain ⟨e, h1, rfl⟩ := hit.2 j v hj
        rw [h1]
        rfl
    rw [hacc]
    exact hq _ h' tk s.drawn kp hvals (by rw [List.length_map, Array.length_toList]; (first | lia | omega)) hle
  · obtain ⟨y, hy, ry⟩ := vals_mem hC v hv
    obtain ⟨i, _, rfl⟩ := List.mem_map.mp hy
    obtain ⟨t, rfl⟩ := ry
    exact ⟨i, t, rfl⟩
  · obtain ⟨zs, pz, rz⟩ := vals_perm hperm hC
    obtain ⟨ms, rfl, pm⟩ := perm_ints pz
    have hzl := rz.length
    have I2 := I.laid (h' := h') (t' := tk) (a := p) (o := .lst (ms.map V.int)) (fun b o e => kp b o e) hle (show ObjOk X.prog X.w _ h' _ (.lst (ms.map V.int)) from ⟨by rw [hzl, Array.length_toList, sizeLine_eq]; (first | lia | omega), out.toList, c, rz, e3⟩)
    exact ⟨.ref p, _, I2.draws (d := d6), rfl, q p ms (I.hok.fresh hle) pm (strictly (rising rz hso) ((pm.nodup_iff).mpr hnod))⟩
end
end L2

/-! arguments without a star: what has no star, by its head alone -/
namespace L2
open PySem PySem.Spec PyProof.Rows
end L2
/-! expressions and arguments, shut: nothing is unfolded while a deep display is put together -/
namespace L2
open PySem PySem.Spec PyProof.Rows
end L2

/-! sets of tuples: every element stands on its own way of probes -/
namespace Stg
open PySem Sts
end Stg

namespace Stg
open PySem Sts
end Stg

namespace Stg
open PySem Sts
end Stg

/-! the order of tuples of an int, a text and two ints -/
namespace Srd
open PySem PyProof.Rows Srt PySem.W
/-- a strict total order -/
structure Sto {α : Type} (lt : α → α → Bool) : Prop where
  irr : ∀ a, lt a a = false
  trans : ∀ a b c, lt a b = true → lt b c = true → lt a c = true
  tri : ∀ a b, lt a b = false → lt b a = false → a = b
section
variable {α β : Type} {lt : α → α → Bool} {lt2 : β → β → Bool}
theorem Sto.asym (o : Sto lt) {a b : α} (h : lt a b = true) : lt b a = false := by
  cases e : lt b a with
  | false => rfl
  | true =>
    have := o.trans a b a h e
    rw [o.irr] at this
    cases this
theorem Sto.neg (o : Sto lt) {x y z : α} (h1 : lt x y = false) (h2 : lt y z = false) : lt x z = false := by
  cases e : lt x z with
  | false => rfl
  | true =>
    cases e2 : lt y x with
    | true => rw [o.trans y x z e2 e] at h2; cases h2
    | false =>
      have := o.tri x y h1 e2
      subst this
      rw [e] at h2
      cases h2
theorem Sto.swo (o : Sto lt) (f : Value → α) : Swo fun x y => lt (f x.1) (f y.1) := ⟨fun _ _ h => o.asym h, fun _ _ _ h1 h2 => o.neg h1 h2⟩
def lexB [DecidableEq α] (lt : α → α → Bool) (lt2 : β → β → Bool) (x y : α × β) : Bool := lt x.1 y.1 || (decide (x.1 = y.1) && lt2 x.2 y.2)
theorem Sto.lex [DecidableEq α] (o : Sto lt) (o2 : Sto lt2) : Sto (lexB lt lt2) where
  irr := fun a => by unfold lexB; rw [o.irr, o2.irr]; simp
  trans := fun a b c h1 h2 => by
    unfold lexB at *
    simp only [Bool.or_eq_true, Bool.and_eq_true, decide_eq_true_eq] at *
    rcases h1 with h1 | ⟨e1, h1⟩
    · rcases h2 with h2 | ⟨e2, h2⟩
      · exact .inl (o.trans _ _ _ h1 h2)
      · exact .inl (e2 ▸ h1)
    · rcases h2 with h2 | ⟨e2, h2⟩
      · exact .inl (e1.symm ▸ h2)
      · exact .inr ⟨e1.trans e2, o2.trans _ _ _ h1 h2⟩
  tri := fun a b h1 h2 => by
    unfold lexB at *
    simp only [Bool.or_eq_false_iff, Bool.and_eq_false_imp, decide_eq_true_eq] at *
    have e1 := o.tri _ _ h1.1 h2.1
    have e2 := o2.tri _ _ (h1.2 e1) (h2.2 e1.symm)
    exact Prod.ext e1 e2
theorem sto_int : Sto fun a b : Int => decide (a < b) := ⟨fun a => by simp, fun a b c h1 h2 => by simp only [decide_eq_true_eq] at *; (first | lia | omega), fun a b h1 h2 => by simp only [decide_eq_false_iff_not] at *; (first | lia | omega)⟩
theorem list_lt_tri : ∀ a b : List Nat, ¬ a < b → ¬ b < a → a = b
  | [], [], _, _ => rfl
  | [], b :: bs, h, _ => absurd (List.nil_lt_cons b bs) h
  | a :: as, [], _, h => absurd (List.nil_lt_cons a as) h
  | a :: as, b :: bs, h1, h2 => by
    rw [List.cons_lt_cons_iff] at h1 h2
    have e : a = b := by
      rcases Nat.lt_trichotomy a b with z | z | z
      · exact absurd (.inl z) h1
      · exact z
      · exact absurd (.inl z) h2
    subst e
    rw [list_lt_tri as bs (fun z => h1 (.inr ⟨rfl, z⟩)) (fun z => h2 (.inr ⟨rfl, z⟩))]
theorem list_lt_irr : ∀ a : List Nat, ¬ a < a
  | [], h => by cases h
  | a :: as, h => by
    rw [List.cons_lt_cons_iff] at h
    rcases h with h | ⟨_, h⟩
    · (first | lia | omega)
    · exact list_lt_irr as h
theorem list_lt_trans : ∀ a b c : List Nat, a < b → b < c → a < c
  | [], _, [], _, h2 => by cases h2
  | [], _, c :: cs, _, _ => List.nil_lt_cons c cs
  | a :: as, [], _, h1, _ => by cases h1
  | a :: as, b :: bs, [], _, h2 => by cases h2
  | a :: as, b :: bs, c :: cs, h1, h2 => by
    rw [List.cons_lt_cons_iff] at *
    rcases h1 with h1 | ⟨e1, h1⟩
    · rcases h2 with h2 | ⟨e2, h2⟩
      · exact .inl (by (first | lia | omega))
      · exact .inl (by (first | lia | omega))
    · rcases h2 with h2 | ⟨e2, h2⟩
      · exact .inl (by (first | lia | omega))
      · exact .inr ⟨by (first | lia | omega), list_lt_trans as bs cs h1 h2⟩
theorem str_ext {x y : Str} (h : x.cps.toList = y.cps.toList) : x = y := by
  cases x
  cases y
  congr 1
  exact Array.toList_inj.mp h
theorem sto_str : Sto fun a b : Str => decide (a.cps.toList < b.cps.toList) := ⟨fun a => decide_eq_false (list_lt_irr _), fun a b c h1 h2 => decide_eq_true (list_lt_trans _ _ _ (of_decide_eq_true h1) (of_decide_eq_true h2)), fun a b h1 h2 => str_ext (list_lt_tri _ _ (of_decide_eq_false h1) (of_decide_eq_false h2))⟩
end
abbrev Qd := Int × Str × Int × Int
def qLt : Qd → Qd → Bool := lexB (fun a b : Int => decide (a < b)) (lexB (fun a b : Str => decide (a.cps.toList < b.cps.toList)) (lexB (fun a b : Int => decide (a < b)) fun a b : Int => decide (a < b)))
theorem qLt_sto : Sto qLt := sto_int.lex (sto_str.lex (sto_int.lex sto_int))
/-- such a tuple, as a value -/
def IsQ (h : Heap) (v : Value) (q : Qd) : Prop := ∃ a o t u t2 t3 n, v = .ref a ∧ h.get? a = some o ∧ o.cls = .type "tuple" ∧ o.data = .seq #[.int q.1 t, .str q.2.1 u, .int q.2.2.1 t2, .int q.2.2.2 t3] n
theorem IsQ.inj {h : Heap} {v : Value} {q q' : Qd} (x : IsQ h v q) (y : IsQ h v q') : q = q' := by
  obtain ⟨a, o, t, u, t2, t3, n, rfl, h1, _, h3⟩ := x
  obtain ⟨a', o', t', u', t2', t3', n', e, h1', _, h3'⟩ := y
  cases e
  rw [h1] at h1'
  cases h1'
  rw [h3] at h3'
  obtain ⟨q1, q2, q3, q4⟩ := q
  obtain ⟨r1, r2, r3, r4⟩ := q'
  simp only [Data.seq.injEq, Array.mk.injEq, List.cons.injEq, Value.int.injEq, Value.str.injEq, and_true] at h3'
  obtain ⟨⟨⟨e1, _⟩, ⟨e2, _⟩, ⟨e3, _⟩, ⟨e4, _⟩⟩, _⟩ := h3'
  rw [e1, e2, e3, e4]
theorem IsQ.keep {h h' : Heap} {v : Value} {q : Qd} (x : IsQ h v q) (k : ∀ b o, h.get? b = some o → h'.get? b = some o) : IsQ h' v q := by
  obtain ⟨a, o, t, u, t2, t3, n, rfl, h1, r⟩ := x
  exact ⟨a, o, t, u, t2, t3, n, rfl, k _ _ h1, r⟩
open Classical in
noncomputable def kq (h : Heap) (v : Value) : Qd := if x : ∃ q, IsQ h v q then x.choose else (0, Str.empty, 0, 0)
theorem kq_of {h : Heap} {v : Value} {q : Qd} (x : IsQ h v q) : kq h v = q := by
  unfold kq
  rw [dif_pos ⟨q, x⟩]
  exact (Exists.choose_spec (⟨q, x⟩ : ∃ q, IsQ h v q)).inj x
section
variable {prog : Program} {w : World} {A : Around} {s : Shared}
theorem qs_tups {h : Heap} : ∀ {vs : List Value}, (∀ v ∈ vs, ∃ q, IsQ h v q) → ∃ fs, KatTups h vs fs ∧ fs.length = vs.length ∧ ∀ f ∈ fs, ∃ i t, f = .int i t
  | [], _ => ⟨[], trivial, rfl, fun _ h => nomatch h⟩
  | v :: vs, hv => by
    obtain ⟨q, a, o, t, u, t2, t3, n, rfl, ho, hc, hd⟩ := hv v (List.mem_cons_self ..)
    obtain ⟨fs, kt, hl, hf⟩ := qs_tups (vs := vs) fun x hx => hv x (List.mem_cons_of_mem _ hx)
    refine ⟨.int q.1 t :: fs, KatTups.cons ho hc hd rfl kt, by simp [hl], fun f hm => ?_⟩
    rcases List.mem_cons.mp hm with rfl | hm
    · exact ⟨_, t, rfl⟩
    · exact hf f hm
theorem qs_sortableL {h0 : Heap} {vs : List Value} (hv : ∀ v ∈ vs, ∃ q, IsQ h0 v q) (k0 : ∀ b o, h0.get? b = some o → s.heap.get? b = some o) (h2 : 2 ≤ vs.length) : SortableL prog w A (fun u v => qLt (kq h0 u) (kq h0 v)) vs s := by
  have hv' : ∀ v ∈ vs, ∃ q, IsQ s.heap v q := fun v hm => let ⟨q, x⟩ := hv v hm; ⟨q, x.keep k0⟩
  obtain ⟨fs, k, hl, hf⟩ := qs_tups hv'
  refine ⟨tuples' true, fun Q E hq => ?_, ?_⟩
  · refine kat_kind (T := .type "int") k (by (first | lia | omega)) (fun v hm => ?_) rfl hq
    obtain ⟨i, t, rfl⟩ := hf v hm
    exact Looks.of_pure rfl
  · intro x y hx hy E
    rw [pairsOf_toList] at hx hy
    obtain ⟨q, xq⟩ := hv _ (mem_zip_self hx).2
    obtain ⟨q', yq⟩ := hv _ (mem_zip_self hy).2
    have e1 : (fun x y : Keyed => qLt (kq h0 x.1) (kq h0 y.1)) x y = qLt q q' := by
      show qLt (kq h0 x.1) (kq h0 y.1) = _
      have hx1 := (mem_zip_self hx)
      have hy1 := (mem_zip_self hy)
      rw [kq_of xq, kq_of yq]
    rw [e1]
    obtain ⟨a, o, t, u, t2, t3, n, e, ho, hc, hd⟩ := xq.keep k0
    obtain ⟨a', o', t', u', t2', t3', n', e', ho', hc', hd'⟩ := yq.keep k0
    rw [e, e']
    obtain ⟨q1, q2, q3, q4⟩ := q
    obtain ⟨r1, r2, r3, r4⟩ := q'
    refine kat_lt ho hd ho' hd' ?_
    have unf : qLt (q1, q2, q3, q4) (r1, r2, r3, r4) = (decide (q1 < r1) || (decide (q1 = r1) && (decide (q2.cps.toList < r2.cps.toList) || (decide (q2 = r2) && (decide (q3 < r3) || (decide (q3 = r3) && decide (q4 < r4))))))) := rfl
    rw [unf]
    refine kat_cons (wpAny_eqBool_int (kat_go (fun c1 => kat_yes ?_) (fun c1 => kat_no ?_)))
    · have c1' : q1 = r1 := eq_of_beq c1
      refine kat_cons (wpAny_eqBool_str (kat_go (fun c2 => kat_yes ?_) (fun c2 => kat_no ?_)))
      · have c2' : q2 = r2 := of_decide_eq_true c2
        refine kat_cons (wpAny_eqBool_int (kat_go (fun c3 => kat_yes ?_) (fun c3 => kat_no ?_)))
        · have c3' : q3 = r3 := eq_of_beq c3
          refine kat_cons (wpAny_eqBool_int (kat_go (fun c4 => kat_yes (kat_nil ⟨rfl, ?_⟩)) (fun c4 => kat_no ?_)))
          · have c4' : q4 = r4 := eq_of_beq c4
            subst c1' c2' c3' c4'
            rw [decide_eq_false (list_lt_irr q2.cps.toList)]
            simp
          · refine kat_one _ _ (wpAny_lt_int ⟨rfl, ?_⟩)
            subst c1' c2' c3'
            rw [decide_eq_false (list_lt_irr q2.cps.toList)]
            simp
        · refine kat_one _ _ (wpAny_lt_int ⟨rfl, ?_⟩)
          have c3' : ¬ q3 = r3 := fun z => by rw [z] at c3; simp at c3
          subst c1' c2'
          rw [decide_eq_false (list_lt_irr q2.cps.toList)]
          simp [c3']
      · refine kat_one _ _ (PyProof.Rows.lt_str ⟨rfl, ?_⟩)
        have c2' : ¬ q2 = r2 := of_decide_eq_false c2
        subst c1'
        simp [c2']
    · refine oneLt_int ⟨rfl, ?_⟩
      have c1' : ¬ q1 = r1 := fun z => by rw [z] at c1; simp at c1
      simp [c1']
end
end Srd

namespace Stg
open PySem PyProof.Rows PySem.W Sts
end Stg

/-! strong sets of numbers; set(list) for any kind of set -/
namespace Stg
open PySem PyProof.Rows Sts
end Stg

/-! sorted(set(l)) and sorted(l), with all that can be said -/
namespace Srd
end Srd
namespace L2
open PySem PySem.Spec PyProof.Rows PySem.W Srd Sts Stg
def tq (q : Qd) : HO := .tup [.int q.1, .str q.2.1, .int q.2.2.1, .int q.2.2.2]
/-- tuples of an int, a text and two ints, as they lie -/
def QL (H : Hp) (zs : List V) (qs : List Qd) : Prop := Paired (fun z q => ∃ p, z = V.ref p ∧ H p = some (tq q)) zs qs
def kOf (q : Qd) : List Key := [Sum.inl q.1, Sum.inr q.2.1, Sum.inl q.2.2.1, Sum.inl q.2.2.2]
theorem QL.mem {H : Hp} : ∀ {zs : List V} {qs : List Qd}, QL H zs qs → ∀ z ∈ zs, ∃ p, ∃ q ∈ qs, z = V.ref p ∧ H p = some (tq q)
  | _, _, .cons ⟨p, e1, e2⟩ t, z, hz => by
    rcases List.mem_cons.mp hz with rfl | hz
    · exact ⟨p, _, List.mem_cons_self .., e1, e2⟩
    · obtain ⟨p', q', h1, h2⟩ := QL.mem t z hz
      exact ⟨p', q', List.mem_cons_of_mem _ h1, h2⟩
theorem QL.keep {H H' : Hp} : ∀ {zs : List V} {qs : List Qd}, QL H zs qs → (∀ b xs, H b = some (.tup xs) → H' b = some (.tup xs)) → QL H' zs qs
  | _, _, .nil, _ => .nil
  | _, _, .cons ⟨p, e1, e2⟩ t, k => .cons ⟨p, e1, k _ _ e2⟩ (QL.keep t k)
section
variable {X : Cx} {e : Expr} {te : TE} {p p' pos pos' : Pos}
/-- a tuple that lies there -/
theorem isQ_of {P : Program} {w : World} {H : Hp} {h : Heap} {t : Addr} {q : Qd} (ok : HOk P w H h) (e : H t = some (tq q)) : IsQ h (.ref t) q := by
  obtain ⟨_, us, rus, o, ho, hc', n, hd⟩ := ok t _ e
  obtain ⟨u1, us, rfl, r1, rus⟩ := Vals.inv rus
  obtain ⟨u2, us, rfl, r2, rus⟩ := Vals.inv rus
  obtain ⟨u3, us, rfl, r3, rus⟩ := Vals.inv rus
  obtain ⟨u4, us, rfl, r4, rus⟩ := Vals.inv rus
  obtain rfl := Vals.end_ rus
  obtain ⟨t1, rfl⟩ := r1
  obtain ⟨t2, rfl⟩ := r2
  obtain ⟨t3, rfl⟩ := r3
  obtain ⟨t4, rfl⟩ := r4
  exact ⟨t, o, t1, t2, t3, t4, n, rfl, ho, hc', hd⟩
end
end L2

namespace L2
open PySem PySem.Spec PyProof.Rows PySem.W Srd Sts Stg
section
variable {X : Cx} {e : Expr} {te : TE} {p p' pos pos' : Pos}
theorem ql_sub {P : Program} {w : World} {H : Hp} {h0 : Heap} (ok : HOk P w H h0) {ys : List V} {its : List Value} {qs : List Qd} (rv : Vals ys its) (ql : QL H ys qs) : ∀ us : List Value, (∀ u ∈ us, u ∈ its) → ∃ zs, Vals zs us ∧ QL H zs (us.map (kq h0))
  | [], _ => ⟨[], .nil, .nil⟩
  | u :: us, h => by
    obtain ⟨y, hy, ry⟩ := vals_mem rv u (h u (List.mem_cons_self ..))
    obtain ⟨zs, rz, hz⟩ := ql_sub ok rv ql us fun x hx => h x (List.mem_cons_of_mem _ hx)
    obtain ⟨t, q, _, rfl, e2⟩ := ql.mem y hy
    have hu : u = Value.ref t := ry
    subst hu
    exact ⟨_, .cons ry rz, .cons ⟨t, rfl, by rw [kq_of (isQ_of ok e2)]; exact e2⟩ hz⟩
end
end L2

/-! for x, y in zip(xs, ys) -/
namespace L2
open PySem PySem.Spec PyProof.Rows
end L2

/-! sorted(l) of tuples (int, str, int, int) and of ints: the same items, rising -/
namespace L2
open PySem PySem.Spec PyProof.Rows PySem.W Srd
section
variable {X : Cx}
theorem kq_all {P : Program} {w : World} {H : Hp} {h0 : Heap} (ok : HOk P w H h0) : ∀ {ys : List V} {its : List Value} {qs : List Qd}, Vals ys its → QL H ys qs → its.map (kq h0) = qs
  | _, _, _, .nil, .nil => rfl
  | _, _, _, .cons (b := u) r rr, .cons ⟨p, e1, e2⟩ t => by
    subst e1
    have hu : u = Value.ref p := r
    subst hu
    rw [List.map_cons, kq_all ok rr t, kq_of (isQ_of ok e2)]
end
end L2

/-! range(a, b, 2) -/
namespace L2
open PySem PySem.Spec PyProof.Rows
end L2

namespace L2
open PySem PySem.Spec PyProof.Rows
end L2

/-! len(set(l)) of tuples (int, str, int, int): how many unlike ones -/
namespace L2
open PySem PySem.Spec PyProof.Rows PySem.W Srd Sts Stg
end L2

/-! sets of texts: sorted(set(l)) -/
namespace Stg
open PySem PyProof.Rows Sts
end Stg
namespace L2
open PySem PySem.Spec PyProof.Rows PySem.W Srd Sts Stg
end L2

/-! for x in reversed(l) -/
namespace L2
open PySem PySem.Spec PyProof.Rows
end L2

/-! forms in the heap, as lists of all that they hold; what their makers promise; kinds of groves -/
namespace Fg
open PySem L2 FgM
theorem bt_sorted : bootBuiltins "sorted" = some (.builtin "sorted") := by decide +kernel
theorem take_succ' {α : Type} {l : List α} {i : Nat} {x : α} (h : l[i]? = some x) : l.take (i + 1) = l.take i ++ [x] := by
  rw [List.take_add_one, h]
  rfl
theorem comp_range {lo : Int} {n : Nat} {p : Addr} {g : TG} {te : TE} {R : Hp → Prop} {σ0 : St} {H0 : Hp} (Pv : Nat → List V → St → Hp → Prop) (h0 : Pv 0 [] σ0 H0)
    (hl : ∀ i ys σ H, i ≤ n → Pv i ys σ H → H p = some (.lst ys))
    (hs : ∀ i ys σ H, i < n → Pv i ys σ H → g (.int (lo + i)) σ H fun σ3 H4 => te σ3 H4 fun v H5 => H5 p = some (.lst ys) ∧ ys.length < sizeLine ∧ ∃ m', m' < n - i ∧ CW n Pv (i + 1) m' (ys ++ [v]) σ3 (upd H5 p (.lst (ys ++ [v]))))
    (hd : ∀ ys σ H, Pv n ys σ H → R H) :
    ∃ W : Nat → Nat → List V → St → Hp → Prop, (∃ m, W 0 m [] σ0 H0) ∧ ∀ i m ys σc H2, W i m ys σc H2 → H2 p = some (.lst ys) ∧ (((Itr lo n).stop i H2 ∧ R H2) ∨ ((Itr lo n).go i H2 ∧ ∀ x H3, (Itr lo n).yld i H2 x H3 → g x σc H3 fun σ3 H4 => te σ3 H4 fun v H5 =>
      H5 p = some (.lst ys) ∧ ys.length < sizeLine ∧ ∃ m', m' < m ∧ W (i + 1) m' (ys ++ [v]) σ3 (upd H5 p (.lst (ys ++ [v]))))) := by
  refine ⟨CW n Pv, ⟨_, rfl, Nat.zero_le _, h0⟩, ?_⟩
  rintro i m ys σ H ⟨rfl, hi, hp⟩
  refine ⟨hl i ys σ H hi hp, ?_⟩
  by_cases hlt : i < n
  · refine .inr ⟨hlt, ?_⟩
    rintro x H3 ⟨rfl, rfl⟩
    exact hs i ys σ _ hlt hp
  · have e : i = n := by (first | lia | omega)
    subst e
    exact .inl ⟨Nat.le_refl _, hd ys σ H hp⟩
theorem ix_listK {X : Cx} {K : PySem.W.Frag} (h : X.K = K) : IxR X (rIxL K) := h ▸ ix_list
theorem modN (x : Int) {n : Nat} (h : 0 < n) : ∃ k : Nat, x % (n : Int) = (k : Int) ∧ k < n := by
  have h1 := Int.emod_nonneg x (by (first | lia | omega) : (n : Int) ≠ 0)
  have h2 := Int.emod_lt_of_pos x (by (first | lia | omega) : (0 : Int) < (n : Int))
  obtain ⟨k, hk⟩ := Int.eq_ofNat_of_zero_le h1
  exact ⟨k, hk, by (first | lia | omega)⟩
/-! forms with all that is known of them -/
theorem nodup_le {α : Type} [DecidableEq α] : ∀ {l m : List α}, l.Nodup → (∀ x ∈ l, x ∈ m) → l.length ≤ m.length
  | [], _, _, _ => Nat.zero_le _
  | a :: l, m, hn, h => by
    obtain ⟨h1, h2⟩ := List.nodup_cons.mp hn
    have ha := h a (List.mem_cons_self ..)
    have h3 := nodup_le (m := m.erase a) h2 fun x hx => (List.mem_erase_of_ne (fun (e : x = a) => h1 (e ▸ hx))).mpr (h x (List.mem_cons_of_mem _ hx))
    rw [List.length_erase_of_mem ha] at h3
    have := List.length_pos_of_mem ha
    rw [List.length_cons]
    (first | lia | omega)
/-- a comprehension over a tuple, with a test -/
theorem comp_tupT {K : PySem.W.Frag} {a p : Addr} {xs : List V} {g : TG} {tt : TT} {te : TE} {R : Hp → Prop} {σ0 : St} {H0 : Hp} (Pv : Nat → List V → St → Hp → Prop) (h0 : Pv 0 [] σ0 H0)
    (hl : ∀ i ys σ H, i ≤ xs.length → Pv i ys σ H → SqT K H a xs ∧ H p = some (.lst ys))
    (hs : ∀ i ys x σ H, i < xs.length → xs[i]? = some x → Pv i ys σ H → g x σ H fun σ3 H4 => tt σ3 H4 fun b H4' => if b = true then te σ3 H4' fun v H5 => H5 p = some (.lst ys) ∧ ys.length < sizeLine ∧ ∃ m', m' < xs.length - i ∧ CW xs.length Pv (i + 1) m' (ys ++ [v]) σ3 (upd H5 p (.lst (ys ++ [v])))
      else ∃ m', m' < xs.length - i ∧ CW xs.length Pv (i + 1) m' ys σ3 H4')
    (hd : ∀ ys σ H, Pv xs.length ys σ H → R H) :
    ∃ W : Nat → Nat → List V → St → Hp → Prop, (∃ m, W 0 m [] σ0 H0) ∧ ∀ i m ys σc H2, W i m ys σc H2 → H2 p = some (.lst ys) ∧ (((Itt K a).stop i H2 ∧ R H2) ∨ ((Itt K a).go i H2 ∧ ∀ x H3, (Itt K a).yld i H2 x H3 → g x σc H3 fun σ3 H4 => tt σ3 H4 fun b H4' => if b = true then te σ3 H4' fun v H5 =>
      H5 p = some (.lst ys) ∧ ys.length < sizeLine ∧ ∃ m', m' < m ∧ W (i + 1) m' (ys ++ [v]) σ3 (upd H5 p (.lst (ys ++ [v]))) else ∃ m', m' < m ∧ W (i + 1) m' ys σ3 H4')) := by
  refine ⟨CW xs.length Pv, ⟨_, rfl, Nat.zero_le _, h0⟩, ?_⟩
  rintro i m ys σ H ⟨rfl, hi, hp⟩
  obtain ⟨h1, h2⟩ := hl i ys σ H hi hp
  refine ⟨h2, ?_⟩
  by_cases hlt : i < xs.length
  · refine .inr ⟨⟨xs, xs[i], h1, List.getElem?_eq_getElem hlt⟩, ?_⟩
    rintro x H3 ⟨rfl, hx⟩
    exact hs i ys x σ _ hlt (hx xs h1) hp
  · have e : i = xs.length := by (first | lia | omega)
    subst e
    exact .inl ⟨⟨xs, h1, Nat.le_refl _⟩, hd ys σ H hp⟩
theorem inV_ints {x : Int} {xs : List Int} : inV (.int x) (xs.map V.int) = decide (x ∈ xs) := by
  unfold inV
  rw [Bool.eq_iff_iff, List.any_eq_true, decide_eq_true_eq]
  constructor
  · rintro ⟨y, hy, h⟩
    obtain ⟨z, hz, rfl⟩ := List.mem_map.mp hy
    have : z = x := by
      have h' : (z == x) = true := by simpa [eqV] using h
      exact eq_of_beq h'
    exact this ▸ hz
  · intro h
    exact ⟨V.int x, List.mem_map.mpr ⟨x, h, rfl⟩, by simp [eqV]⟩
end Fg

namespace Fg
open PySem L2 FgM
/-! kinds of groves by a form; words gone through from the last one -/
/-- the rest of a row that begins here, and those behind the tags that are open here, the innermost first -/
def bk : List Str → Gr Str × List (Gr Str)
  | [] => (.nil, [])
  | w :: ws => if w = SL then (.nil, (bk ws).1 :: (bk ws).2) else
    match (bk ws).2 with
    | [] => (.nil, [])
    | b :: pl => (.cons w (bk ws).1 b, pl)
theorem bk_sl (ws : List Str) : bk (SL :: ws) = (.nil, (bk ws).1 :: (bk ws).2) := by
  rw [bk, if_pos rfl]
theorem bk_tag {w : Str} {ws : List Str} (hw : w ≠ SL) {b : Gr Str} {pl : List (Gr Str)} (h : (bk ws).2 = b :: pl) : bk (w :: ws) = (.cons w (bk ws).1 b, pl) := by
  rw [bk, if_neg hw, h]
theorem can_len : ∀ {ws : List Str} {n : Nat}, Can SL n ws → (bk ws).2.length = n
  | [], n, h => by
    have h' : n = 0 := h
    subst h'
    rfl
  | w :: ws, n, h => by
    by_cases e : w = SL
    · subst e
      obtain ⟨h1, h2⟩ := can_end.mp h
      rw [bk_sl, List.length_cons, can_len h2]
      (first | lia | omega)
    · have h2 := can_len ((can_tag e).mp h)
      cases hb : (bk ws).2 with
      | nil =>
        rw [hb] at h2
        cases h2
      | cons b pl =>
        rw [bk_tag e hb]
        rw [hb] at h2
        simpa using h2
theorem can_split : ∀ {xs ys : List Str} {n : Nat}, Can SL n (xs ++ ys) → ∃ k : Nat, (k : Int) = n + hgt SL xs ∧ Can SL k ys
  | [], ys, n, h => ⟨n, by simp [hgt], h⟩
  | x :: xs, ys, n, h => by
    by_cases e : x = SL
    · subst e
      obtain ⟨h1, h2⟩ := can_end.mp h
      obtain ⟨k, hk, hc⟩ := can_split h2
      refine ⟨k, ?_, hc⟩
      simp only [hgt, if_true]
      (first | lia | omega)
    · obtain ⟨k, hk, hc⟩ := can_split ((can_tag e).mp h)
      refine ⟨k, ?_, hc⟩
      simp only [hgt, if_neg e]
      (first | lia | omega)
end Fg

namespace Fg
open PySem L2 FgM
/-! lists of kinds, one for each rest of a row -/
theorem can_drop {ws : List Str} (h : Can SL 0 ws) (i : Nat) : ∃ k, Can SL k (ws.drop i) := by
  have h' : Can SL 0 (ws.take i ++ ws.drop i) := by rw [List.take_append_drop]; exact h
  obtain ⟨k, _, hk⟩ := can_split h'
  exact ⟨k, hk⟩
/-! what the makers of words and forms promise -/
end Fg

/-! rows again and again -/
namespace Fg
open PySem L2 FgM
end Fg

/-! d.setdefault(k, x); sorted(d, reverse=True) of a dict with whole numbers as keys -/
namespace L2
open PySem PySem.Spec PyProof.Rows
section
variable {X : Cx} {e ve : Expr} {te : TE} {p kp pos : Pos}
def rSortRev (v : V) (H : Hp) (Q : VK) : Prop := ∃ (d : Addr) (kvs : List (Key × V)) (ns : List Int), v = .ref d ∧ H d = some (.dK kvs) ∧ kvs.length < 64 ∧ kvs.map (·.1) = ns.map Sum.inl ∧ ∀ (p : Addr) (ms : List Int), H p = none → ms.Perm ns → ms.Pairwise (· > ·) → Q (.ref p) (upd H p (.lst (ms.map V.int)))
theorem falling {ms : List Int} (h : ms.Pairwise (· ≥ ·)) (hn : ms.Nodup) : ms.Pairwise (· > ·) := by
  refine List.Pairwise.imp₂ (fun {a b} h1 h2 => ?_) h hn
  have : a ≠ b := h2
  have : a ≥ b := h1
  show a > b
  (first | lia | omega)
theorem pe_sorted_rev (hc : X.calm = true) (hg : Gl X "sorted") (hm : X.mg "sorted" = none) (pa : PA X [e] (tCons te tNil)) (hv : PE X ve (tC (.bl true)))
    (hst : backTo pos (starEach [e] X.env) = (false, eval e X.env) :: backTo pos (starEach [] X.env) := by rfl) (hpl : (backTo pos (starEach [e] X.env)).any (·.1) = false := by rfl) :
    PE X (.Call (.Name "sorted" p) [e] [⟨some (Str.ofString "reverse"), ve, kp⟩] pos) (fun σ H Q => te σ H fun v H1 => rSortRev v H1 Q) := by
  intro pins s σ H Q I h
  refine wpAny_Call_Name_kw (ld_blt I hg hm bt_sorted1 ?_)
  refine callWith_kw (thn (pa pos pins s σ H (fun vs H1 => match vs with | [v] => rSortRev v H1 Q | _ => False) I h) fun us s1 ⟨vs, H1, I1, r, q⟩ => ?_) hst hpl
  match vs, r, q with
  | [v], r, q =>
    obtain ⟨u, rfl, ru⟩ := r.one
    obtain ⟨d, kvs, ns, rfl, hd, hlen, hkn, q⟩ := q
    obtain rfl : u = .ref d := ru
    refine kws_cons (thn (hv pins s1 σ H1 (fun x H2 => x = .bl true ∧ H2 = H1) I1 ⟨rfl, rfl⟩) fun w1 s2 ⟨x, H2, I2, rx, ex, eh⟩ => kws_nil ?_)
    subst ex eh
    obtain rfl : w1 = .bool true := rx
    obtain ⟨hl, lo, vs, kv, o, es, ep, ho, hx, hdat, hko, hpr, hnd⟩ := dk_of I2.hok hd
    have hvals := keys_vals kv hpr hkn
    have hkl : kvs.length = vs.length := kv.length
    have hnl : kvs.length = ns.length := by have := congrArg List.length hkn; simpa using this
    have hes : es.size = ns.length := by
      have := hvals.length
      simpa using this.symm
    have hnod : ns.Nodup := by
      rw [← kv_keys kv, hkn] at hnd
      exact (List.pairwise_map.mp hnd).imp fun h e => h (by rw [e])
    show wpAny _ _ (call (.builtin "sorted") [.ref d] [(Str.ofString "reverse", .bool true)]) _ _ _
    refine call_function_entry_kw kind_sorted plain_sorted entry_sorted (args_sorted_rev _ _) ?_
    unfold Builtin.«sorted»
    refine wpAny_bind (m := checkCount "sorted" 1 1 _) (wpAny_pure ?_)
    refine wpAny_bind (Srd.collect_src (raw_src lo) (I2.ok.hd hc) (⟨o, ho, hx, hdat⟩ : RawD s2.heap d es ep) (by rw [sizeLine_eq]; (first | lia | omega)) fun acc h1 tk kp1 hit hle => ?_)
    have hacc : acc.toList = es.toList.map (·.key) := by
      refine List.ext_getElem? fun j => ?_
      rw [Array.getElem?_toList, List.getElem?_map, Array.getElem?_toList]
      cases hj : acc[j]? with
      | none =>
        have h3 : acc.size ≤ j := Array.getElem?_eq_none_iff.mp hj
        rw [hit.1] at h3
        rw [Array.getElem?_eq_none h3]
        rfl
      | some v =>
        obtain ⟨e, h1, rfl⟩ := hit.2 j v hj
        rw [h1]
        rfl
    rw [hacc]
    have hyl : (es.toList.map (·.key)).length < 64 := by rw [List.length_map, Array.length_toList]; (first | lia | omega)
    generalize es.toList.map (·.key) = ys at hvals hyl
    refine wpAny_bind (wpAny_newList ?_ (by rw [sizeLine_eq]; (first | lia | omega)))
    have hoL : (h1.push (seqObj "list" ys.toArray 0)).get? h1.objs.size = some (seqObj "list" ys.toArray 0) := Heap.get?_push_size _ rfl
    have keep : ∀ b o, s2.heap.get? b = some o → (h1.push (seqObj "list" ys.toArray 0)).get? b = some o := fun b o e => Heap.get?_push_of_some _ (kp1 b o e)
    have hbp : ∀ b o, s2.heap.get? b = some o → h1.objs.size ≠ b := fun b o e => Nat.ne_of_gt (Nat.lt_of_lt_of_le (Heap.lt_size e) hle)
    change wpAny _ _ _ _ _ { s2 with heap := h1.push (seqObj "list" ys.toArray 0), toks := tk }
    refine wpAny_bind (wpAny_holding (wpAny_call_entry_kw slot_list_sort ⟨_, hoL, rfl⟩ entry_list_sort (list_sort_tree_rev (s := { s2 with heap := h1.push (seqObj "list" ys.toArray 0), toks := tk }) hoL (intsAre_of hvals) hyl fun out ns' a1 a2 a3 => ⟨_, rfl, ?_⟩) (args_list_sort_rev _ _)))
    generalize h1.push (seqObj "list" ys.toArray 0) = h5 at hoL keep
    obtain ⟨e1, ho1⟩ : ∃ e1, (h5.update h1.objs.size (Obj.mapSeq fun _ => #[])).get? h1.objs.size = some (seqObj "list" #[] e1) := ⟨_, get?_update_seq hoL (fun _ => #[])⟩
    have ho6 := Heap.get?_push_of_some (seqObj "list" #[] 0) (Heap.get?_push_of_some (seqObj "tuple" ys.toArray 0) ho1)
    have rz : Vals (ns'.map V.int) out.toList := vals_ints a1
    have hzl := rz.length
    have hns : ns'.length = ns.length := a2.length_eq
    have kfin : ∀ b o, s2.heap.get? b = some o → (sortedHeap h5 h1.objs.size ys out).get? b = some o := fun b o e => by
      unfold sortedHeap
      rw [Heap.get?_update_other _ _ (hbp b o e)]
      refine Heap.get?_push_of_some _ (Heap.get?_push_of_some _ ?_)
      rw [Heap.get?_update_other _ _ (hbp b o e)]
      exact keep b o e
    have I3 := I2.laid (h' := sortedHeap h5 h1.objs.size ys out) (t' := tk) (a := h1.objs.size) (o := .lst (ns'.map V.int)) kfin hle (show ObjOk X.prog X.w _ _ _ (.lst (ns'.map V.int)) from ⟨by rw [List.length_map, sizeLine_eq]; (first | lia | omega), out.toList, _, rz, get?_update_seq ho6 (fun _ => out)⟩)
    have hord : ns'.Pairwise (· ≥ ·) := a3
    exact wpAny_pure ⟨_, rfl, .ref _, _, I3, rfl, q _ ns' (I2.hok.fresh hle) a2 (falling hord (a2.nodup_iff.mpr hnod))⟩
end
end L2

/-! places of tags and of their ends; dicts by whole numbers -/
namespace Fg
open PySem L2 FgM
/-- the places of the open tags (the innermost first), and each tag's place with its end's -/
def cst (ws : List Str) : Nat → List Nat × List (Nat × Nat)
  | 0 => ([], [])
  | i + 1 => if ws[i]? = some SL then ((cst ws i).1.tail, (cst ws i).2 ++ (cst ws i).1.head?.toList.map (·, i)) else (i :: (cst ws i).1, (cst ws i).2)
theorem cst_end {ws : List Str} {i o : Nat} {os : List Nat} (h : ws[i]? = some SL) (e : (cst ws i).1 = o :: os) : cst ws (i + 1) = (os, (cst ws i).2 ++ [(o, i)]) := by
  show (if _ then _ else _) = _
  rw [if_pos h, e]
  rfl
theorem cst_tag {ws : List Str} {i : Nat} {w : Str} (h : ws[i]? = some w) (hw : w ≠ SL) : cst ws (i + 1) = (i :: (cst ws i).1, (cst ws i).2) := by
  show (if _ then _ else _) = _
  rw [if_neg (by rw [h]; exact fun e => hw (by injection e))]
theorem drop_here {ws : List Str} {i : Nat} {w : Str} (h : ws[i]? = some w) : ws.drop i = w :: ws.drop (i + 1) := by
  obtain ⟨hi, e⟩ := List.getElem?_eq_some_iff.mp h
  rw [List.drop_eq_getElem_cons hi, e]
/-- all that is known of them -/
structure Cst (ws : List Str) (i : Nat) : Prop where
  len : (cst ws i).1.length = (bk (ws.drop i)).2.length
  at_ : ∀ (m o : Nat), (cst ws i).1[m]? = some o → (bk (ws.drop (o + 1))).2[0]? = (bk (ws.drop i)).2[m]?
  pair : ∀ p e : Nat, (p, e) ∈ (cst ws i).2 → (bk (ws.drop (p + 1))).2[0]? = some (bk (ws.drop (e + 1))).1 ∧ p < e ∧ e < i
  mem : ∀ p : Nat, (p ∈ (cst ws i).1 ∨ p ∈ (cst ws i).2.map (·.1)) ↔ ∃ w, p < i ∧ ws[p]? = some w ∧ w ≠ SL
  nd : ((cst ws i).1 ++ (cst ws i).2.map (·.1)).Nodup
  cnt : (cst ws i).1.length + 2 * (cst ws i).2.length = i
theorem cst_ok {ws : List Str} (hc : Can SL 0 ws) : ∀ i, i ≤ ws.length → Cst ws i
  | 0, _ => ⟨by
      rw [List.drop_zero, can_len hc]
      rfl, (fun m o h => by cases m <;> cases h), (fun p e h => (nomatch h)), (fun p => ⟨fun h => h.elim (fun h => (nomatch h)) (fun h => (nomatch h)), fun ⟨_, h, _⟩ => absurd h (Nat.not_lt_zero _)⟩), List.nodup_nil, rfl⟩
  | i + 1, hi => by
    have x := cst_ok hc i (by (first | lia | omega))
    obtain ⟨w, hw⟩ : ∃ w, ws[i]? = some w := ⟨_, List.getElem?_eq_getElem (by (first | lia | omega))⟩
    by_cases e : w = SL
    · subst e
      have hb : bk (ws.drop i) = (.nil, (bk (ws.drop (i + 1))).1 :: (bk (ws.drop (i + 1))).2) := by rw [drop_here hw, bk_sl]
      cases hs : (cst ws i).1 with
      | nil =>
        have := x.len
        rw [hs, hb] at this
        cases this
      | cons o os =>
        have hz := cst_end hw hs
        obtain ⟨x1, x2, x3, x4, x5, x6⟩ := x
        rw [hs] at x1 x2 x4 x5 x6
        rw [hb] at x1 x2
        refine ⟨?_, fun m o' h => ?_, fun p e h => ?_, fun p => ?_, ?_, ?_⟩
        · rw [hz]
          simpa using x1
        · rw [hz] at h
          have := x2 (m + 1) o' (by rw [List.getElem?_cons_succ]; exact h)
          rw [List.getElem?_cons_succ] at this
          exact this
        · rw [hz] at h
          rcases List.mem_append.mp h with h | h
          · obtain ⟨a, b, c⟩ := x3 p e h
            exact ⟨a, b, by (first | lia | omega)⟩
          · have h' := List.mem_singleton.mp h
            injection h' with h1 h2
            subst h1 h2
            refine ⟨x2 0 p rfl, ?_, by (first | lia | omega)⟩
            obtain ⟨w', h1, _⟩ := (x4 p).mp (.inl (List.mem_cons_self ..))
            exact h1
        · rw [hz]
          have := x4 p
          constructor
          · intro h
            have h' : p ∈ o :: os ∨ p ∈ (cst ws i).2.map (·.1) := by
              rcases h with h | h
              · exact .inl (List.mem_cons_of_mem _ h)
              · rw [List.map_append] at h
                rcases List.mem_append.mp h with h | h
                · exact .inr h
                · exact .inl (by rw [List.mem_singleton.mp h]; exact List.mem_cons_self ..)
            obtain ⟨w', h1, h2, h3⟩ := this.mp h'
            exact ⟨w', by (first | lia | omega), h2, h3⟩
          · rintro ⟨w', h1, h2, h3⟩
            have hpi : p ≠ i := fun z => by
              rw [z, hw] at h2
              injection h2 with h2
              exact h3 h2.symm
            rw [List.map_append]
            rcases this.mpr ⟨w', by (first | lia | omega), h2, h3⟩ with h | h
            · rcases List.mem_cons.mp h with rfl | h
              · exact .inr (List.mem_append_right _ (List.mem_singleton.mpr rfl))
              · exact .inl h
            · exact .inr (List.mem_append_left _ h)
        · rw [hz, List.map_append]
          have hp : (os ++ ((cst ws i).2.map (·.1) ++ [o])).Perm (o :: os ++ (cst ws i).2.map (·.1)) := by
            rw [← List.append_assoc]
            exact List.perm_append_comm
          exact hp.nodup_iff.mpr x5
        · rw [hz]
          show os.length + 2 * ((cst ws i).2 ++ [(o, i)]).length = i + 1
          rw [List.length_append, List.length_singleton]
          rw [List.length_cons] at x6
          (first | lia | omega)
    · have hz := cst_tag hw e
      have hcd : ∃ k, Can SL k (ws.drop i) := can_drop hc i
      obtain ⟨k, hk⟩ := hcd
      rw [drop_here hw] at hk
      have hk' := can_len ((can_tag e).mp hk)
      cases hp : (bk (ws.drop (i + 1))).2 with
      | nil =>
        rw [hp] at hk'
        cases hk'
      | cons b pl =>
        have hb : bk (ws.drop i) = (.cons w (bk (ws.drop (i + 1))).1 b, pl) := by rw [drop_here hw, bk_tag e hp]
        obtain ⟨x1, x2, x3, x4, x5, x6⟩ := x
        rw [hb] at x1 x2
        refine ⟨?_, fun m o' h => ?_, fun p e' h => ?_, fun p => ?_, ?_, ?_⟩
        · rw [hz, hp, List.length_cons, List.length_cons, x1]
        · rw [hz] at h
          rw [hp]
          cases m with
          | zero =>
            injection h with h
            subst h
            rw [hp]
          | succ m =>
            rw [List.getElem?_cons_succ] at h ⊢
            exact x2 m o' h
        · rw [hz] at h
          obtain ⟨a, b, c⟩ := x3 p e' h
          exact ⟨a, b, by (first | lia | omega)⟩
        · rw [hz]
          have := x4 p
          constructor
          · rintro (h | h)
            · rcases List.mem_cons.mp h with rfl | h
              · exact ⟨w, by (first | lia | omega), hw, e⟩
              · obtain ⟨w', h1, h2, h3⟩ := this.mp (.inl h)
                exact ⟨w', by (first | lia | omega), h2, h3⟩
            · obtain ⟨w', h1, h2, h3⟩ := this.mp (.inr h)
              exact ⟨w', by (first | lia | omega), h2, h3⟩
          · rintro ⟨w', h1, h2, h3⟩
            by_cases hpi : p = i
            · exact .inl (by rw [hpi]; exact List.mem_cons_self ..)
            · rcases this.mpr ⟨w', by (first | lia | omega), h2, h3⟩ with h | h
              · exact .inl (List.mem_cons_of_mem _ h)
              · exact .inr h
        · rw [hz]
          refine List.nodup_cons.mpr ⟨fun h => ?_, x5⟩
          have h' : i ∈ (cst ws i).1 ∨ i ∈ (cst ws i).2.map (·.1) := List.mem_append.mp h
          obtain ⟨_, h1, _⟩ := (x4 i).mp h'
          (first | lia | omega)
        · rw [hz]
          show (i :: (cst ws i).1).length + 2 * (cst ws i).2.length = i + 1
          rw [List.length_cons]
          (first | lia | omega)
/-- the pairs as they stand in the dict -/
def kvC (ps : List (Nat × Nat)) : List (Key × V) := ps.map fun p => (Sum.inl (p.1 : Int), V.int (p.2 : Int))
theorem kvC_keys (ps : List (Nat × Nat)) : (kvC ps).map (·.1) = (ps.map fun p => (p.1 : Int)).map Sum.inl := by
  unfold kvC
  rw [List.map_map, List.map_map]
  rfl
theorem kvC_none {ps : List (Nat × Nat)} {p : Nat} (h : p ∉ ps.map (·.1)) : valV (kvC ps) (Sum.inl (p : Int)) = none := by
  induction ps with
  | nil => rfl
  | cons x ps ih =>
    rw [List.map_cons, List.mem_cons, not_or] at h
    show valV ((Sum.inl (x.1 : Int), V.int (x.2 : Int)) :: kvC ps) _ = none
    rw [valV_neg (fun z => h.1 (by injection z with z; exact (Int.ofNat.inj z).symm))]
    exact ih h.2
theorem kvC_some {ps : List (Nat × Nat)} {p e : Nat} (hn : (ps.map (·.1)).Nodup) (h : (p, e) ∈ ps) : valV (kvC ps) (Sum.inl (p : Int)) = some (.int (e : Int)) := by
  induction ps with
  | nil => cases h
  | cons x ps ih =>
    rw [List.map_cons, List.nodup_cons] at hn
    show valV ((Sum.inl (x.1 : Int), V.int (x.2 : Int)) :: kvC ps) _ = _
    rcases List.mem_cons.mp h with e1 | h
    · subst e1
      rw [valV_pos rfl]
    · rw [valV_neg (fun z => hn.1 (by injection z with z; rw [show x.1 = p from Int.ofNat.inj z]; exact List.mem_map.mpr ⟨_, h, rfl⟩))]
      exact ih hn.2 h
/-- a dict whose keys are these numbers -/
def DI (H : Hp) (p : Addr) (ns : List Int) : Prop := ∃ m : List (Key × V), H p = some (.dK m) ∧ m.map (·.1) = ns.map Sum.inl
theorem DI.has {m : List (Key × V)} {ns : List Int} (h : m.map (·.1) = ns.map Sum.inl) (x : Int) : (valV m (Sum.inl x)).isSome = decide (x ∈ ns) := by
  rw [← valV_any]
  have e1 : (m.any fun kv => decide (kv.1 = (Sum.inl x : Key))) = (m.map (·.1)).any (fun y => decide (y = (Sum.inl x : Key))) := by rw [List.any_map]; rfl
  rw [e1, h, List.any_map, Bool.eq_iff_iff, List.any_eq_true, decide_eq_true_eq]
  constructor
  · rintro ⟨y, hy, h⟩
    have := of_decide_eq_true h
    injection this with this
    rw [← this]
    exact hy
  · intro hx
    exact ⟨x, hx, decide_eq_true rfl⟩
end Fg

namespace L2
open PySem PySem.Spec PyProof.Rows
end L2

/-! len of a dict; the place of a number in a list -/
namespace L2
open PySem PySem.Spec PyProof.Rows PySem.W
end L2

/-! pairs of numbers in order; sorted of a dict whose keys are such pairs -/
namespace Srd
open PySem PyProof.Rows Srt PySem.W
end Srd
namespace L2
open PySem PySem.Spec PyProof.Rows PySem.W Srd
end L2

/-! list(d): the keys of a dict, in its order -/
namespace L2
open PySem PySem.Spec PyProof.Rows PySem.W Srd
/-- tuples that are keys, one behind another -/
def KL (H : Hp) (ys : List V) (ks : List (List Key)) : Prop := Paired (fun z k => ∃ b, z = V.ref b ∧ H b = some (.tup (k.map kV))) ys ks
theorem keys_kl {H : Hp} {kvs : List (List Key × V)} {xs : List (List Key × Addr × Value)} (h : Paired (fun (p : List Key × V) (q : List Key × Addr × Value) => p.1 = q.1 ∧ H q.2.1 = some (.tup (p.1.map kV)) ∧ RelV p.2 q.2.2) kvs xs) : ∃ ys, Vals ys (xs.map fun x => Value.ref x.2.1) ∧ KL H ys (kvs.map (·.1)) := by
  induction h with
  | nil => exact ⟨[], .nil, .nil⟩
  | @cons p q l m r t ih =>
    obtain ⟨ys, h1, h2⟩ := ih
    exact ⟨.ref q.2.1 :: ys, .cons rfl h1, .cons ⟨q.2.1, rfl, r.2.1⟩ h2⟩
theorem KL.quads {H : Hp} : ∀ {ys : List V} {qs : List Qd}, KL H ys (qs.map kOf) → QL H ys qs
  | [], [], _ => .nil
  | _ :: _, _ :: _, .cons ⟨b, e1, e2⟩ t => .cons ⟨b, e1, e2⟩ (KL.quads t)
section
variable {X : Cx}
theorem items_keys {es : Array DictEntry} {acc : Array Value} (hit : ItemsOf (fun i v => ∃ e, es[i]? = some e ∧ v = e.key) acc es.size) : acc.toList = es.toList.map (·.key) := by
  refine List.ext_getElem? fun j => ?_
  rw [Array.getElem?_toList, List.getElem?_map, Array.getElem?_toList]
  cases hj : acc[j]? with
  | none =>
    have h3 : acc.size ≤ j := Array.getElem?_eq_none_iff.mp hj
    rw [hit.1] at h3
    rw [Array.getElem?_eq_none h3]
    rfl
  | some v =>
    obtain ⟨e, h1, rfl⟩ := hit.2 j v hj
    rw [h1]
    rfl
end
end L2

/-! l.extend(d): the keys of a dict behind what l has -/
namespace L2
open PySem PySem.Spec PyProof.Rows PySem.W Srd
end L2

/-! for i, x in enumerate(tuple); min(list of ints) -/
namespace L2
open PySem PySem.Spec PyProof.Rows
section
variable {X : Cx} {elts : List Expr} {x1 : Nat} {tp : Pos}
theorem call_minL (hc : X.calm = true) : CallR X (.builtin "min") (fun xs H Q => ∃ (a : Addr) (ns : List Int), xs = [.ref a] ∧ SqL X.K H a (ns.map V.int) ∧ 0 < ns.length ∧ ∀ M, M ∈ ns → (∀ x, x ∈ ns → M ≤ x) → Q (.int M) H) := by
  intro pins s σ H xs us Q I r h
  obtain ⟨a, ns, rfl, hq, hn, q⟩ := h
  obtain ⟨u, rfl, r1⟩ := vals1 r
  cases r1
  obtain ⟨its, rv, pl, hz⟩ := I.list hq
  have hall : ∀ {ns : List Int} {its : List Value}, Vals (ns.map V.int) its → ∃ xs : List (Int × Tok), its = xs.map (fun p => Value.int p.1 p.2) ∧ xs.map (·.1) = ns := by
    intro ns
    induction ns with
    | nil =>
      intro its h
      cases h
      exact ⟨[], rfl, rfl⟩
    | cons n ns ih =>
      intro its h
      cases h with
      | cons h1 h2 =>
        obtain ⟨t, rfl⟩ := h1
        obtain ⟨xs, rfl, e⟩ := ih h2
        exact ⟨(n, t) :: xs, rfl, by rw [List.map_cons, e]⟩
  obtain ⟨ps, rfl, hps⟩ := hall rv
  have hl : s.heap.IsList a (intItems ps.toArray) := by
    have := pl.isList
    simpa [intItems] using this
  have hpl : ps.length = ns.length := by rw [← hps, List.length_map]
  refine min_intList (I.ok.hd hc) hl (by simp; (first | lia | omega)) fun v h' tk hv hk => ?_
  obtain ⟨t, rfl⟩ := intItems_at hv
  obtain ⟨h1, h2⟩ := argBest_lt (numAt ps.toArray) (ps.toArray.size - 1)
  refine ⟨V.int _, H, I.kept hk, ⟨t, rfl⟩, q _ ?_ fun x hx => ?_⟩
  · rw [numAt_eq, ← hps]
    exact getD_mem (by rw [List.length_map, Array.length_toList, List.size_toArray]; rw [List.size_toArray] at h1; (first | lia | omega))
  · rw [← hps] at hx
    obtain ⟨j, hj, rfl⟩ := mem_getD hx
    rw [List.length_map] at hj
    have := h2 j (by rw [List.size_toArray]; (first | lia | omega))
    rw [numAt_eq, numAt_eq] at this
    rw [numAt_eq]
    exact this
end
end L2

/-! runs: the first rule at each tag -/
namespace Fg
open PySem L2 FgM
end Fg

/-! list.insert; a quad in a tuple of quads, and its place there -/
namespace L2
open PySem PySem.Spec PyProof.Rows Srd
end L2

/-! an own class called with arguments; isinstance of an own class -/
namespace L2
open PySem PySem.Spec PyProof.Rows
end L2

/-! sorted(set(l)) of a list of texts of any length, of which few are unlike -/
namespace Stg
open PySem PyProof.Rows Sts
end Stg
namespace L2
open PySem PySem.Spec PyProof.Rows PySem.W Srd Sts Stg
end L2
namespace L2
open PySem PySem.Spec PyProof.Rows
end L2
namespace L2
open PySem PySem.Spec PyProof.Rows
end L2

/-! the reader: its state, in the heap and as lists of pairs -/
namespace Fg
open PySem L2 FgM
/-! in the heap -/
def KeepX (ex : List Addr) (H H' : Hp) : Prop := ∀ b o, b ∉ ex → H b = some o → H' b = some o
/-! the promises of the reader's methods -/
end Fg

/-! what the laws of the reader build -/
namespace Fg
open PySem L2 FgM
end Fg
namespace L2
open PySem PySem.Spec PyProof.Rows
/-- a comprehension over a range, with a test -/
theorem comp_rangeT {lo : Int} {n : Nat} {p : Addr} {g : TG} {tt : TT} {te : TE} {R : Hp → Prop} {σ0 : St} {H0 : Hp} (Pv : Nat → List V → St → Hp → Prop) (h0 : Pv 0 [] σ0 H0)
    (hl : ∀ i ys σ H, i ≤ n → Pv i ys σ H → H p = some (.lst ys))
    (hs : ∀ i ys σ H, i < n → Pv i ys σ H → g (.int (lo + i)) σ H fun σ3 H4 => tt σ3 H4 fun b H4' => if b = true then te σ3 H4' fun v H5 => H5 p = some (.lst ys) ∧ ys.length < sizeLine ∧ ∃ m', m' < n - i ∧ CW n Pv (i + 1) m' (ys ++ [v]) σ3 (upd H5 p (.lst (ys ++ [v])))
      else ∃ m', m' < n - i ∧ CW n Pv (i + 1) m' ys σ3 H4')
    (hd : ∀ ys σ H, Pv n ys σ H → R H) :
    ∃ W : Nat → Nat → List V → St → Hp → Prop, (∃ m, W 0 m [] σ0 H0) ∧ ∀ i m ys σc H2, W i m ys σc H2 → H2 p = some (.lst ys) ∧ (((Itr lo n).stop i H2 ∧ R H2) ∨ ((Itr lo n).go i H2 ∧ ∀ x H3, (Itr lo n).yld i H2 x H3 → g x σc H3 fun σ3 H4 => tt σ3 H4 fun b H4' => if b = true then te σ3 H4' fun v H5 =>
      H5 p = some (.lst ys) ∧ ys.length < sizeLine ∧ ∃ m', m' < m ∧ W (i + 1) m' (ys ++ [v]) σ3 (upd H5 p (.lst (ys ++ [v]))) else ∃ m', m' < m ∧ W (i + 1) m' ys σ3 H4')) := by
  refine ⟨CW n Pv, ⟨_, rfl, Nat.zero_le _, h0⟩, ?_⟩
  rintro i m ys σ H ⟨rfl, hi, hp⟩
  refine ⟨hl i ys σ H hi hp, ?_⟩
  by_cases hlt : i < n
  · refine .inr ⟨hlt, ?_⟩
    rintro x H3 ⟨rfl, rfl⟩
    exact hs i ys σ _ hlt hp
  · have e : i = n := by (first | lia | omega)
    subst e
    exact .inl ⟨Nat.le_refl _, hd ys σ H hp⟩
end L2
namespace L2
open PySem PySem.Spec PyProof.Rows
end L2
namespace Fg
open PySem L2 FgM
end Fg
namespace Fg
open PySem L2 FgM
/-- a cut within a block whose parts have names -/
theorem via {u t : TS} {D : Ends} {σ : St} {H : Hp} (R : St → Hp → Prop) (h2 : ∀ σ' H', R σ' H' → t D σ' H') (h1 : (∀ σ' H', R σ' H' → t D σ' H') → u D σ H) : u D σ H := h1 h2
end Fg
namespace Fg
open PySem L2 FgM
end Fg

/-! sorted(list of pairs), sorted(list of texts) -/
namespace L2
open PySem PySem.Spec PyProof.Rows PySem.W Srd Sts Stg
end L2
namespace Fg
open PySem L2 FgM
end Fg
namespace Fg
open PySem L2 FgM
end Fg
namespace L2
open PySem PySem.Spec PyProof.Rows
/-! a display of many written numbers -/
end L2
namespace L2
open PySem PySem.Spec PyProof.Rows
theorem call_list_ofK {X : Cx} {K : PySem.W.Frag} (hK : X.K = K) : CallR X (.type "list") (fun xs H Q => ∃ p ys, xs = [.ref p] ∧ (SqL K H p ys ∨ SqT K H p ys) ∧ ∀ l, H l = none → Q (.ref l) (upd H l (.lst ys))) := hK ▸ call_list_of
end L2
namespace Fg
open PySem L2 FgM
/-- two equal data, by == or != -/
theorem eq_data {K : PySem.W.Frag} {H : Hp} {a b : V} {d : PyData} {neg : Bool} {Q : VK} (ha : Dp K H a d) (hb : Dp K H b d) (hl : d.canLay0 = true) (hd : d.depth ≤ 200) (q : Q (.bl (!neg)) H) : rEqD K neg a b H Q := by
  refine ⟨d, d, ha, hb, hl, hl, by (first | lia | omega), ?_⟩
  rw [PySem.SeqAt.eqv_refl _ hl]
  cases neg <;> exact q
end Fg

/-! sorted(set(l)) of a list of pairs of numbers; a pair in a list of pairs -/
namespace L2
open PySem PySem.Spec PyProof.Rows PySem.W Srd Sts Stg
end L2

/-! sum(list of ints) -/
namespace L2
open PySem PySem.Spec PyProof.Rows
end L2

/-! min(list of ints, default=d) -/
namespace L2
open PySem PySem.Spec PyProof.Rows PySem.SeqAt
end L2

/-! a grove under way: rows and tags that are open; one tag opened, one shut -/
namespace Fg
open PySem L2 FgM
structure GvS (H H1 : Hp) (R T : Addr) (as : List Addr) (gs : List (Gr Str)) (ts : List Str) : Prop where
  sm : Same H H1
  hT : H1 T = some (.lst ((ts.map V.str).reverse))
  hR : H1 R = some (.lst ((as.map V.ref).reverse))
  rows : RowsR H1 as gs
  nd : (R :: T :: as).Nodup
  fr : ∀ b ∈ R :: T :: as, H b = none
  gl : gs.length = ts.length + 1
  cl : ∀ g ∈ gs, Clean SL g
  tn : ∀ t ∈ ts, t ≠ SL
section
variable {H H1 : Hp} {R T : Addr} {as : List Addr} {gs : List (Gr Str)} {ts : List Str}
theorem GvS.nR (h : GvS H H1 R T as gs ts) : ∀ b ∈ as, b ≠ R := fun b hb e => (List.nodup_cons.mp h.nd).1 (by rw [← e]; exact List.mem_cons_of_mem _ hb)
theorem GvS.nT (h : GvS H H1 R T as gs ts) : ∀ b ∈ as, b ≠ T := fun b hb e => (List.nodup_cons.mp (List.nodup_cons.mp h.nd).2).1 (by rw [← e]; exact hb)
theorem GvS.RT (h : GvS H H1 R T as gs ts) : R ≠ T := fun e => (List.nodup_cons.mp h.nd).1 (by rw [e]; exact List.mem_cons_self ..)
theorem GvS.start {a0 R T : Addr} (h0 : H a0 = none) (hR : (upd H a0 (.lst [])) R = none) (hT : (upd (upd H a0 (.lst [])) R (.lst [.ref a0])) T = none) : GvS H (upd (upd (upd H a0 (.lst [])) R (.lst [.ref a0])) T (.lst [])) R T [a0] [.nil] [] := by
  obtain ⟨nR0, hR'⟩ := upd_none hR
  obtain ⟨nTR, hT2⟩ := upd_none hT
  obtain ⟨nT0, hT'⟩ := upd_none hT2
  refine ⟨((Same.new h0).upd_new hR').upd_new hT', upd_same, ?_, .cons ⟨[], ?_, .nil⟩ .nil, ?_, ?_, rfl, ?_, fun _ h => (nomatch h)⟩
  · rw [upd_ne nTR.symm]
    exact upd_same
  · rw [upd_ne nT0.symm, upd_ne nR0.symm]
    exact upd_same
  · simp [nTR.symm, nR0, nT0]
  · intro b hb
    simp only [List.mem_cons, List.not_mem_nil, or_false] at hb
    rcases hb with rfl | rfl | rfl
    · exact hR'
    · exact hT'
    · exact h0
  · intro g hg
    obtain rfl := List.mem_singleton.mp hg
    trivial
theorem GvS.opened {wd : Str} {l : Addr} (h : GvS H H1 R T as gs ts) (hw : wd ≠ SL) (hl : (upd H1 T (.lst ((ts.map V.str).reverse ++ [.str wd]))) l = none) : GvS H (upd (upd (upd H1 T (.lst ((ts.map V.str).reverse ++ [.str wd]))) l (.lst [])) R (.lst ((as.map V.ref).reverse ++ [.ref l]))) R T (l :: as) (.nil :: gs) (wd :: ts) := by
  obtain ⟨nlT, hl1⟩ := upd_none hl
  have nlR : R ≠ l := ne_of_none h.hR hl1
  have hRT := h.RT
  have hRb : (upd (upd H1 T (.lst ((ts.map V.str).reverse ++ [.str wd]))) l (.lst [])) R = some (.lst (as.map V.ref).reverse) := by
    rw [upd_ne nlR, upd_ne hRT]
    exact h.hR
  have tk : TK H1 (upd (upd (upd H1 T (.lst ((ts.map V.str).reverse ++ [.str wd]))) l (.lst [])) R (.lst ((as.map V.ref).reverse ++ [.ref l]))) := ((TK.lst h.hT).trans (TK.new hl)).trans (TK.lst hRb)
  have nla : l ∉ as := fun hb => by
    obtain ⟨o, ho⟩ := rows_there h.rows l hb
    rw [hl1] at ho
    cases ho
  obtain ⟨ndR, ndT⟩ := List.nodup_cons.mp h.nd
  obtain ⟨ndT', ndA⟩ := List.nodup_cons.mp ndT
  refine ⟨((h.sm.upd_new (h.fr T (by simp))).upd_new (h.sm.free hl1)).upd_new (h.fr R (by simp)), ?_, ?_, .cons ⟨[], ?_, .nil⟩ (rows_mono tk h.rows fun b hb o ho => ?_), ?_, ?_, by rw [List.length_cons, List.length_cons, h.gl], ?_, ?_⟩
  · rw [upd_ne hRT.symm, upd_ne nlT.symm, upd_same, List.map_cons, List.reverse_cons]
  · rw [upd_same, List.map_cons, List.reverse_cons]
  · rw [upd_ne nlR.symm]
    exact upd_same
  · rw [upd_ne (h.nR b hb), upd_ne (ne_of_none ho hl1), upd_ne (h.nT b hb)]
    exact ho
  · refine List.nodup_cons.mpr ⟨fun h => ?_, List.nodup_cons.mpr ⟨fun h => ?_, List.nodup_cons.mpr ⟨nla, ndA⟩⟩⟩
    · rcases List.mem_cons.mp h with h | h
      · exact hRT h
      · rcases List.mem_cons.mp h with h | h
        · exact nlR h
        · exact ndR (List.mem_cons_of_mem _ h)
    · rcases List.mem_cons.mp h with h | h
      · exact nlT h.symm
      · exact ndT' h
  · intro b hb
    simp only [List.mem_cons] at hb
    rcases hb with rfl | rfl | rfl | hb
    · exact h.fr _ (by simp)
    · exact h.fr _ (by simp)
    · exact h.sm.free hl1
    · exact h.fr b (by simp [hb])
  · intro g hg
    rcases List.mem_cons.mp hg with rfl | hg
    · trivial
    · exact h.cl g hg
  · intro x hx
    rcases List.mem_cons.mp hx with rfl | hx
    · exact hw
    · exact h.tn x hx
end
section
variable {H H1 : Hp} {R T b0 b1 l l2 : Addr} {as : List Addr} {g0 g1 : Gr Str} {gs : List (Gr Str)} {t : Str} {ts : List Str} {vs0 vs1 : List V}
/-- what can be told ahead of a tag's end -/
theorem GvS.two {as0 : List Addr} {gs0 : List (Gr Str)} (h : GvS H H1 R T as0 gs0 (t :: ts)) : ∃ b0 b1 as g0 g1 gs vs0 vs1, as0 = b0 :: b1 :: as ∧ gs0 = g0 :: g1 :: gs ∧ gs.length = ts.length ∧ H1 b0 = some (.lst vs0) ∧ RepG H1 vs0 g0 ∧ H1 b1 = some (.lst vs1) ∧ RepG H1 vs1 g1 ∧
    H1 R = some (.lst (((b1 :: as).map V.ref).reverse ++ [.ref b0])) ∧ H1 T = some (.lst ((ts.map V.str).reverse ++ [.str t])) := by
  have hgl := h.gl
  have hR := h.hR
  have hT := h.hT
  have hrows := h.rows
  cases gs0 with
  | nil => simp at hgl
  | cons g0 gs =>
    cases gs with
    | nil => simp at hgl
    | cons g1 gs =>
      cases hrows with
      | @cons b0 _ as _ r0 hrows =>
        cases hrows with
        | @cons b1 _ as _ r1 hrows =>
          obtain ⟨vs0, h00, r00⟩ := r0
          obtain ⟨vs1, h11, r11⟩ := r1
          refine ⟨b0, b1, as, g0, g1, gs, vs0, vs1, rfl, rfl, by simpa using hgl, h00, r00, h11, r11, ?_, ?_⟩
          · rw [hR, List.map_cons, List.reverse_cons]
          · rw [hT, List.map_cons, List.reverse_cons]
theorem GvS.shut (h : GvS H H1 R T (b0 :: b1 :: as) (g0 :: g1 :: gs) (t :: ts)) (h00 : H1 b0 = some (.lst vs0)) (r00 : RepG H1 vs0 g0) (h11 : H1 b1 = some (.lst vs1)) (r11 : RepG H1 vs1 g1)
    (hl : (upd H1 R (.lst ((b1 :: as).map V.ref).reverse)) l = none) (hl2 : (upd (upd (upd H1 R (.lst ((b1 :: as).map V.ref).reverse)) l (.tup vs0)) T (.lst (ts.map V.str).reverse)) l2 = none) :
    GvS H (upd (upd (upd (upd (upd H1 R (.lst ((b1 :: as).map V.ref).reverse)) l (.tup vs0)) T (.lst (ts.map V.str).reverse)) l2 (.tup [.str t, .ref l])) b1 (.lst (vs1 ++ [.ref l2]))) R T (b1 :: as) (snoc g1 t g0 :: gs) ts := by
  have hRT := h.RT
  have m0 : b0 ∈ b0 :: b1 :: as := List.mem_cons_self ..
  have m1 : b1 ∈ b0 :: b1 :: as := List.mem_cons_of_mem _ (List.mem_cons_self ..)
  obtain ⟨ndR, ndT⟩ := List.nodup_cons.mp h.nd
  obtain ⟨ndT', ndA⟩ := List.nodup_cons.mp ndT
  obtain ⟨nlR, hl1⟩ := upd_none hl
  have hT1 := h.hT
  have hR1 := h.hR
  have nlT : l ≠ T := (ne_of_none hT1 hl1).symm
  have nl1 : b1 ≠ l := ne_of_none h11 hl1
  obtain ⟨n2T, hl2a⟩ := upd_none hl2
  obtain ⟨n2l, hl2b⟩ := upd_none hl2a
  obtain ⟨n2R, hl2c⟩ := upd_none hl2b
  have n21 : b1 ≠ l2 := ne_of_none h11 hl2c
  have h1b : (upd (upd H1 R (.lst ((b1 :: as).map V.ref).reverse)) l (.tup vs0)) b1 = some (.lst vs1) := by
    rw [upd_ne nl1, upd_ne (h.nR b1 m1)]
    exact h11
  have h1d : (upd (upd (upd (upd H1 R (.lst ((b1 :: as).map V.ref).reverse)) l (.tup vs0)) T (.lst (ts.map V.str).reverse)) l2 (.tup [.str t, .ref l])) b1 = some (.lst vs1) := by
    rw [upd_ne n21, upd_ne (h.nT b1 m1)]
    exact h1b
  have hTb : (upd (upd H1 R (.lst ((b1 :: as).map V.ref).reverse)) l (.tup vs0)) T = some (.lst (((t :: ts).map V.str).reverse)) := by
    rw [upd_ne nlT.symm, upd_ne hRT.symm]
    exact hT1
  have tk : TK H1 (upd (upd (upd (upd (upd H1 R (.lst ((b1 :: as).map V.ref).reverse)) l (.tup vs0)) T (.lst (ts.map V.str).reverse)) l2 (.tup [.str t, .ref l])) b1 (.lst (vs1 ++ [.ref l2]))) :=
    ((((TK.lst hR1).trans (TK.new hl)).trans (TK.lst hTb)).trans (TK.new hl2)).trans (TK.lst h1d)
  have ndA2 := (List.nodup_cons.mp ndA).2
  have n1as := (List.nodup_cons.mp ndA2).1
  have hrows : RowsR H1 as gs := by
    cases h.rows with
    | cons _ r =>
      cases r with
      | cons _ r => exact r
  refine ⟨((((h.sm.upd_new (h.fr R (by simp))).upd_new (h.sm.free hl1)).upd_new (h.fr T (by simp))).upd_new (h.sm.free hl2c)).upd_new (h.fr b1 (by simp)), ?_, ?_, .cons ⟨_, upd_same, RepG.snoc (q := l) (ys := vs0) ?_ ?_ (r00.mono tk) (r11.mono tk)⟩ (rows_mono tk hrows fun b hb o ho => ?_), ?_, ?_, ?_, ?_, ?_⟩
  · rw [upd_ne (h.nT b1 m1).symm, upd_ne n2T.symm, upd_same]
  · rw [upd_ne (h.nR b1 m1).symm, upd_ne n2R.symm, upd_ne hRT, upd_ne nlR.symm, upd_same]
  · rw [upd_ne n21.symm]
    exact upd_same
  · rw [upd_ne nl1.symm, upd_ne n2l.symm, upd_ne nlT]
    exact upd_same
  · have mb : b ∈ b0 :: b1 :: as := List.mem_cons_of_mem _ (List.mem_cons_of_mem _ hb)
    have nb1 : b ≠ b1 := fun e => n1as (by rw [← e]; exact hb)
    rw [upd_ne nb1, upd_ne (ne_of_none ho hl2c), upd_ne (h.nT b mb), upd_ne (ne_of_none ho hl1), upd_ne (h.nR b mb)]
    exact ho
  · refine List.nodup_cons.mpr ⟨fun h => ?_, List.nodup_cons.mpr ⟨fun h => ndT' (List.mem_cons_of_mem _ h), ndA2⟩⟩
    rcases List.mem_cons.mp h with h | h
    · exact hRT h
    · exact ndR (List.mem_cons_of_mem _ (List.mem_cons_of_mem _ h))
  · intro b hb
    refine h.fr b ?_
    simp only [List.mem_cons] at hb ⊢
    rcases hb with h | h | h | h
    · exact .inl h
    · exact .inr (.inl h)
    · exact .inr (.inr (.inr (.inl h)))
    · exact .inr (.inr (.inr (.inr h)))
  · have := h.gl
    simpa using this
  · intro g hg
    rcases List.mem_cons.mp hg with rfl | hg
    · exact clean_snoc (h.tn t (List.mem_cons_self ..)) (h.cl g0 (List.mem_cons_self ..)) (h.cl g1 (List.mem_cons_of_mem _ (List.mem_cons_self ..)))
    · exact h.cl g (List.mem_cons_of_mem _ (List.mem_cons_of_mem _ hg))
  · exact fun x hx => h.tn x (List.mem_cons_of_mem _ hx)
theorem GvS.f1 (h : GvS H H1 R T (b0 :: b1 :: as) (g0 :: g1 :: gs) (t :: ts)) (h00 : H1 b0 = some (.lst vs0)) : (upd H1 R (.lst ((b1 :: as).map V.ref).reverse)) b0 = some (.lst vs0) := by
  rw [upd_ne (h.nR b0 (List.mem_cons_self ..))]
  exact h00
theorem GvS.f2 (h : GvS H H1 R T (b0 :: b1 :: as) (g0 :: g1 :: gs) (t :: ts)) (h11 : H1 b1 = some (.lst vs1)) (hl : (upd H1 R (.lst ((b1 :: as).map V.ref).reverse)) l = none) :
    (upd (upd H1 R (.lst ((b1 :: as).map V.ref).reverse)) l (.tup vs0)) R = some (.lst ((as.map V.ref).reverse ++ [.ref b1])) ∧ (upd (upd H1 R (.lst ((b1 :: as).map V.ref).reverse)) l (.tup vs0)) b1 = some (.lst vs1) ∧
    (upd (upd H1 R (.lst ((b1 :: as).map V.ref).reverse)) l (.tup vs0)) T = some (.lst ((ts.map V.str).reverse ++ [.str t])) := by
  obtain ⟨nlR, hl1⟩ := upd_none hl
  have nlT : l ≠ T := (ne_of_none h.hT hl1).symm
  have nl1 : b1 ≠ l := ne_of_none h11 hl1
  refine ⟨?_, ?_, ?_⟩
  · rw [upd_ne nlR.symm, upd_same, List.map_cons, List.reverse_cons]
  · rw [upd_ne nl1, upd_ne (h.nR b1 (List.mem_cons_of_mem _ (List.mem_cons_self ..)))]
    exact h11
  · rw [upd_ne nlT.symm, upd_ne h.RT.symm, h.hT, List.map_cons, List.reverse_cons]
theorem GvS.f3 (h : GvS H H1 R T (b0 :: b1 :: as) (g0 :: g1 :: gs) (t :: ts)) (h11 : H1 b1 = some (.lst vs1)) (hl : (upd H1 R (.lst ((b1 :: as).map V.ref).reverse)) l = none) (hl2 : (upd (upd (upd H1 R (.lst ((b1 :: as).map V.ref).reverse)) l (.tup vs0)) T (.lst (ts.map V.str).reverse)) l2 = none) :
    (upd (upd (upd (upd H1 R (.lst ((b1 :: as).map V.ref).reverse)) l (.tup vs0)) T (.lst (ts.map V.str).reverse)) l2 (.tup [.str t, .ref l])) b1 = some (.lst vs1) := by
  obtain ⟨_, hl2a⟩ := upd_none hl2
  obtain ⟨_, hl2b⟩ := upd_none hl2a
  obtain ⟨_, hl2c⟩ := upd_none hl2b
  rw [upd_ne (ne_of_none h11 hl2c), upd_ne (h.nT b1 (List.mem_cons_of_mem _ (List.mem_cons_self ..)))]
  exact (h.f2 h11 hl).2.1
/-- the words so far, one tag shut -/
theorem flat_shut (hgs : gs.length = ts.length) : (flatR SL (snoc g1 t g0 :: gs) ts).length = (flatR SL (g0 :: g1 :: gs) (t :: ts)).length + 1 ∧ (∀ x ∈ flatR SL (snoc g1 t g0 :: gs) ts, x = SL ∨ x ∈ flatR SL (g0 :: g1 :: gs) (t :: ts)) ∧ (words SL g1).length ≤ (flatR SL (g0 :: g1 :: gs) (t :: ts)).length := by
  have e := flatR_close SL t (w := g0) (r := g1) hgs
  refine ⟨?_, fun x hx => ?_, ?_⟩
  · rw [e, List.length_append, List.length_singleton]
  · rw [e] at hx
    rcases List.mem_append.mp hx with hx | hx
    · exact .inr hx
    · exact .inl (List.mem_singleton.mp hx)
  · have h1 := flatR_ge SL (r := g1) hgs
    simp only [flatR, List.length_append]
    (first | lia | omega)
end
/-! how many tags, how deep, what is within each -/
def gsz : Gr Str → Nat
  | .nil => 0
  | .cons _ w o => 1 + gsz w + gsz o
def gdep : Gr Str → Nat
  | .nil => 0
  | .cons _ w o => max (gdep w + 1) (gdep o)
def kidsG : Gr Str → List (Gr Str)
  | .nil => []
  | .cons _ w o => w :: kidsG o
theorem gsz_words : ∀ g : Gr Str, (words SL g).length = 2 * gsz g
  | .nil => rfl
  | .cons t w o => by
    have h1 := gsz_words w
    have h2 := gsz_words o
    simp only [words, gsz, List.length_cons, List.length_append]
    (first | lia | omega)
theorem gdep_le : ∀ g : Gr Str, gdep g ≤ gsz g
  | .nil => Nat.le_refl _
  | .cons t w o => by
    have h1 := gdep_le w
    have h2 := gdep_le o
    simp only [gdep, gsz]
    (first | lia | omega)
theorem kid_dep : ∀ {g w : Gr Str}, w ∈ kidsG g → gdep w < gdep g
  | .cons t w' o, w, h => by
    simp only [gdep]
    rcases List.mem_cons.mp h with rfl | h
    · (first | lia | omega)
    · have := kid_dep h
      (first | lia | omega)
theorem kid_sz : ∀ {g w : Gr Str}, w ∈ kidsG g → gsz w < gsz g
  | .cons t w' o, w, h => by
    simp only [gsz]
    rcases List.mem_cons.mp h with rfl | h
    · (first | lia | omega)
    · have := kid_sz h
      (first | lia | omega)
end Fg

/-! where the tags of a grove end; what stands at each place; how far two groves are apart -/
namespace Fg
open PySem L2 FgM
def prs : Nat → Gr Str → List (Nat × Nat)
  | _, .nil => []
  | k, .cons _ w o => prs (k + 1) w ++ (k, k + 1 + 2 * gsz w) :: prs (k + 2 + 2 * gsz w) o
/-- the rest of the row at a place -/
def atG : Gr Str → Nat → Gr Str
  | .nil, _ => .nil
  | .cons t w o, 0 => .cons t w o
  | .cons _ w o, i + 1 => if i ≤ 2 * gsz w then atG w i else atG o (i - (2 * gsz w + 1))
theorem atG_zero : ∀ g : Gr Str, atG g 0 = g
  | .nil => rfl
  | .cons _ _ _ => rfl
theorem atG_in {t : Str} {w o : Gr Str} {i : Nat} (h : i ≤ 2 * gsz w) : atG (.cons t w o) (i + 1) = atG w i := by
  show (if i ≤ 2 * gsz w then _ else _) = _
  rw [if_pos h]
theorem atG_out {t : Str} {w o : Gr Str} {i : Nat} : atG (.cons t w o) (i + 2 * gsz w + 2) = atG o i := by
  show (if i + 2 * gsz w + 1 ≤ 2 * gsz w then _ else _) = _
  rw [if_neg (by (first | lia | omega))]
  congr 1
  (first | lia | omega)
theorem words_in {t : Str} {w o : Gr Str} {j : Nat} (h : j < 2 * gsz w) : (words SL (.cons t w o))[j + 1]? = (words SL w)[j]? := by
  show (t :: (words SL w ++ SL :: words SL o))[j + 1]? = _
  rw [List.getElem?_cons_succ, List.getElem?_append_left (by rw [gsz_words]; exact h)]
theorem words_end {t : Str} {w o : Gr Str} : (words SL (.cons t w o))[2 * gsz w + 1]? = some SL := by
  show (t :: (words SL w ++ SL :: words SL o))[2 * gsz w + 1]? = _
  rw [List.getElem?_cons_succ, List.getElem?_append_right (by rw [gsz_words]; exact Nat.le_refl _), gsz_words, Nat.sub_self]
  rfl
theorem words_out {t : Str} {w o : Gr Str} {j : Nat} : (words SL (.cons t w o))[j + 2 * gsz w + 2]? = (words SL o)[j]? := by
  show (t :: (words SL w ++ SL :: words SL o))[j + 2 * gsz w + 1 + 1]? = _
  rw [List.getElem?_cons_succ, List.getElem?_append_right (by rw [gsz_words]; (first | lia | omega)), gsz_words, show j + 2 * gsz w + 1 - 2 * gsz w = j + 1 by (first | lia | omega), List.getElem?_cons_succ]
theorem cst_words : ∀ (g : Gr Str) (ws : List Str) (k : Nat), Clean SL g → (∀ j, j < 2 * gsz g → ws[k + j]? = (words SL g)[j]?) → cst ws (k + 2 * gsz g) = ((cst ws k).1, (cst ws k).2 ++ prs k g)
  | .nil, ws, k, _, _ => by
    show cst ws k = ((cst ws k).1, (cst ws k).2 ++ [])
    rw [List.append_nil]
  | .cons t w o, ws, k, hc, h => by
    obtain ⟨ht, hw, ho⟩ := hc
    have hz : gsz (.cons t w o) = 1 + gsz w + gsz o := rfl
    have h0 : ws[k]? = some t := h 0 (by rw [hz]; (first | lia | omega))
    have e1 := cst_tag h0 ht
    have e2 := cst_words w ws (k + 1) hw fun j hj => by
      have := h (j + 1) (by rw [hz]; (first | lia | omega))
      rw [words_in hj] at this
      rw [← this]
      congr 1
      (first | lia | omega)
    have h3 : ws[k + 1 + 2 * gsz w]? = some SL := by
      have := h (2 * gsz w + 1) (by rw [hz]; (first | lia | omega))
      rw [words_end] at this
      rw [← this]
      congr 1
      (first | lia | omega)
    rw [e1] at e2
    have e3 := cst_end (i := k + 1 + 2 * gsz w) (o := k) (os := (cst ws k).1) h3 (by rw [e2])
    have e4 := cst_words o ws (k + 2 + 2 * gsz w) ho fun j hj => by
      have := h (j + 2 * gsz w + 2) (by rw [hz]; (first | lia | omega))
      rw [words_out] at this
      rw [← this]
      congr 1
      (first | lia | omega)
    rw [show k + 2 * gsz (.cons t w o) = k + 2 + 2 * gsz w + 2 * gsz o by rw [hz]; (first | lia | omega), e4, show k + 2 + 2 * gsz w = k + 1 + 2 * gsz w + 1 by (first | lia | omega), e3, e2]
    show _ = (_, _ ++ (prs (k + 1) w ++ (k, k + 1 + 2 * gsz w) :: prs (k + 2 + 2 * gsz w) o))
    rw [show k + 2 + 2 * gsz w = k + 1 + 2 * gsz w + 1 by (first | lia | omega)]
    simp
theorem prs_at : ∀ (g : Gr Str) (k p e : Nat), (p, e) ∈ prs k g → ∃ i, p = k + i ∧ ∃ t w o, atG g i = .cons t w o ∧ e = p + 1 + 2 * gsz w ∧ atG g (i + 1) = w ∧ atG g (i + 2 * gsz w + 2) = o ∧ (words SL g)[i]? = some t ∧ i + 2 * gsz w + 2 ≤ 2 * gsz g
  | .cons t w o, k, p, e, h => by
    have hz : gsz (.cons t w o) = 1 + gsz w + gsz o := rfl
    rcases List.mem_append.mp h with h | h
    · obtain ⟨i, rfl, t', w', o', h1, h2, h3, h4, h5, h6⟩ := prs_at w (k + 1) p e h
      refine ⟨i + 1, by (first | lia | omega), t', w', o', ?_, h2, ?_, ?_, ?_, by rw [hz]; (first | lia | omega)⟩
      · rw [atG_in (by (first | lia | omega))]
        exact h1
      · rw [atG_in (by (first | lia | omega))]
        exact h3
      · rw [show i + 1 + 2 * gsz w' + 2 = (i + 2 * gsz w' + 2) + 1 by (first | lia | omega), atG_in (by (first | lia | omega))]
        exact h4
      · rw [words_in (by (first | lia | omega))]
        exact h5
    · rcases List.mem_cons.mp h with h | h
      · injection h with h1 h2
        subst h1 h2
        refine ⟨0, rfl, t, w, o, rfl, rfl, ?_, ?_, rfl, by rw [hz]; (first | lia | omega)⟩
        · rw [atG_in (Nat.zero_le _)]
          exact atG_zero w
        · rw [atG_out]
          exact atG_zero o
      · obtain ⟨i, rfl, t', w', o', h1, h2, h3, h4, h5, h6⟩ := prs_at o (k + 2 + 2 * gsz w) p e h
        refine ⟨i + 2 * gsz w + 2, by (first | lia | omega), t', w', o', ?_, h2, ?_, ?_, ?_, by rw [hz]; (first | lia | omega)⟩
        · rw [atG_out]
          exact h1
        · rw [show i + 2 * gsz w + 2 + 1 = i + 1 + 2 * gsz w + 2 by (first | lia | omega), atG_out]
          exact h3
        · rw [show i + 2 * gsz w + 2 + 2 * gsz w' + 2 = (i + 2 * gsz w' + 2) + 2 * gsz w + 2 by (first | lia | omega), atG_out]
          exact h4
        · rw [words_out]
          exact h5
theorem prs_no : ∀ (g : Gr Str) (k i : Nat), k + i ∉ (prs k g).map (·.1) → i ≤ 2 * gsz g → atG g i = .nil
  | .nil, _, _, _, _ => rfl
  | .cons t w o, k, i, h, hi => by
    have hz : gsz (.cons t w o) = 1 + gsz w + gsz o := rfl
    have h' : k + i ∉ (prs (k + 1) w).map (·.1) ∧ k + i ≠ k ∧ k + i ∉ (prs (k + 2 + 2 * gsz w) o).map (·.1) := by
      have e : (prs k (.cons t w o)).map (·.1) = (prs (k + 1) w).map (·.1) ++ k :: (prs (k + 2 + 2 * gsz w) o).map (·.1) := by
        show (prs (k + 1) w ++ (k, k + 1 + 2 * gsz w) :: prs (k + 2 + 2 * gsz w) o).map (·.1) = _
        rw [List.map_append, List.map_cons]
      rw [e, List.mem_append, List.mem_cons] at h
      exact ⟨fun z => h (.inl z), fun z => h (.inr (.inl z)), fun z => h (.inr (.inr z))⟩
    obtain ⟨h1, h2, h3⟩ := h'
    match i, h1, h2, h3, hi with
    | 0, _, h2, _, _ => exact absurd rfl h2
    | i + 1, h1, _, h3, hi =>
      by_cases c : i ≤ 2 * gsz w
      · rw [atG_in c]
        exact prs_no w (k + 1) i (by rw [show k + 1 + i = k + (i + 1) by (first | lia | omega)]; exact h1) c
      · obtain ⟨j, rfl⟩ : ∃ j, i = j + 2 * gsz w + 1 := ⟨i - (2 * gsz w + 1), by (first | lia | omega)⟩
        rw [show j + 2 * gsz w + 1 + 1 = j + 2 * gsz w + 2 by (first | lia | omega), atG_out]
        exact prs_no o (k + 2 + 2 * gsz w) j (by rw [show k + 2 + 2 * gsz w + j = k + (j + 2 * gsz w + 1 + 1) by (first | lia | omega)]; exact h3) (by rw [hz] at hi; (first | lia | omega))
end Fg

/-! a tuple times an int; max(list of ints) -/
namespace L2
open PySem PySem.Spec PyProof.Rows
end L2

/-! a table: a list of lists of ints, each row a list of its own -/
namespace Fg
open PySem L2 FgM
end Fg

/-! how far groves are apart: steps, and what they tell -/
namespace Fg
open PySem L2 FgM
end Fg

/-! groves changed tree by tree; == of groves -/
namespace Fg
open PySem L2 FgM
def takeG : Nat → Gr Str → Gr Str
  | 0, _ => .nil
  | _ + 1, .nil => .nil
  | i + 1, .cons t w o => .cons t w (takeG i o)
theorem RepG.tree {H : Hp} : ∀ {xs : List V} {g : Gr Str}, RepG H xs g → ∀ (i : Nat) z, xs[i]? = some z → ∃ p q t ys w, z = V.ref p ∧ H p = some (.tup [.str t, .ref q]) ∧ H q = some (.tup ys) ∧ RepG H ys w ∧ takeG (i + 1) g = FgM.gapp (takeG i g) (FgM.Gr.cons t w FgM.Gr.nil) ∧ w ∈ kidsG g
  | _, _, .cons h1 h2 h3 t, i, z, hz => by
    cases i with
    | zero =>
      injection hz with hz
      subst hz
      exact ⟨_, _, _, _, _, rfl, h1, h2, h3, rfl, List.mem_cons_self ..⟩
    | succ i =>
      obtain ⟨p, q, t', ys, w, e1, e2, e3, e4, e5, e6⟩ := RepG.tree t i z hz
      refine ⟨p, q, t', ys, w, e1, e2, e3, e4, ?_, List.mem_cons_of_mem _ e6⟩
      show Gr.cons _ _ (takeG (i + 1) _) = Gr.cons _ _ (FgM.gapp (takeG i _) _)
      rw [e5]
theorem RepG.take_all {H : Hp} : ∀ {xs : List V} {g : Gr Str}, RepG H xs g → takeG xs.length g = g
  | _, _, .nil => rfl
  | _, _, .cons _ _ _ t => by
    show Gr.cons _ _ (takeG _ _) = _
    rw [RepG.take_all t]
end Fg

/-! dict(list of pairs) whose keys are tuples -/
namespace Srd
open PySem PyProof.Rows
end Srd
namespace L2
open PySem PySem.Spec PyProof.Rows PySem.W Srd
end L2

/-! pairs of a number and a text in order; sorted of a dict whose keys are such pairs -/
namespace Srd
open PySem PyProof.Rows Srt PySem.W
end Srd
namespace L2
open PySem PySem.Spec PyProof.Rows PySem.W Srd
end L2

/-! parts of changers in the heap, streams; text.index, list.index of a tuple -/
namespace L2
open PySem PySem.Spec PyProof.Rows PySem.W
end L2
namespace Fg
open PySem L2 FgM
namespace Pa
end Pa
end Fg

/-! methods that may raise; isinstance of an exception, of any class -/
namespace L2
open PySem PySem.Spec PyProof.Rows PySem.W
end L2
namespace L2
open PySem PySem.Spec PyProof.Rows
end L2
namespace L2
open PySem PySem.Spec PyProof.Rows
end L2

/-! for k in d: a dict by ints or texts, walked; it is held fast while it is walked -/
namespace L2
open PySem PySem.Spec PyProof.Rows PySem.W
end L2

/-! C() where the class has no __init__ of its own -/
namespace L2
open PySem PySem.Spec PyProof.Rows PySem.W
end L2

/-! a def with defaults -/
namespace L2
open PySem PySem.Spec PyProof.Rows
end L2

/-! what comes of a grove by a changer, in any sense; the changed grove, its tags and depth -/
namespace Fg
open PySem L2 FgM
end Fg
namespace Fg
open PySem L2 FgM
end Fg

/-! sorted(d, reverse=True) at any length; defs with defaults that may raise -/
namespace Srd
open PySem PyProof.Rows Srt PySem.W
end Srd
namespace L2
open PySem PySem.Spec PyProof.Rows PySem.W
end L2
namespace L2
open PySem PySem.Spec PyProof.Rows
end L2

/-! a text put into a text by its repr: f'{x!r}' -/
namespace L2
open PySem PySem.Spec PyProof.Rows
end L2

/-! a dict by tuples, walked; sorted of a list of pairs of a number and a text; range with any step -/
namespace L2
open PySem PySem.Spec PyProof.Rows PySem.W
end L2
/-! a statement with a deep display, shut: pss_one would unfold it all -/
namespace L2
open PySem PySem.Spec PyProof.Rows
end L2

/-! an own class whose __init__ may raise -/
namespace L2
open PySem PySem.Spec PyProof.Rows PySem.W
end L2
/-! a dict by tuples that was walked may be changed again; a dict of one pair -/
namespace L2
open PySem PySem.Spec PyProof.Rows PySem.W
end L2
/-! isinstance of an exception without fields, of any class -/
namespace L2
open PySem PySem.Spec PyProof.Rows PySem.W
end L2

/-! str of nested tuples, min of three numbers, list(range(n)) -/
namespace L2
open PySem PySem.Spec PyProof.Rows
end L2

/-! the text of a grove's tuples tells the grove; the distance of flat rows from behind -/
namespace Fg
open PySem PySem.Spec PyProof.Rows L2 FgM
end Fg

/-! sorted of a dict whose keys are tuples (int, str, int, int) -/
namespace L2
open PySem PySem.Spec PyProof.Rows PySem.W Srd
section
variable {X : Cx}
theorem call_sorted_dQ (hc : X.calm = true) : CallR X (.builtin "sorted") (fun xs H Q => ∃ (d : Addr) (kvs : List (List Key × V)) (qs : List Qd), xs = [.ref d] ∧ H d = some (.dT kvs) ∧ kvs.length ≤ 90000 ∧ kvs.map (·.1) = qs.map kOf ∧ ∀ (r : Addr) (zs : List V) (ms : List Qd), H r = none → ms.Pairwise (fun a b => qLt b a = false) → ms.Perm qs → QL H zs ms → Q (.ref r) (upd H r (.lst zs))) := by
  intro pins s σ H xs us Q I r h
  obtain ⟨d, kvs, qs, rfl, hd, hlen, hkn, q⟩ := h
  obtain ⟨u, rfl, rx⟩ := vals1 r
  obtain rfl : u = .ref d := rx
  obtain ⟨z, lo, xs, rel, o, es, ep, ho, hx, hdat, hes, hnd⟩ := (show ObjOk X.prog X.w H s.heap d (.dT kvs) from I.hok d _ hd)
  obtain ⟨ys, rv, kl⟩ := keys_kl rel
  rw [hkn] at kl
  have pl := kl.quads
  have hek : es.toList.map (·.key) = xs.map fun x => Value.ref x.2.1 := by
    rw [hes, List.map_map]
    rfl
  have hxl : kvs.length = xs.length := rel.length
  have hel : es.size = xs.length := by rw [← Array.length_toList, hes, List.length_map]
  refine sorted_colL (lv := fun u v => qLt (kq s.heap u) (kq s.heap v)) (C := fun ys => ys = xs.map fun x => Value.ref x.2.1) (qLt_sto.swo (kq s.heap)) (fun Q' E' hq => ?_) (fun ys' h6 tk6 d6 hC k6 h2l => ?_) fun pa ys' out h3 tk3 d3 c hC hperm hso k3 e3 hle hos => ?_
  · refine collect_src (raw_src lo) (I.ok.hd hc) (⟨o, ho, hx, hdat⟩ : RawD s.heap d es ep) (by rw [sizeLine_eq]; (first | lia | omega)) fun acc h' tk kp hit hle => ?_
    have hacc := items_keys hit
    rw [hacc, hek]
    exact hq _ h' tk s.drawn kp rfl (by rw [List.length_map]; (first | lia | omega)) hle
  · subst hC
    refine qs_sortableL (h0 := s.heap) (fun v hv => ?_) k6 h2l
    obtain ⟨y, hy, ry⟩ := vals_mem rv v hv
    obtain ⟨t, q1, _, rfl, e2⟩ := pl.mem y hy
    obtain rfl : v = Value.ref t := ry
    exact ⟨q1, isQ_of I.hok e2⟩
  · subst hC
    obtain ⟨zs, rz, hzq⟩ := ql_sub I.hok rv pl out.toList fun u hu => hperm.mem_iff.mp hu
    have hzl : zs.length = out.size := rz.length.trans (Array.length_toList ..)
    have hol : out.size = xs.length := by
      have := hperm.length_eq
      rw [Array.length_toList, List.length_map] at this
      exact this
    have I2 := I.laid (h' := h3) (t' := tk3) (a := pa) (o := .lst zs) (fun b o e => k3 b o e) hle (show ObjOk X.prog X.w _ h3 _ (.lst zs) from ⟨by rw [sizeLine_eq]; (first | lia | omega), out.toList, c, rz, e3⟩)
    refine ⟨.ref pa, _, I2.draws (d := d3), rfl, q pa zs _ (I.hok.fresh hle) (List.pairwise_map.mpr hso) ?_ hzq⟩
    rw [← kq_all I.hok rv pl]
    exact hperm.map _
end
end L2

namespace K85
open PySem L2 FgM Fg
def top (i : Nat) : Stmt := PySem.Challenge.pw_formgrove_k85_paper_of_prices.main.body.getD i (.Pass ⟨0, 0, 0, 0⟩)
abbrev s_words_of : Stmt := top 1
abbrev s_closings : Stmt := top 2
abbrev s_tree_size : Stmt := top 4
abbrev s_fewest : Stmt := top 6
abbrev s_lower : Stmt := top 7
abbrev s_count_above : Stmt := top 8
abbrev s_paper : Stmt := top 10
abbrev s_prices_of_cut : Stmt := top 11
abbrev s_keep_price : Stmt := top 12
abbrev s_l_cell_at : Stmt := top 14
abbrev s_l_word : Stmt := top 15
abbrev s_l_pool : Stmt := top 16
abbrev s_l_grove : Stmt := top 17
abbrev s_l_form : Stmt := top 18
abbrev s_l_fewest : Stmt := top 19
abbrev s_l_words : Stmt := top 20
abbrev s_l_close : Stmt := top 21
abbrev s_l_ways : Stmt := top 22
abbrev s_l_is_sheet : Stmt := top 23
abbrev s_l_holds : Stmt := top 24
abbrev s_law : Stmt := top 25
theorem sc_words_of : FnScope ["grove", "words", "waiting", "tree"] ["grove"] (defScope s_words_of) := ⟨rfl, rfl, rfl, by decide +kernel, rfl, by decide +kernel, by decide +kernel⟩
theorem sc_closings : FnScope ["words", "ended_at", "begun", "place", "word"] ["words"] (defScope s_closings) := ⟨rfl, rfl, rfl, by decide +kernel, rfl, by decide +kernel, by decide +kernel⟩
theorem sc_tree_size : FnScope ["ended_at", "place"] ["ended_at", "place"] (defScope s_tree_size) := ⟨rfl, rfl, rfl, by decide +kernel, rfl, by decide +kernel, by decide +kernel⟩
theorem sc_fewest : FnScope ["form", "counts", "end"] ["form"] (defScope s_fewest) := ⟨rfl, rfl, rfl, by decide +kernel, rfl, by decide +kernel, by decide +kernel⟩
theorem sc_lower : FnScope ["rules", "inners", "counts", "fallen", "kind", "tag", "inner", "rest", "count"] ["rules", "inners", "counts"] (defScope s_lower) := ⟨rfl, rfl, rfl, by decide +kernel, rfl, by decide +kernel, by decide +kernel⟩
theorem sc_count_above : FnScope ["inner", "rest"] ["inner", "rest"] (defScope s_count_above) := ⟨rfl, rfl, rfl, by decide +kernel, rfl, by decide +kernel, by decide +kernel⟩
theorem sc_paper : FnScope ["form", "grove", "words", "ended_at", "puts", "told", "alive", "place", "others", "prices", "kind", "tag", "inner", "rest", "kept"] ["form", "grove"] (defScope s_paper) := ⟨rfl, rfl, rfl, by decide +kernel, rfl, by decide +kernel, by decide +kernel⟩
theorem sc_prices_of_cut : FnScope ["tags", "others"] ["tags", "others"] (defScope s_prices_of_cut) := ⟨rfl, rfl, rfl, by decide +kernel, rfl, by decide +kernel, by decide +kernel⟩
theorem sc_keep_price : FnScope ["word", "tag"] ["word", "tag"] (defScope s_keep_price) := ⟨rfl, rfl, rfl, by decide +kernel, rfl, by decide +kernel, by decide +kernel⟩
theorem sc_l_cell_at : FnScope ["_law_script", "_law_k"] ["_law_script", "_law_k"] (defScope s_l_cell_at) := ⟨rfl, rfl, rfl, by decide +kernel, rfl, by decide +kernel, by decide +kernel⟩
theorem sc_l_word : FnScope ["_law_cell", "_law_word_here", "_law_k", "_law_number"] ["_law_cell"] (defScope s_l_word) := ⟨rfl, rfl, rfl, by decide +kernel, rfl, by decide +kernel, by decide +kernel⟩
theorem sc_l_pool : FnScope ["_law_cell", "_law_many", "_law_base", "_law_at", "_law_letters"] ["_law_cell", "_law_many"] (defScope s_l_pool) := ⟨rfl, rfl, rfl, by decide +kernel, rfl, by decide +kernel, by decide +kernel⟩
theorem sc_l_grove : FnScope ["_law_script", "_law_start", "_law_many", "_law_tags", "_law_rows", "_law_opened", "_law_k", "_law_cell", "_law_number", "_law_j", "_law_kidrow"] ["_law_script", "_law_start", "_law_many", "_law_tags"] (defScope s_l_grove) := ⟨rfl, rfl, rfl, by decide +kernel, rfl, by decide +kernel, by decide +kernel⟩
theorem sc_l_form : FnScope ["_law_script", "_law_tags", "_law_first", "_law_many", "_law_rules", "_law_k", "_law_cell", "_law_kind", "_law_stops"] ["_law_script", "_law_tags"] (defScope s_l_form) := ⟨rfl, rfl, rfl, by decide +kernel, rfl, by decide +kernel, by decide +kernel⟩
theorem sc_l_fewest : FnScope ["_law_form_told", "_law_found", "_law_kind", "_law_k", "_law_tag", "_law_inner", "_law_later"] ["_law_form_told"] (defScope s_l_fewest) := ⟨rfl, rfl, rfl, by decide +kernel, rfl, by decide +kernel, by decide +kernel⟩
theorem sc_l_words : FnScope ["_law_row", "_law_words_here", "_law_tag", "_law_kidrow"] ["_law_row"] (defScope s_l_words) := ⟨rfl, rfl, rfl, by decide +kernel, rfl, by decide +kernel, by decide +kernel⟩
theorem sc_l_close : FnScope ["_law_words_here", "_law_place", "_law_opened"] ["_law_words_here", "_law_place"] (defScope s_l_close) := ⟨rfl, rfl, rfl, by decide +kernel, rfl, by decide +kernel, by decide +kernel⟩
theorem sc_l_ways : FnScope ["_law_told", "_law_form_told", "_law_many", "_law_words_here", "_law_place", "_law_kind", "_law_ways_here", "_law_rules", "_law_rule", "_law_close_here", "_law_both"] ["_law_told", "_law_form_told", "_law_many", "_law_words_here", "_law_place", "_law_kind"] (defScope s_l_ways) := ⟨rfl, rfl, rfl, by decide +kernel, rfl, by decide +kernel, by decide +kernel⟩
theorem sc_l_is_sheet : FnScope ["_law_told", "_law_words_here", "_law_form_told", "_law_many", "_law_line", "_law_kind"] ["_law_told", "_law_words_here", "_law_form_told", "_law_many"] (defScope s_l_is_sheet) := ⟨rfl, rfl, rfl, by decide +kernel, rfl, by decide +kernel, by decide +kernel⟩
theorem sc_l_holds : FnScope ["_law_told", "_law_words_here", "_law_form_told", "_law_many", "_law_place", "_law_kind"] ["_law_told", "_law_words_here", "_law_form_told", "_law_many"] (defScope s_l_holds) := ⟨rfl, rfl, rfl, by decide +kernel, rfl, by decide +kernel, by decide +kernel⟩
theorem sc_law : FnScope ["_law_script", "_law_tags", "_law_form_told", "_law_grove_here", "_law_words_here", "_law_many", "_law_told", "_law_kept", "_law_more"] ["_law_script"] (defScope s_law) := ⟨rfl, rfl, rfl, by decide +kernel, rfl, by decide +kernel, by decide +kernel⟩
abbrev blts : List Str := ["bool", "enumerate", "int", "isinstance", "len", "list", "max", "min", "range", "sorted", "tuple"]
section
variable {P : Program} {w : World} {K : PySem.W.Frag} {mg : Str → Option Value} {base : Heap} {f : Addr} {fd : FuncData}
theorem ok_l_cell_at (B : ∀ x ∈ blts, mg x = none) (F : Fun K "_law_cell_at" "_law_cell_at" s_l_cell_at f fd) : FnOk P w K mg base CX0 1 f fd ["_law_script", "_law_k"] (spCell K) := by
  refine F.ok sc_l_cell_at (fun vs H Q E h => ?_) (fun cdv A outer s H vs Q E hr h => ?_)
  · obtain ⟨a, ns, k, rfl, _⟩ := h
    rfl
  obtain ⟨a, ns, k, rfl, hS, h63, h0, q⟩ := h
  refine ⟨_, (pss_cons (ps_if (pt_cmpR op_lt (pv 1) (pe_callB call_len_seq rfl (B "len" (by decide)) PySem.boot_len (pa_cons (pv 0) pa_nil)) (nomark _))
      (pss_one (ps_ret (pe_ix ix_list (pv 0) (pv 1) (fun _ _ => rfl))))
      pss_nil)
    (pss_one (ps_ret pe_int))), ?_⟩
  refine ⟨_, rfl, _, rfl, a, _, rfl, .inl hS, _, _, rfl, rfl, _, rfl, ?_⟩
  refine ite2 (fun c => ?_) (fun c => ?_)
  · have c' := of_decide_eq_true c
    rw [List.length_map] at c'
    obtain ⟨v, hv⟩ := ints_at (ns := ns) h0 c'
    exact ⟨_, rfl, _, rfl, a, _, k, _, rfl, rfl, hS, hv, q v⟩
  · exact q 0
def spWordV : Sp := fun vs H Q _ => ∃ c : Int, vs = [.int c] ∧ ∀ t : Str, Lets t → t.length ≤ 8 → Q (.str t) H
set_option maxHeartbeats 1000000 in
theorem ok_l_word (B : ∀ x ∈ blts, mg x = none) (F : Fun K "_law_word" "_law_word" s_l_word f fd) : FnOk P w K mg base CX0 1 f fd ["_law_cell"] spWordV := by
  refine F.ok sc_l_word (fun vs H Q E h => ?_) (fun cdv A outer s H vs Q E hr h => ?_)
  · obtain ⟨c, rfl, _⟩ := h
    rfl
  obtain ⟨c, rfl, q⟩ := h
  have m1 := Int.emod_nonneg c (by decide : (8 : Int) ≠ 0)
  have m2 := Int.emod_lt_of_pos c (by decide : (0 : Int) < 8)
  refine ⟨_, (pss_cons (ps_set (i := 1) sc_l_word.nd rfl (Or.inl rfl) pe_str)
    (pss_cons (ps_for PassesOwn.never rfl (pi_range1 rfl (B "range" (by decide)) (pa_cons (pe_op op_add pe_int (pe_op op_mod (pv 0) pe_int)) pa_nil)) (pg_name (i := 2) sc_l_word.nd rfl (Or.inl rfl))
      (pss_cons (ps_set (i := 3) sc_l_word.nd rfl (Or.inl rfl) (pe_op op_add (pe_op op_mul (pe_op op_fdiv (pe_op op_fdiv (pv 0) pe_int) (pe_op op_add (pv 2) pe_int)) pe_int) (pe_op op_mul pe_int (pv 2))))
        (pss_one (ps_set (i := 1) sc_l_word.nd rfl (Or.inl rfl) (pe_op op_add_str (pv 1) (pe_ix ix_str pe_str (pe_op op_mod (pe_op op_mod (pv 3) pe_int) pe_int) (fun _ _ => rfl)))))))
    (pss_one (ps_ret (pv 1))))), ?_⟩
  refine ⟨_, rfl, _, _, rfl, rfl, (by show (0 : Int) < 8; decide), _, _, rfl, rfl, _, rfl, (by show -2 ^ 62 ≤ 1 + c % 8; (first | lia | omega)), (by show 1 + c % 8 < 2 ^ 62; (first | lia | omega)), for_range (lo := 0) (n := (1 + c % 8).toNat) (fun i σ H1 => ∃ (t : Str) (v2 v3 : Option V), σ = [some (.int c), some (.str t), v2, v3] ∧ H1 = H ∧ t.length = i ∧ Let0 t) ⟨Str.empty, none, none, rfl, rfl, rfl, fun _ h => (nomatch h)⟩ ?_ ?_⟩
  · rintro i σ H1 hi ⟨t, v2, v3, rfl, rfl, hl, hlt⟩
    refine ⟨_, rfl, _, _, rfl, rfl, ⟨by decide, by decide⟩, _, rfl, _, _, rfl, rfl, _, _, rfl, rfl, ⟨by (first | lia | omega), by (first | lia | omega)⟩, _, _, rfl, rfl, .inr ⟨by decide, by decide⟩, _, rfl, _, _, rfl, rfl, .inl ⟨by decide, by decide⟩, _, _, rfl, rfl, ?_⟩
    obtain ⟨ch, hc, c1, c2⟩ := abc_at (i := (c / 8 / (0 + (i : Int) + 1) * 48271 + 31 * (0 + (i : Int))) % 65537 % 26) (Int.emod_nonneg _ (by decide)) (Int.emod_lt_of_pos _ (by decide))
    refine ⟨_, rfl, _, rfl, _, _, rfl, rfl, (by show (0 : Int) < 65537; decide), _, _, rfl, rfl, (by show (0 : Int) < 26; decide), _, _, ch, rfl, rfl, (by decide), hc, _, _, rfl, rfl, ?_, ?_⟩
    · show t.length + 1 ≤ sizeLine
      exact len1000 (by (first | lia | omega))
    · refine ⟨_, _, _, rfl, rfl, ?_, let0_app hlt fun x hx => ?_⟩
      · rw [app_len, hl]
        rfl
      · rw [List.mem_singleton.mp hx]
        exact ⟨c1, c2⟩
  · rintro σ H1 ⟨t, v2, v3, rfl, rfl, hl, hlt⟩
    refine ⟨_, rfl, q t ⟨fun z => ?_, hlt⟩ (by (first | lia | omega))⟩
    have : t.cps.toList.length = t.length := Array.length_toList
    rw [z, List.length_nil] at this
    (first | lia | omega)
def spPoolV : Sp := fun vs H Q _ => ∃ (c m : Int), vs = [.int c, .int m] ∧ 0 ≤ m ∧ m ≤ 10 ∧ ∀ (r : Addr) (ts : List Str) (H' : Hp), Same H H' → H r = none → H' r = some (.lst (ts.map V.str)) → (ts.length : Int) = m → (∀ t ∈ ts, Lets t ∧ t.length ≤ 8) → Q (.ref r) H'
/-- one sign put in another's place -/
theorem put_sign {t s1 : Str} {k : Int} (ht : Let0 t) (h0 : 0 ≤ k) (h1 : k < (t.length : Int)) (hs : Let0 s1) (hl : s1.length = 1) :
    (PySem.StrLaws.sliceText t none (some k)).length = k.toNat ∧ (PySem.StrLaws.sliceText t (some (k + 1)) none).length = t.length - (k.toNat + 1) ∧ Let0 (PySem.StrLaws.sliceText t none (some k) ++ s1 ++ PySem.StrLaws.sliceText t (some (k + 1)) none) := by
  have hlt : t.cps.toList.length = t.length := by rw [Array.length_toList]; rfl
  have E1 := PySem.StrLaws.sliceText_to (x := t) (j := k) ⟨h0, by rw [hlt]; (first | lia | omega)⟩
  have E2 := PySem.StrLaws.sliceText_from (x := t) (i := k + 1) ⟨by (first | lia | omega), by rw [hlt]; (first | lia | omega)⟩
  refine ⟨?_, ?_, let0_app (let0_app ?_ hs) ?_⟩
  · rw [E1]
    show ((t.cps.toList.drop 0).take _).toArray.size = _
    rw [List.size_toArray, List.length_take, List.length_drop, hlt]
    (first | lia | omega)
  · rw [E2, show ∀ l : List Nat, (⟨l.toArray⟩ : Str).length = l.length from fun l => List.size_toArray, List.length_take, List.length_drop, hlt]
    (first | lia | omega)
  · rw [E1]
    intro c hc
    have hc' : c ∈ (t.cps.toList.drop 0).take (k - 0).toNat := by simpa using hc
    exact ht c (List.mem_of_mem_drop (List.mem_of_mem_take hc'))
  · rw [E2]
    intro c hc
    refine ht c ?_
    simp only [List.toList_toArray] at hc
    exact List.mem_of_mem_drop (List.mem_of_mem_take hc)
set_option maxHeartbeats 2000000 in
theorem ok_l_pool (B : ∀ x ∈ blts, mg x = none) (g_l_word : Has P w K mg base "_law_word" ["_law_cell"] 1 spWordV) (F : Fun K "_law_pool" "_law_pool" s_l_pool f fd) : FnOk P w K mg base CX0 2 f fd ["_law_cell", "_law_many"] spPoolV := by
  refine F.ok sc_l_pool (fun vs H Q E h => ?_) (fun cdv A outer s H vs Q E hr h => ?_)
  · obtain ⟨c, m, rfl, _⟩ := h
    rfl
  obtain ⟨c, m, rfl, m0, m1, q⟩ := h
  refine ⟨_, (pss_cons (ps_set (i := 2) sc_l_pool.nd rfl (Or.inr rfl) (pe_has g_l_word hr rfl (pa_cons (pv 0) pa_nil)))
    (pss_cons (ps_set (i := 3) sc_l_pool.nd rfl (Or.inr rfl) (pe_op op_mod (pe_op op_fdiv (pv 0) pe_int) (pe_callB call_len_str rfl (B "len" (by decide)) PySem.boot_len (pa_cons (pv 2) pa_nil))))
    (pss_cons (ps_set (i := 4) sc_l_pool.nd rfl (Or.inr rfl) pe_str)
    (pss_one (ps_ret (pe_comp (cl := _) ["_law_k"] [("_law_cell", 0), ("_law_base", 2), ("_law_at", 3), ("_law_letters", 4)] (pi_range1 rfl (B "range" (by decide)) (pa_cons (pv 1) pa_nil)) (fun _ _ _ _ => (pg_name (i := 0) (show List.Nodup (["_law_k", "_law_cell", "_law_base", "_law_at", "_law_letters"] : List Str) by decide) rfl (Or.inl rfl))) (fun _ _ _ _ => (pe_op op_add_str (pe_op op_add_str (pe_slice sl_str (pv 2) po_none (po_some (pv 3))) (pe_ix ix_str (pv 4) (pe_op op_mod (pe_op op_add (pe_op op_fdiv (pv 1) pe_int) (pe_op op_mul pe_int (pv 0))) pe_int) (fun _ _ => rfl))) (pe_slice sl_str (pv 2) (po_some (pe_op op_add (pv 3) pe_int)) po_none))) rfl rfl (by decide) rfl (by decide) (cap_cl (by (repeat' first | exact List.forall_mem_nil _ | refine List.forall_mem_cons.mpr ⟨?_, ?_⟩) <;> rfl)) (cap_has (by (repeat' first | exact List.forall_mem_nil _ | refine List.forall_mem_cons.mpr ⟨?_, ?_⟩) <;> first | (intro h; exact ⟨_, rfl⟩) | (intro h; exact absurd h (by decide)))) (fun _ => by (repeat' first | exact List.forall_mem_nil _ | refine List.forall_mem_cons.mpr ⟨?_, ?_⟩) <;> exact ⟨rfl, rfl, Or.inl rfl⟩) (fun _ => rfl))))))), ?_⟩
  refine ⟨_, rfl, c, rfl, fun t hlt ht8 => ?_⟩
  have hlen : t.cps.toList.length = t.length := by rw [Array.length_toList]; rfl
  have ht1 : 0 < t.length := by
    rw [← hlen]
    exact List.length_pos_iff.mpr hlt.1
  have tp : (0 : Int) < (t.length : Int) := by (first | lia | omega)
  refine ⟨_, rfl, _, _, rfl, rfl, ⟨by decide, by decide⟩, _, rfl, t, rfl, len1000 (by (first | lia | omega)), _, _, rfl, rfl, tp, ?_⟩
  have k0 := Int.emod_nonneg (c / 64) (Int.ne_of_gt tp)
  have k1 := Int.emod_lt_of_pos (c / 64) tp
  refine ⟨_, rfl, m, rfl, by (first | lia | omega), by (first | lia | omega), fun pc hpc => ?_⟩
  refine comp_range (lo := 0) (n := m.toNat) (p := pc) (fun i ys σ H2 => ∃ (v0 : Option V) (ts : List Str), σ = [v0, some (.int c), some (.str t), some (.int (c / 64 % (t.length : Int))), some (.str ABC)] ∧ Same H H2 ∧ H2 pc = some (.lst ys) ∧ ys = ts.map V.str ∧ ts.length = i ∧ ∀ x ∈ ts, Lets x ∧ x.length ≤ 8)
    ⟨none, [], rfl, Same.new hpc, upd_same, rfl, rfl, fun _ h => (nomatch h)⟩ ?_ ?_ ?_
  · rintro i ys σ H2 _ ⟨v0, ts, _, _, h, _⟩
    exact h
  · rintro i ys σ H2 hi ⟨v0, ts, rfl, sm, hp, rfl, htl, hts⟩
    obtain ⟨ch, hc, c1, c2⟩ := abc_at (i := (c / 512 + 5 * (0 + (i : Int))) % 26) (Int.emod_nonneg _ (by decide)) (Int.emod_lt_of_pos _ (by decide))
    obtain ⟨L1, L2, L3⟩ := put_sign (s1 := ⟨#[ch]⟩) hlt.let0 k0 k1 (fun x hx => by rw [List.mem_singleton.mp hx]; exact ⟨c1, c2⟩) rfl
    refine ⟨_, rfl, _, rfl, _, rfl, _, rfl, len1000 (by (first | lia | omega)), _, rfl, _, rfl, _, _, rfl, rfl, ⟨by decide, by decide⟩, _, rfl, _, _, rfl, rfl, .inl ⟨by decide, by decide⟩, _, _, rfl, rfl, _, _, rfl, rfl, (by show (0 : Int) < 26; decide), _, _, ch, rfl, rfl, (by decide), hc, _, _, rfl, rfl, ?_, ?_⟩
    · rw [L1]
      show _ + 1 ≤ sizeLine
      exact len1000 (by (first | lia | omega))
    refine ⟨_, rfl, _, rfl, _, _, rfl, rfl, _, rfl, _, rfl, len1000 (by (first | lia | omega)), _, _, rfl, rfl, ?_, hp, len1000' (by rw [List.length_map]; (first | lia | omega)), CW.next hi ⟨_, ts ++ [_], rfl, sm.upd_new hpc, upd_same, by rw [List.map_append]; rfl, by rw [List.length_append, List.length_singleton]; (first | lia | omega), fun x hx => ?_⟩⟩
    · rw [app_len, L1, L2]
      show _ + 1 + _ ≤ sizeLine
      exact len1000 (by (first | lia | omega))
    rcases List.mem_append.mp hx with hx | hx
    · exact hts x hx
    · rw [List.mem_singleton.mp hx]
      refine ⟨⟨fun z => ?_, L3⟩, ?_⟩
      · have h1 := congrArg List.length z
        rw [app_cps, app_cps, List.length_append, List.length_append, List.length_nil] at h1
        have h2 : (1 : Nat) ≤ List.length (⟨#[ch]⟩ : Str).cps.toList := Nat.le_refl _
        (first | lia | omega)
      · rw [app_len, app_len, L1, L2]
        show _ + 1 + _ ≤ 8
        (first | lia | omega)
  · rintro ys σ H2 ⟨v0, ts, rfl, sm, hp, rfl, htl, hts⟩
    exact q pc ts H2 sm hpc hp (by (first | lia | omega)) hts
def spGroveV (K : PySem.W.Frag) : Sp := fun vs H Q _ => ∃ (a tg : Addr) (ns : List Int) (st m : Int) (ts : List Str), vs = [.ref a, .int st, .int m, .ref tg] ∧ SqL K H a (ns.map V.int) ∧ ns.length ≤ 63 ∧ 0 ≤ st ∧ 0 ≤ m ∧ m ≤ 400 ∧ H tg = some (.lst (ts.map V.str)) ∧ 0 < ts.length ∧ (∀ t ∈ ts, t ≠ SL) ∧
  ∀ (r : Addr) (xs : List V) (g : Gr Str) (H' : Hp), Same H H' → H r = none → H' r = some (.tup xs) → RepG H' xs g → Clean SL g → ((words SL g).length : Int) = 2 * m → (∀ x ∈ words SL g, x = SL ∨ x ∈ ts) → Q (.ref r) H'
set_option maxHeartbeats 2000000 in
theorem ok_l_grove (B : ∀ x ∈ blts, mg x = none) (g_l_cell_at : Has P w K mg base "_law_cell_at" ["_law_script", "_law_k"] 1 (spCell K)) (F : Fun K "_law_grove" "_law_grove" s_l_grove f fd) : FnOk P w K mg base CX0 2 f fd ["_law_script", "_law_start", "_law_many", "_law_tags"] (spGroveV K) := by
  refine F.ok sc_l_grove (fun vs H Q E h => ?_) (fun cdv A outer s H vs Q E hr h => ?_)
  · obtain ⟨a, tg, ns, st, m, ts, rfl, _⟩ := h
    rfl
  obtain ⟨a, tg, ns, st, m, ts, rfl, hS, h63, st0, m0, m4, htg, ht0, htn, q⟩ := h
  refine ⟨_, (pss_cons (ps_set (i := 4) sc_l_grove.nd rfl (Or.inl rfl) (pe_lst (pa_cons (pe_lst pa_nil) pa_nil)))
    (pss_cons (ps_set (i := 5) sc_l_grove.nd rfl (Or.inl rfl) (pe_lst pa_nil))
    (pss_cons (ps_for PassesOwn.never rfl (pi_range1 rfl (B "range" (by decide)) (pa_cons (pv 2) pa_nil)) (pg_name (i := 6) sc_l_grove.nd rfl (Or.inl rfl))
      (pss_cons (ps_set (i := 7) sc_l_grove.nd rfl (Or.inl rfl) (pe_has g_l_cell_at hr rfl (pa_cons (pv 0) (pa_cons (pe_op op_add (pv 1) (pe_op op_mod (pv 6) (pe_callB (call_max2 rfl) rfl (B "max" (by decide)) bt_max (pa_cons pe_int (pa_cons (pe_op op_sub (pe_callB call_len_seq rfl (B "len" (by decide)) PySem.boot_len (pa_cons (pv 0) pa_nil)) (pv 1)) pa_nil))))) pa_nil))))
        (pss_cons (ps_set (i := 8) sc_l_grove.nd rfl (Or.inl rfl) (pe_op op_mod (pe_op op_add (pe_op op_mul (pv 7) pe_int) (pe_op op_mul (pe_op op_mul (pv 6) (pv 6)) pe_int)) pe_int))
        (pss_cons (ps_for PassesOwn.never rfl (pi_range1 rfl (B "range" (by decide)) (pa_cons (pe_callB (call_min2 rfl) rfl (B "min" (by decide)) bt_min (pa_cons (pe_callB call_len_seq rfl (B "len" (by decide)) PySem.boot_len (pa_cons (pv 5) pa_nil)) (pa_cons (pe_op op_mod (pv 8) pe_int) pa_nil))) pa_nil)) (pg_name (i := 9) sc_l_grove.nd rfl (Or.inl rfl))
          (pss_cons (ps_set (i := 10) sc_l_grove.nd rfl (Or.inl rfl) (pe_callTy call_tuple_of rfl (B "tuple" (by decide)) bt_tuple (pa_cons (pe_bm0 PySem.F.plainAttrs_list PySem.F.slot_list_pop PySem.F.type_list_pop mt_pop (pv 4)) pa_nil)))
            (pss_one (ps_expr (pe_bm PySem.F.plainAttrs_list PySem.F.slot_list_append PySem.F.type_list_append mt_append (pe_ix ix_list (pv 4) (pe_un un_neg pe_int) (fun _ _ => rfl)) (pa_cons (pe_tup (pa_cons (pe_bm0 PySem.F.plainAttrs_list PySem.F.slot_list_pop PySem.F.type_list_pop mt_pop (pv 5)) (pa_cons (pv 10) pa_nil))) pa_nil))))))
        (pss_cons (ps_expr (pe_bm PySem.F.plainAttrs_list PySem.F.slot_list_append PySem.F.type_list_append mt_append (pv 5) (pa_cons (pe_ix ix_list (pv 3) (pe_op op_mod (pe_op op_fdiv (pv 8) pe_int) (pe_callB call_len_seq rfl (B "len" (by decide)) PySem.boot_len (pa_cons (pv 3) pa_nil))) (fun _ _ => rfl)) pa_nil)))
        (pss_one (ps_expr (pe_bm PySem.F.plainAttrs_list PySem.F.slot_list_append PySem.F.type_list_append mt_append (pv 4) (pa_cons (pe_lst pa_nil) pa_nil)))))))))
    (pss_cons (ps_while PassesOwn.never (pt_cmpR op_gt (pe_callB call_len_seq rfl (B "len" (by decide)) PySem.boot_len (pa_cons (pv 5) pa_nil)) pe_int (nomark _))
      (pss_cons (ps_set (i := 10) sc_l_grove.nd rfl (Or.inl rfl) (pe_callTy call_tuple_of rfl (B "tuple" (by decide)) bt_tuple (pa_cons (pe_bm0 PySem.F.plainAttrs_list PySem.F.slot_list_pop PySem.F.type_list_pop mt_pop (pv 4)) pa_nil)))
        (pss_one (ps_expr (pe_bm PySem.F.plainAttrs_list PySem.F.slot_list_append PySem.F.type_list_append mt_append (pe_ix ix_list (pv 4) (pe_un un_neg pe_int) (fun _ _ => rfl)) (pa_cons (pe_tup (pa_cons (pe_bm0 PySem.F.plainAttrs_list PySem.F.slot_list_pop PySem.F.type_list_pop mt_pop (pv 5)) (pa_cons (pv 10) pa_nil))) pa_nil))))))
    (pss_one (ps_ret (pe_callTy call_tuple_of rfl (B "tuple" (by decide)) bt_tuple (pa_cons (pe_ix ix_list (pv 4) pe_int (fun _ _ => rfl)) pa_nil)))))))), ?_⟩
  refine ⟨by decide, fun a0 h0 => ⟨(by show 1 ≤ sizeLine; decide), fun R hR => ?_⟩⟩
  refine ⟨by decide, fun T hT => ?_⟩
  have g0 := GvS.start h0 hR hT
  generalize upd (upd (upd H a0 (.lst [])) R (.lst [.ref a0])) T (.lst []) = H1 at g0 ⊢
  refine ⟨_, rfl, m, rfl, by (first | lia | omega), by (first | lia | omega), for_range (lo := 0) (n := m.toNat) (fun i σ H2 => ∃ (as : List Addr) (gs : List (Gr Str)) (os : List Str) (v6 v7 v8 v9 v10 : Option V), σ = [some (.ref a), some (.int st), some (.int m), some (.ref tg), some (.ref R), some (.ref T), v6, v7, v8, v9, v10] ∧ GvS H H2 R T as gs os ∧ (flatR SL gs os).length + os.length = 2 * i ∧ ∀ x ∈ flatR SL gs os, x = SL ∨ x ∈ ts)
    ⟨_, _, _, none, none, none, none, none, rfl, g0, rfl, fun _ h => (nomatch h)⟩ ?_ ?_⟩
  · rintro i σ H2 hi ⟨as, gs, os, v6, v7, v8, v9, v10, rfl, hg, hfl, hft⟩
    have hi4 : i < 400 := by (first | lia | omega)
    have hS2 := hg.sm.seq hS
    refine ⟨_, rfl, _, rfl, _, rfl, _, rfl, a, _, rfl, .inl hS2, _, rfl, _, _, rfl, rfl, _, _, rfl, _, _, rfl, rfl, ?_, _, _, rfl, rfl, a, ns, _, rfl, hS2, h63, ?_, fun v => ?_⟩
    · exact max_pos _
    · have := Int.emod_nonneg (0 + (i : Int)) (Int.ne_of_gt (max_pos (((ns.map V.int).length : Int) - st)))
      (first | lia | omega)
    refine ⟨_, rfl, _, _, rfl, rfl, .inr ⟨by decide, by decide⟩, _, rfl, _, rfl, _, _, rfl, rfl, .inl ⟨by (first | lia | omega), by (first | lia | omega)⟩, _, _, rfl, rfl, .inr ⟨by decide, by decide⟩, _, _, rfl, rfl, _, _, rfl, rfl, (by show (0 : Int) < 1000003; decide), ?_⟩
    have hm0 := Int.emod_nonneg ((v * 48271 + (0 + (i : Int)) * (0 + (i : Int)) * 69621) % 1000003) (by decide : (4 : Int) ≠ 0)
    have hm4 := Int.emod_lt_of_pos ((v * 48271 + (0 + (i : Int)) * (0 + (i : Int)) * 69621) % 1000003) (by decide : (0 : Int) < 4)
    have hlr : (((os.map V.str).reverse.length : Nat) : Int) = (os.length : Int) := by rw [List.length_reverse, List.length_map]
    obtain ⟨c, hc, c0, c1, c4⟩ : ∃ c : Int, (if ((v * 48271 + (0 + (i : Int)) * (0 + (i : Int)) * 69621) % 1000003) % 4 < (((os.map V.str).reverse.length : Nat) : Int) then ((v * 48271 + (0 + (i : Int)) * (0 + (i : Int)) * 69621) % 1000003) % 4 else (((os.map V.str).reverse.length : Nat) : Int)) = c ∧ 0 ≤ c ∧ c ≤ (os.length : Int) ∧ c ≤ 3 := by
      rw [hlr]
      by_cases z : ((v * 48271 + (0 + (i : Int)) * (0 + (i : Int)) * 69621) % 1000003) % 4 < (os.length : Int)
      · exact ⟨_, if_pos z, by (first | lia | omega), by (first | lia | omega), by (first | lia | omega)⟩
      · exact ⟨_, if_neg z, by (first | lia | omega), by (first | lia | omega), by (first | lia | omega)⟩
    have hol : os.length ≤ 2 * i := by (first | lia | omega)
    refine ⟨_, rfl, T, _, rfl, .inl (SqL.of hg.hT), _, rfl, _, _, rfl, rfl, (by show (0 : Int) < 4; decide), _, _, rfl, c, congrArg (fun z => [V.int z]) hc, by (first | lia | omega), by (first | lia | omega), for_range (lo := 0) (n := c.toNat) (fun j σ H3 => ∃ (as : List Addr) (gs : List (Gr Str)) (os' : List Str) (v9 v10 : Option V), σ = [some (.ref a), some (.int st), some (.int m), some (.ref tg), some (.ref R), some (.ref T), some (.int (0 + (i : Int))), some (.int v), some (.int ((v * 48271 + (0 + (i : Int)) * (0 + (i : Int)) * 69621) % 1000003)), v9, v10] ∧ GvS H H3 R T as gs os' ∧ (flatR SL gs os').length + os'.length = 2 * i ∧ (∀ x ∈ flatR SL gs os', x = SL ∨ x ∈ ts) ∧ os'.length + j = os.length)
      ⟨_, _, _, _, _, rfl, hg, hfl, hft, rfl⟩ ?_ ?_⟩
    · rintro j σ H3 hj ⟨as, gs, os', v9, v10, rfl, hg, hfl, hft, hoj⟩
      cases os' with
      | nil =>
        rw [List.length_nil] at hoj
        (first | lia | omega)
      | cons t os' =>
        obtain ⟨b0, b1, as, g0, g1, gs, vs0, vs1, rfl, rfl, hgs, h00, r00, h11, r11, hRs, hTs⟩ := hg.two
        obtain ⟨fs1, fs2, fs3⟩ := flat_shut (g0 := g0) (g1 := g1) (t := t) hgs
        have hv1 := r11.length
        rw [List.length_cons] at hfl hoj
        refine ⟨_, rfl, .inl ⟨rfl, _, SqL.of hRs⟩, R, _, _, rfl, rfl, hRs, snoc_last _ _, ?_⟩
        rw [snoc_drop]
        refine ⟨b0, vs0, rfl, .inl ⟨SqL.of (hg.f1 h00), fun l hl => ?_⟩⟩
        obtain ⟨hRb, h1b, hTb⟩ := hg.f2 (vs0 := vs0) h11 hl
        refine ⟨_, rfl, 1, rfl, R, _, -1, .ref b1, rfl, rfl, SqL.of hRb, atI_last _ _, .inl ⟨rfl, _, SqL.of h1b⟩, _, rfl, .inl ⟨rfl, _, SqL.of hTb⟩, T, _, _, rfl, rfl, hTb, snoc_last _ _, ?_⟩
        rw [snoc_drop]
        refine ⟨_, rfl, (by show 2 ≤ sizeLine; decide), fun l2 hl2 => ?_⟩
        refine ⟨b1, _, _, rfl, rfl, hg.f3 h11 hl hl2, len1000' (by (first | lia | omega)), ?_⟩
        refine ⟨_, _, _, _, _, rfl, hg.shut h00 r00 h11 r11 hl hl2, by (first | lia | omega), fun x hx => ?_, by (first | lia | omega)⟩
        rcases fs2 x hx with h | h
        · exact .inl h
        · exact hft x h
    · rintro σ H3 ⟨as, gs, os', v9, v10, rfl, hg, hfl, hft, hoj⟩
      have htg3 := hg.sm _ _ htg
      have lpos : (0 : Int) < ((ts.map V.str).length : Nat) := by
        rw [List.length_map]
        (first | lia | omega)
      obtain ⟨k, hk, hkl⟩ := modN (((v * 48271 + (0 + (i : Int)) * (0 + (i : Int)) * 69621) % 1000003) / 4) (n := (ts.map V.str).length) (by (first | lia | omega))
      rw [List.length_map] at hkl
      have hat := strs_at (ws := ts) (n := k) hkl
      have hol' : os'.length ≤ 800 := by (first | lia | omega)
      have hal : as.length = gs.length := Paired.length hg.rows
      have hgl := hg.gl
      have hw := htn _ (List.getElem_mem hkl)
      have hwm := List.getElem_mem hkl
      refine ⟨_, rfl, .inl ⟨rfl, _, SqL.of hg.hT⟩, _, rfl, _, rfl, _, _, rfl, rfl, ⟨by decide, by decide⟩, _, rfl, tg, _, rfl, .inl (SqL.of htg3), _, _, rfl, rfl, lpos, tg, _, _, _, rfl, rfl, SqL.of htg3, (by rw [hk]; exact hat), T, _, _, rfl, rfl, hg.hT, len1000' (by rw [List.length_reverse, List.length_map]; (first | lia | omega)), ?_⟩
      generalize ts[k]'hkl = wd at hw hwm
      have hRa2 : (upd H3 T (.lst ((os'.map V.str).reverse ++ [.str wd]))) R = some (.lst (as.map V.ref).reverse) := by
        rw [upd_ne hg.RT]
        exact hg.hR
      refine ⟨_, rfl, .inl ⟨rfl, _, SqL.of hRa2⟩, by decide, fun l hl => ?_⟩
      obtain ⟨_, hl1⟩ := upd_none hl
      have hRb : (upd (upd H3 T (.lst ((os'.map V.str).reverse ++ [.str wd]))) l (.lst [])) R = some (.lst (as.map V.ref).reverse) := by
        rw [upd_ne (ne_of_none hg.hR hl1)]
        exact hRa2
      refine ⟨R, _, _, rfl, rfl, hRb, len1000' (by rw [List.length_reverse, List.length_map]; (first | lia | omega)), ?_⟩
      refine ⟨_, _, _, _, _, _, _, _, rfl, hg.opened hw hl, ?_, ?_⟩
      · rw [flatR_open, List.length_append, List.length_singleton, List.length_cons]
        (first | lia | omega)
      · rw [flatR_open]
        intro x hx
        rcases List.mem_append.mp hx with hx | hx
        · exact hft x hx
        · rw [List.mem_singleton.mp hx]
          exact .inr hwm
  rintro σ H2 ⟨as, gs, os, v6, v7, v8, v9, v10, rfl, hg, hfl, hft⟩
  let W : Nat → St → Hp → Prop := fun n σ H3 => ∃ (as : List Addr) (gs : List (Gr Str)) (os : List Str) (v10 : Option V), σ = [some (.ref a), some (.int st), some (.int m), some (.ref tg), some (.ref R), some (.ref T), v6, v7, v8, v9, v10] ∧ GvS H H3 R T as gs os ∧ (flatR SL gs os).length + os.length = 2 * m.toNat ∧ (∀ x ∈ flatR SL gs os, x = SL ∨ x ∈ ts) ∧ n = os.length
  refine ⟨W, ⟨_, as, gs, os, v10, rfl, hg, hfl, hft, rfl⟩, ?_⟩
  rintro n σ H3 ⟨as, gs, os, v10, rfl, hg, hfl, hft, rfl⟩
  refine ⟨_, rfl, T, _, rfl, .inl (SqL.of hg.hT), _, _, rfl, rfl, _, rfl, ite2 (fun c => ?_) (fun c => ?_)⟩
  · cases os with
    | nil => exact absurd (of_decide_eq_true c) (by decide)
    | cons t os =>
      obtain ⟨b0, b1, as, g0, g1, gs, vs0, vs1, rfl, rfl, hgs, h00, r00, h11, r11, hRs, hTs⟩ := hg.two
      obtain ⟨fs1, fs2, fs3⟩ := flat_shut (g0 := g0) (g1 := g1) (t := t) hgs
      have hv1 := r11.length
      refine ⟨fun σ' H' => ∃ m', m' < (t :: os).length ∧ W m' σ' H', fun _ _ h => h, ?_⟩
      rw [List.length_cons] at hfl
      refine ⟨_, rfl, .inl ⟨rfl, _, SqL.of hRs⟩, R, _, _, rfl, rfl, hRs, snoc_last _ _, ?_⟩
      rw [snoc_drop]
      refine ⟨b0, vs0, rfl, .inl ⟨SqL.of (hg.f1 h00), fun l hl => ?_⟩⟩
      obtain ⟨hRb, h1b, hTb⟩ := hg.f2 (vs0 := vs0) h11 hl
      refine ⟨_, rfl, 1, rfl, R, _, -1, .ref b1, rfl, rfl, SqL.of hRb, atI_last _ _, .inl ⟨rfl, _, SqL.of h1b⟩, _, rfl, .inl ⟨rfl, _, SqL.of hTb⟩, T, _, _, rfl, rfl, hTb, snoc_last _ _, ?_⟩
      rw [snoc_drop]
      refine ⟨_, rfl, (by show 2 ≤ sizeLine; decide), fun l2 hl2 => ?_⟩
      refine ⟨b1, _, _, rfl, rfl, hg.f3 h11 hl hl2, len1000' (by (first | lia | omega)), ?_⟩
      refine ⟨os.length, by rw [List.length_cons]; (first | lia | omega), _, _, _, _, rfl, hg.shut h00 r00 h11 r11 hl hl2, by (first | lia | omega), fun x hx => ?_, rfl⟩
      rcases fs2 x hx with h | h
      · exact .inl h
      · exact hft x h
  · cases os with
    | cons t os =>
      refine absurd (decide_eq_true ?_) c
      show (0 : Int) < ((((t :: os).map V.str).reverse.length : Nat) : Int)
      rw [List.length_reverse, List.length_map, List.length_cons]
      (first | lia | omega)
    | nil =>
      have hgl := hg.gl
      have hrows := hg.rows
      cases gs with
      | nil => simp at hgl
      | cons g gs =>
        obtain rfl : gs = [] := List.eq_nil_of_length_eq_zero (by simpa using hgl)
        cases hrows with
        | @cons b _ _ _ r hrows =>
          cases hrows
          obtain ⟨vs, hb, hgr⟩ := r
          refine ⟨_, rfl, R, _, 0, .ref b, rfl, rfl, SqL.of hg.hR, rfl, b, vs, rfl, .inl ⟨SqL.of hb, fun r hr => ?_⟩⟩
          have hfl' : (words SL g).length + 0 = 2 * m.toNat := hfl
          exact q r vs g _ (hg.sm.upd_new (hg.sm.free hr)) (hg.sm.free hr) upd_same (hgr.mono (TK.new hr)) (hg.cl g (List.mem_cons_self ..)) (by (first | lia | omega)) hft
theorem ok_words_of (B : ∀ x ∈ blts, mg x = none) (F : Fun K "words_of" "words_of" s_words_of f fd) : FnOk P w K mg base CX0 1 f fd ["grove"] (spWords K) := by
  refine F.ok sc_words_of (fun vs H Q E h => ?_) (fun cdv A outer s H vs Q E hr h => ?_)
  · obtain ⟨a, xs, g, rfl, _⟩ := h
    rfl
  obtain ⟨a, xs, g, rfl, hT, hG, hlen, q⟩ := h
  have hu := hu_room hr
  refine ⟨_, (pss_cons (ps_set (i := 1) sc_words_of.nd rfl (Or.inl rfl) (pe_lst pa_nil))
    (pss_cons (ps_set (i := 2) sc_words_of.nd rfl (Or.inl rfl) (pe_callTy call_list_of rfl (B "list" (by decide)) bt_list (pa_cons (pe_revT (pv 0)) pa_nil)))
    (pss_cons (ps_while PassesOwn.never (pt_truth (pv 2) (fun _ => rfl))
      (pss_cons (ps_set (i := 3) sc_words_of.nd rfl (Or.inl rfl) (pe_bm0 PySem.F.plainAttrs_list PySem.F.slot_list_pop PySem.F.type_list_pop mt_pop (pv 2)))
        (pss_one (ps_if (pt_cmpR (op_eqTS hu) (pv 3) pe_str (nomark _))
          (pss_one (ps_expr (pe_bm PySem.F.plainAttrs_list PySem.F.slot_list_append PySem.F.type_list_append mt_append (pv 1) (pa_cons (pv 3) pa_nil))))
          (pss_cons (ps_expr (pe_bm PySem.F.plainAttrs_list PySem.F.slot_list_append PySem.F.type_list_append mt_append (pv 1) (pa_cons (pe_ix ix_tup (pv 3) pe_int (fun _ _ => rfl)) pa_nil)))
            (pss_cons (ps_expr (pe_bm PySem.F.plainAttrs_list PySem.F.slot_list_append PySem.F.type_list_append mt_append (pv 2) (pa_cons pe_str pa_nil)))
            (pss_one (ps_expr (pe_bm PySem.F.plainAttrs_list PySem.F.slot_list_extend PySem.F.type_list_extend mt_extendT (pv 2) (pa_cons (pe_revT (pe_ix ix_tup (pv 3) pe_int (fun _ _ => rfl))) pa_nil))))))))))
    (pss_one (ps_ret (pv 1)))))), ?_⟩
  -- words = []; waiting = list(grove[::-1])
  refine ⟨by decide, fun p hp => ?_⟩
  refine ⟨_, rfl, a, xs, rfl, (Same.new hp).seqT hT, fun t ht => ⟨t, _, rfl, .inr (SqT.of upd_same), fun l hl => ?_⟩⟩
  obtain ⟨ntp, ht0⟩ := upd_none ht
  obtain ⟨nlt, hl0⟩ := upd_none hl
  obtain ⟨nlp, hl1⟩ := upd_none hl0
  -- the loop
  let W : Nat → St → Hp → Prop := fun m σ H1 => ∃ (acc : List Str) (st : List (Item Str)) (vs : List V) (v3 : Option V), σ = [some (.ref a), some (.ref p), some (.ref l), v3] ∧ Same H H1 ∧
    H1 p = some (.lst (acc.map V.str)) ∧ H1 l = some (.lst vs) ∧ Paired (RepI H1) vs st ∧ acc ++ toCome SL st = words SL g ∧ m = (toCome SL st).length
  have s3 : Same H (upd (upd (upd H p (.lst [])) t (.tup xs.reverse)) l (.lst xs.reverse)) := ((Same.new hp).upd_new ht0).upd_new hl1
  refine ⟨W, ⟨_, [], (items g).reverse, xs.reverse, none, rfl, s3, ?_, upd_same, ?_, ?_, rfl⟩, ?_⟩
  · rw [upd_ne nlp.symm, upd_ne ntp.symm]
    exact upd_same
  · exact stk_mono s3.tk (paired_rev hG.items)
  · rw [toCome_grove]
    rfl
  rintro m σ H1 ⟨acc, st, vs, v3, rfl, sm, hp1, hl1', hst, hw, rfl⟩
  have hacc : acc.length ≤ 1000 := by
    have := congrArg List.length hw
    rw [List.length_append] at this
    (first | lia | omega)
  refine ⟨_, rfl, !vs.isEmpty, .inl ⟨vs, SqL.of hl1', rfl⟩, ?_⟩
  by_cases e : vs = []
  · subst e
    cases hst
    refine iteF ?_
    rw [toCome_nil, List.append_nil] at hw
    subst hw
    exact ⟨_, rfl, q p H1 sm hp hp1⟩
  · obtain ⟨vs', v, rfl⟩ := snoc_of e
    obtain ⟨st', x, rfl, hst', hx⟩ := Paired.unsnoc hst
    have ne : (!(vs' ++ [v]).isEmpty) = true := by simp
    rw [ne]
    refine iteT ?_
    rw [toCome_snoc] at hw
    refine ⟨fun σ' H' => ∃ m', m' < (toCome SL (st' ++ [x])).length ∧ W m' σ' H', fun _ _ h => h, ?_⟩
    refine ⟨_, rfl, .inl ⟨rfl, _, SqL.of hl1'⟩, l, _, v, rfl, rfl, hl1', snoc_last _ _, ?_⟩
    rw [snoc_drop]
    have k1 : TK H1 (upd H1 l (.lst vs')) := TK.lst hl1'
    have hp2 : (upd H1 l (.lst vs')) p = some (.lst (acc.map V.str)) := by
      rw [upd_ne nlp.symm]
      exact hp1
    have hstk := stk_mono k1 hst'
    have hx2 := hx.mono k1
    have sm2 : Same H (upd H1 l (.lst vs')) := sm.upd_new hl1
    have hvl : vs'.length = st'.length := Paired.length hst'
    have hsl : st'.length ≤ 1000 := by
      have := congrArg List.length hw
      rw [List.length_append, List.length_append] at this
      have h2 := toCome_len SL st'
      (first | lia | omega)
    cases x with
    | none =>
      have hv : v = .str SL := hx
      subst hv
      refine ⟨_, rfl, .inr ⟨rfl, _, rfl, ?_⟩⟩
      refine ite2 (fun _ => ?_) (fun c => absurd (decide_eq_true rfl) c)
      refine ⟨_, rfl, .inl ⟨rfl, _, SqL.of hp2⟩, _, rfl, p, _, _, rfl, rfl, hp2, len1000' (by rw [List.length_map]; (first | lia | omega)), ?_⟩
      refine ⟨(toCome SL st').length, ?_, acc ++ [SL], st', vs', _, rfl, sm2.upd_new hp, ?_, ?_, stk_mono (TK.lst hp2) hstk, ?_, rfl⟩
      · rw [toCome_snoc, List.length_append]
        show _ < 1 + _
        (first | lia | omega)
      · rw [upd_same, List.map_append]
        rfl
      · rw [upd_ne nlp]
        exact upd_same
      · rw [List.append_assoc]
        exact hw
    | some tw =>
      obtain ⟨t', w'⟩ := tw
      obtain ⟨p', q', ys, rfl, h1, h2, h3⟩ := hx2
      refine ⟨_, rfl, .inl ⟨p', _, _, rfl, rfl, SqT.of h1, _, rfl, ?_⟩⟩
      refine iteF ?_
      refine ⟨_, rfl, .inl ⟨rfl, _, SqL.of hp2⟩, _, rfl, p', _, 0, _, rfl, rfl, SqT.of h1, rfl, p, _, _, rfl, rfl, hp2, len1000' (by rw [List.length_map]; (first | lia | omega)), ?_⟩
      have k3 : TK (upd H1 l (.lst vs')) (upd (upd H1 l (.lst vs')) p (.lst (acc.map V.str ++ [.str t']))) := TK.lst hp2
      have hl3 : (upd (upd H1 l (.lst vs')) p (.lst (acc.map V.str ++ [.str t']))) l = some (.lst vs') := by
        rw [upd_ne nlp]
        exact upd_same
      refine ⟨_, rfl, .inl ⟨rfl, _, SqL.of hl3⟩, l, _, _, rfl, rfl, hl3, len1000' (by (first | lia | omega)), ?_⟩
      have k4 := TK.lst (o := .lst (vs' ++ [.str SL])) hl3
      have hl4 : (upd (upd (upd H1 l (.lst vs')) p (.lst (acc.map V.str ++ [.str t']))) l (.lst (vs' ++ [.str SL]))) l = some (.lst (vs' ++ [.str SL])) := upd_same
      refine ⟨_, rfl, .inl ⟨rfl, _, SqL.of hl4⟩, _, rfl, p', _, 1, _, rfl, rfl, SqT.of (k4 _ _ (k3 _ _ h1)), rfl, q', ys, rfl, SqT.of (k4 _ _ (k3 _ _ h2)), fun t2 ht2 => ?_⟩
      obtain ⟨n2l, ht3⟩ := upd_none ht2
      obtain ⟨n2p, ht4⟩ := upd_none ht3
      obtain ⟨_, ht5⟩ := upd_none ht4
      have hl5 : (upd (upd (upd (upd H1 l (.lst vs')) p (.lst (acc.map V.str ++ [.str t']))) l (.lst (vs' ++ [.str SL]))) t2 (.tup ys.reverse)) l = some (.lst (vs' ++ [.str SL])) := by
        rw [upd_ne n2l.symm]
        exact upd_same
      have hys := h3.length
      have hwl : (words SL w').length ≤ 1000 := by
        have := congrArg List.length hw
        rw [List.length_append, List.length_append] at this
        have e2 : (wi SL (some (t', w'))).length = (words SL w').length + 2 := by
          show (t' :: (words SL w' ++ [SL])).length = _
          rw [List.length_cons, List.length_append]
          rfl
        (first | lia | omega)
      refine ⟨l, t2, _, _, rfl, rfl, hl5, SqT.of upd_same, len1000 (by rw [List.length_append, List.length_reverse, List.length_singleton]; (first | lia | omega)), ?_⟩
      have k6 := (k3.trans k4).trans ((TK.new (o := .tup ys.reverse) ht2).trans (TK.lst (o := .lst ((vs' ++ [.str SL]) ++ ys.reverse)) hl5))
      refine ⟨(toCome SL (st' ++ [none] ++ (items w').reverse)).length, ?_, acc ++ [t'], st' ++ [none] ++ (items w').reverse, _, _, rfl, ?_, ?_, upd_same, ?_, ?_, rfl⟩
      · rw [toCome_tree, toCome_snoc]
        show _ < (t' :: (words SL w' ++ [SL]) ++ toCome SL st').length
        simp only [List.length_append, List.length_cons, List.length_nil]
        (first | lia | omega)
      · exact (((sm2.upd_new hp).upd_new hl1).upd_new (sm.free ht5)).upd_new hl1
      · rw [upd_ne nlp.symm, upd_ne n2p.symm, upd_ne nlp.symm, upd_same, List.map_append]
        rfl
      · exact Paired.app (Paired.app (stk_mono k6 hstk) (.cons rfl .nil)) (stk_mono k6 (paired_rev h3.items))
      · rw [toCome_tree, ← hw]
        show _ = acc ++ (t' :: (words SL w' ++ [SL]) ++ toCome SL st')
        simp
def spClosK (K : PySem.W.Frag) : Sp := fun vs H Q _ => ∃ (a : Addr) (ws : List Str), vs = [.ref a] ∧ SqL K H a (ws.map V.str) ∧ Can SL 0 ws ∧ ws.length ≤ 1000 ∧ ∀ (d : Addr) (H' : Hp), Same H H' → H d = none → H' d = some (.dK (kvC (cst ws ws.length).2)) → Q (.ref d) H'
theorem snoc_lastV (l : List V) (x : V) : (l ++ [x])[(l ++ [x]).length - 1]? = some x := by
  rw [List.length_append, List.length_singleton, Nat.add_sub_cancel, List.getElem?_append_right (Nat.le_refl _), Nat.sub_self]
  rfl
set_option maxHeartbeats 1000000 in
theorem ok_closings (B : ∀ x ∈ blts, mg x = none) (F : Fun K "closings" "closings" s_closings f fd) : FnOk P w K mg base CX0 1 f fd ["words"] (spClosK K) := by
  refine F.ok sc_closings (fun vs H Q E h => ?_) (fun cdv A outer s H vs Q E hr h => ?_)
  · obtain ⟨a, ws, rfl, _⟩ := h
    rfl
  obtain ⟨a, ws, rfl, hS, hcan, hwl, q⟩ := h
  have hu1 : (A.deeper (PyProof.Rows.envOfC (Str.ofString "closings") (defScope s_closings) s.heap.objs.size f cdv)).units + 1 < cLine := by have := hr.un; (first | lia | omega)
  refine ⟨_, (pss_cons (ps_set (i := 1) sc_closings.nd rfl (Or.inl rfl) pe_dnewK)
    (pss_cons (ps_set (i := 2) sc_closings.nd rfl (Or.inl rfl) (pe_lst pa_nil))
    (pss_cons (ps_for PassesOwn.never rfl (pi_enum rfl (B "enumerate" (by decide)) (pa_cons (pv 0) pa_nil)) (pg_tup rfl (pgs_cons (pg_name (i := 3) sc_closings.nd rfl (Or.inl rfl)) (pgs_cons (pg_name (i := 4) sc_closings.nd rfl (Or.inl rfl)) pgs_nil)))
      (pss_one (ps_if (pt_cmpR op_eq (pv 4) pe_str (nomark _))
          (pss_one (ps_dput hu1 (pv 1) (pe_bm0 PySem.F.plainAttrs_list PySem.F.slot_list_pop PySem.F.type_list_pop mt_pop (pv 2)) (pv 3) rfl))
          (pss_one (ps_expr (pe_bm PySem.F.plainAttrs_list PySem.F.slot_list_append PySem.F.type_list_append mt_append (pv 2) (pa_cons (pv 3) pa_nil)))))))
    (pss_one (ps_ret (pv 1)))))), ?_⟩
  refine fun d hd => ⟨by decide, fun b hb => ?_⟩
  obtain ⟨nbd, hb0⟩ := upd_none hb
  have s2 : Same H (upd (upd H d (.dK [])) b (.lst [])) := (Same.new hd).upd_new hb0
  refine ⟨_, rfl, a, _, rfl, s2.seq hS, for_enum (K := K) (a := a) (xs := ws.map V.str) (fun i σ H1 => ∃ (v3 v4 : Option V), σ = [some (.ref a), some (.ref d), some (.ref b), v3, v4] ∧ Same H H1 ∧ H1 d = some (.dK (kvC (cst ws i).2)) ∧ H1 b = some (.lst ((cst ws i).1.reverse.map fun (o : Nat) => V.int (o : Int))))
    ⟨none, none, rfl, s2, by rw [upd_ne nbd.symm]; exact upd_same, upd_same⟩ ?_ ?_ ?_⟩
  · rintro i σ H1 _ ⟨v3, v4, _, sm, _⟩
    exact sm.seq hS
  · rintro i x p σ H0 hi ⟨v3, v4, rfl, sm0, hd0, hb1⟩ hp
    rw [List.getElem?_map] at hi
    obtain ⟨wd, hw, rfl⟩ := Option.map_eq_some_iff.mp hi
    have hil := (List.getElem?_eq_some_iff.mp hw).1
    have x := cst_ok hcan i (by (first | lia | omega))
    have s0 : Same H0 (upd H0 p (.tup [.int i, .str wd])) := Same.new hp
    have sm := sm0.trans s0
    have hd1 := s0 _ _ hd0
    have hb2 := s0 _ _ hb1
    refine ⟨p, _, rfl, SqT.of upd_same, rfl, _, _, rfl, _, _, rfl, rfl, ?_⟩
    generalize upd H0 p (.tup [.int i, .str wd]) = H1 at sm hd1 hb2 ⊢
    have nbd2 : d ≠ b := fun e => by rw [e, hb2] at hd1; cases hd1
    have hcl : (kvC (cst ws i).2).length ≤ 1000 := by
      have := x.cnt
      unfold kvC
      rw [List.length_map]
      (first | lia | omega)
    refine ⟨_, rfl, rfl, _, rfl, ite2 (fun c => ?_) (fun c => ?_)⟩
    · have e : wd = SL := by
        have := of_decide_eq_true c
        injection this
      subst e
      cases hs : (cst ws i).1 with
      | nil =>
        have := x.len
        rw [hs, drop_here hw, bk_sl] at this
        cases this
      | cons o os =>
        have hz := cst_end hw hs
        have hno : o ∉ (cst ws i).2.map (·.1) := fun h => by
          have := x.nd
          rw [hs, List.cons_append, List.nodup_cons] at this
          exact this.1 (List.mem_append_right _ h)
        rw [hs, List.reverse_cons, List.map_append] at hb2
        have hb3 : H1 b = some (.lst ((os.reverse.map fun (o : Nat) => V.int (o : Int)) ++ [.int (o : Int)])) := hb2
        refine ⟨_, rfl, _, rfl, _, rfl, .inl ⟨rfl, _, SqL.of hb3⟩, b, _, _, rfl, rfl, hb3, snoc_lastV _ _, ?_⟩
        rw [List.dropLast_concat]
        have hd2 : (upd H1 b (.lst (os.reverse.map fun (o : Nat) => V.int (o : Int)))) d = some (.dK (kvC (cst ws i).2)) := by rw [upd_ne nbd2]; exact hd1
        refine ⟨d, _, rfl, DPut.k (k := Sum.inl (o : Int)) hd2 (len1000' (by (first | lia | omega))), ?_⟩
        refine ⟨_, _, rfl, (sm.upd_new hb0).upd_new hd, ?_, ?_⟩
        · rw [upd_same, putK_new _ (kvC_none hno), hz]
          unfold kvC
          rw [List.map_append]
          rfl
        · rw [upd_ne nbd2.symm, upd_same, hz]
    · have e : wd ≠ SL := fun z => c (by rw [z]; exact decide_eq_true rfl)
      have hz := cst_tag hw e
      refine ⟨_, rfl, .inl ⟨rfl, _, SqL.of hb2⟩, _, rfl, b, _, _, rfl, rfl, hb2, len1000' (by rw [List.length_map, List.length_reverse]; have := x.cnt; (first | lia | omega)), ?_⟩
      refine ⟨_, _, rfl, sm.upd_new hb0, by rw [upd_ne nbd2, hz]; exact hd1, ?_⟩
      rw [upd_same, hz, List.reverse_cons, List.map_append]
      rfl
  · rintro σ H1 ⟨v3, v4, rfl, sm, hd1, hb1⟩
    rw [List.length_map] at hd1
    exact ⟨_, rfl, q d H1 sm hd hd1⟩
def spTreeV : Sp := fun vs H Q _ => ∃ (d : Addr) (ps : List (Nat × Nat)) (p e : Nat), vs = [.ref d, .int (p : Int)] ∧ H d = some (.dK (kvC ps)) ∧ (ps.map (·.1)).Nodup ∧ (p, e) ∈ ps ∧ Q (.int (((e : Int) + 1 - (p : Int)) / 2)) H
theorem ok_tree_size (B : ∀ x ∈ blts, mg x = none) (F : Fun K "tree_size" "tree_size" s_tree_size f fd) : FnOk P w K mg base CX0 1 f fd ["ended_at", "place"] spTreeV := by
  refine F.ok sc_tree_size (fun vs H Q E h => ?_) (fun cdv A outer s H vs Q E hr h => ?_)
  · obtain ⟨d, ps, p, e, rfl, _⟩ := h
    rfl
  obtain ⟨d, ps, p, e, rfl, hd, hn, hm, q⟩ := h
  have hu1 : (A.deeper (PyProof.Rows.envOfC (Str.ofString "tree_size") (defScope s_tree_size) s.heap.objs.size f cdv)).units + 1 < cLine := by have := hr.un; (first | lia | omega)
  refine ⟨_, (pss_one (ps_ret (pe_op op_fdiv (pe_op op_sub (pe_op op_add (pe_dget hu1 (pv 0) (pv 1) (fun _ _ => rfl)) pe_int) (pv 1)) pe_int))), ?_⟩
  have hcv : DGet H d (V.int (p : Int)) (some (.int (e : Int))) := by
    have := DGet.k (k := Sum.inl (p : Int)) hd
    rw [kvC_some hn hm] at this
    exact this
  exact ⟨_, rfl, _, rfl, d, _, rfl, hcv, _, _, rfl, rfl, _, rfl, _, _, rfl, rfl, _, _, rfl, rfl, ⟨by decide, by decide⟩, q⟩
/-- what the closings of a grove's words tell at a place -/
theorem cl_at {g : Gr Str} {p : Nat} (hn : ((prs 0 g).map (·.1)).Nodup) (hp : p ≤ 2 * gsz g) :
    ((∀ (H : Hp) d, H d = some (.dK (kvC (prs 0 g))) → DGet H d (.int (p : Int)) none) ∧ atG g p = .nil) ∨ ∃ (e : Nat) (t : Str) (w o : Gr Str), (∀ (H : Hp) d, H d = some (.dK (kvC (prs 0 g))) → DGet H d (.int (p : Int)) (some (.int (e : Int)))) ∧ (p, e) ∈ prs 0 g ∧ atG g p = .cons t w o ∧ e = p + 1 + 2 * gsz w ∧ atG g (p + 1) = w ∧ atG g (e + 1) = o ∧ (words SL g)[p]? = some t ∧ e + 1 ≤ 2 * gsz g := by
  by_cases c : p ∈ (prs 0 g).map (·.1)
  · obtain ⟨⟨p', e⟩, hm, rfl⟩ := List.mem_map.mp c
    obtain ⟨i, hi, t, w, o, h1, h2, h3, h4, h5, h6⟩ := prs_at g 0 p' e hm
    obtain rfl : p' = i := by (first | lia | omega)
    refine .inr ⟨e, t, w, o, fun H d hd => ?_, hm, h1, h2, h3, by rw [h2, show p' + 1 + 2 * gsz w + 1 = p' + 2 * gsz w + 2 by (first | lia | omega)]; exact h4, h5, by (first | lia | omega)⟩
    have := DGet.k (k := Sum.inl (p' : Int)) hd
    rw [kvC_some hn hm] at this
    exact this
  · refine .inl ⟨fun H d hd => ?_, prs_no g 0 p (by rw [Nat.zero_add]; exact c) hp⟩
    have := DGet.k (k := Sum.inl (p : Int)) hd
    rw [kvC_none c] at this
    exact this
theorem cst_all {g : Gr Str} (hc : Clean SL g) : (cst (words SL g) (words SL g).length).2 = prs 0 g := by
  have := cst_words g (words SL g) 0 hc fun j _ => by rw [Nat.zero_add]
  rw [Nat.zero_add] at this
  rw [gsz_words, this]
  rfl
/-- a tag's words, at their place -/
theorem prs_words : ∀ (g : Gr Str) (k p e : Nat), (p, e) ∈ prs k g → Clean SL g → ∃ i t w, p = k + i ∧ e = p + 1 + 2 * gsz w ∧ Clean SL (.cons t w .nil) ∧ (words SL g).drop i = words SL (.cons t w .nil) ++ (words SL g).drop (i + 2 + 2 * gsz w)
  | .cons t w o, k, p, e, h, ⟨c1, c2, c3⟩ => by
    have ew : words SL (.cons t w o) = t :: (words SL w ++ SL :: words SL o) := by simp [words]
    have lw : (words SL w).length = 2 * gsz w := gsz_words w
    rcases List.mem_append.mp h with h | h
    · obtain ⟨i, t', w', e1, e2, e3, e4⟩ := prs_words w (k + 1) p e h c2
      obtain ⟨i2, _, t2, w2, o2, _, _, _, _, _, hb⟩ := prs_at w (k + 1) p e h
      refine ⟨i + 1, t', w', by (first | lia | omega), e2, e3, ?_⟩
      have hi : i + 2 + 2 * gsz w' ≤ (words SL w).length := by
        have h1 := congrArg List.length e4
        rw [List.length_append, List.length_drop, List.length_drop, gsz_words] at h1
        have : gsz (.cons t' w' .nil) = 1 + gsz w' + 0 := rfl
        (first | lia | omega)
      rw [ew, List.drop_succ_cons, List.drop_append_of_le_length (by (first | lia | omega)), e4, show i + 1 + 2 + 2 * gsz w' = (i + 2 + 2 * gsz w') + 1 by (first | lia | omega), List.drop_succ_cons, List.drop_append_of_le_length hi, List.append_assoc]
    · rcases List.mem_cons.mp h with h | h
      · injection h with h1 h2
        refine ⟨0, t, w, by (first | lia | omega), by (first | lia | omega), ⟨c1, c2, trivial⟩, ?_⟩
        rw [ew, List.drop_zero, show 0 + 2 + 2 * gsz w = (2 * gsz w + 1) + 1 by (first | lia | omega), List.drop_succ_cons, List.drop_append, List.drop_of_length_le (by (first | lia | omega)), lw, show 2 * gsz w + 1 - 2 * gsz w = 1 by (first | lia | omega)]
        simp [words]
      · obtain ⟨i, t', w', e1, e2, e3, e4⟩ := prs_words o (k + 2 + 2 * gsz w) p e h c3
        refine ⟨i + 2 + 2 * gsz w, t', w', by (first | lia | omega), e2, e3, ?_⟩
        have key : ∀ j, (words SL (.cons t w o)).drop (j + 2 + 2 * gsz w) = (words SL o).drop j := fun j => by
          rw [ew, show j + 2 + 2 * gsz w = (2 * gsz w + 1 + j) + 1 by (first | lia | omega), List.drop_succ_cons, List.drop_append, List.drop_of_length_le (by (first | lia | omega)), lw, show 2 * gsz w + 1 + j - 2 * gsz w = j + 1 by (first | lia | omega)]
          rfl
        rw [key i, e4, show i + 2 + 2 * gsz w + 2 + 2 * gsz w' = (i + 2 + 2 * gsz w') + 2 + 2 * gsz w by (first | lia | omega), key]
theorem can_all {g : Gr Str} (hc : Clean SL g) : Can SL 0 (words SL g) := by
  have := can_words (n := 0) (ws := []) hc rfl
  rwa [List.append_nil] at this
/-- a rule: a kind, what is within, what is behind -/
structure Rl where
  k : Nat
  t : Str
  i : Nat
  r : Nat
abbrev Cs := List (Option Nat)
def above : Option Nat → Option Nat → Option Nat
  | some x, some y => some (1 + x + y)
  | _, _ => none
def better : Option Nat → Option Nat → Bool
  | none, _ => false
  | some _, none => true
  | some c, some d => decide (c < d)
def at_ (cs : Cs) (k : Nat) : Option Nat := cs.getD k none
def low (I : Cs → Cs) (cs : Cs) (q : Rl) : Option Nat := above (at_ (I cs) q.i) (at_ cs q.r)
def step1 (I : Cs → Cs) (cs : Cs) (q : Rl) : Cs := if better (low I cs q) (at_ cs q.k) = true then cs.set q.k (low I cs q) else cs
def pass (I : Cs → Cs) (rs : List Rl) (cs : Cs) : Cs := rs.foldl (step1 I) cs
def iter (I : Cs → Cs) (rs : List Rl) : Nat → Cs → Cs
  | 0, cs => cs
  | n + 1, cs => iter I rs n (pass I rs cs)
def Stab (I : Cs → Cs) (rs : List Rl) (cs : Cs) : Prop := ∀ q ∈ rs, better (low I cs q) (at_ cs q.k) = false
section
variable {I : Cs → Cs}
theorem iter_succ (rs : List Rl) : ∀ n cs, iter I rs (n + 1) cs = pass I rs (iter I rs n cs)
  | 0, _ => rfl
  | n + 1, cs => iter_succ rs n (pass I rs cs)
theorem iter_add (rs : List Rl) : ∀ a b cs, iter I rs (a + b) cs = iter I rs b (iter I rs a cs)
  | 0, b, cs => by rw [Nat.zero_add]; rfl
  | a + 1, b, cs => by
    rw [Nat.add_right_comm]
    exact iter_add rs a b (pass I rs cs)
theorem step_len (cs : Cs) (q : Rl) : (step1 I cs q).length = cs.length := by
  unfold step1
  split
  · rw [List.length_set]
  · rfl
theorem pass_len : ∀ (rs : List Rl) (cs : Cs), (pass I rs cs).length = cs.length
  | [], _ => rfl
  | q :: rs, cs => (pass_len rs (step1 I cs q)).trans (step_len cs q)
theorem iter_len (rs : List Rl) : ∀ n cs, (iter I rs n cs).length = cs.length
  | 0, _ => rfl
  | n + 1, cs => (iter_len rs n _).trans (pass_len rs cs)
theorem stab_pass : ∀ {rs : List Rl} {cs : Cs}, Stab I rs cs → pass I rs cs = cs
  | [], _, _ => rfl
  | q :: rs, cs, h => by
    show pass I rs (step1 I cs q) = cs
    have e : step1 I cs q = cs := by
      unfold step1
      rw [h q (List.mem_cons_self ..), if_neg (by decide)]
    rw [e]
    exact stab_pass fun p hp => h p (List.mem_cons_of_mem _ hp)
theorem stab_iter {rs : List Rl} {cs : Cs} (h : Stab I rs cs) : ∀ n, iter I rs n cs = cs
  | 0 => rfl
  | n + 1 => by
    show iter I rs n (pass I rs cs) = cs
    rw [stab_pass h]
    exact stab_iter h n
/-- what comes out is one -/
theorem one_out {rs : List Rl} {cs : Cs} {m n : Nat} (h1 : Stab I rs (iter I rs m cs)) (h2 : Stab I rs (iter I rs n cs)) : iter I rs m cs = iter I rs n cs := by
  rcases Nat.le_total m n with h | h
  · obtain ⟨d, rfl⟩ := Nat.exists_eq_add_of_le h
    rw [iter_add, stab_iter h1]
  · obtain ⟨d, rfl⟩ := Nat.exists_eq_add_of_le h
    rw [iter_add rs n d, stab_iter h2]
def nones (cs : Cs) : Nat := (cs.map fun c => if c.isNone then 1 else 0).sum
def summed (cs : Cs) : Nat := (cs.map fun c => c.getD 0).sum
theorem sum_set {f : Option Nat → Nat} : ∀ {cs : Cs} {k : Nat} (x : Option Nat), k < cs.length → ((cs.set k x).map f).sum + f (at_ cs k) = (cs.map f).sum + f x
  | [], _, _, h => absurd h (Nat.not_lt_zero _)
  | c :: cs, 0, x, _ => by
    show (f x + (cs.map f).sum) + f c = (f c + (cs.map f).sum) + f x
    (first | lia | omega)
  | c :: cs, k + 1, x, h => by
    have := sum_set (f := f) x (Nat.lt_of_succ_lt_succ h)
    show (f c + ((cs.set k x).map f).sum) + f (at_ cs k) = (f c + (cs.map f).sum) + f x
    (first | lia | omega)
abbrev Lx (a b : Cs) : Prop := Prod.Lex (· < ·) (· < ·) (nones a, summed a) (nones b, summed b)
theorem lx_iff {a b : Cs} : Lx a b ↔ nones a < nones b ∨ nones a = nones b ∧ summed a < summed b := Prod.lex_def
theorem Lx.trans {a b c : Cs} (h1 : Lx a b) (h2 : Lx b c) : Lx a c := by
  rw [lx_iff] at *
  (first | lia | omega)
theorem step_less {cs : Cs} {q : Rl} (hk : q.k < cs.length) (h : better (low I cs q) (at_ cs q.k) = true) : Lx (step1 I cs q) cs := by
  unfold step1
  rw [if_pos h]
  have h1 := sum_set (f := fun c => if c.isNone then 1 else 0) (low I cs q) hk
  have h2 := sum_set (f := fun c => c.getD 0) (low I cs q) hk
  rw [lx_iff]
  unfold nones summed
  cases hl : low I cs q with
  | none => rw [hl] at h; cases h
  | some c =>
    rw [hl] at h h1 h2
    cases ho : at_ cs q.k with
    | none =>
      rw [ho] at h1
      left
      simp only [Option.isNone_some, Option.isNone_none, if_true, Bool.false_eq_true, if_false] at h1
      (first | lia | omega)
    | some d =>
      rw [ho] at h h1 h2
      have hcd : c < d := of_decide_eq_true h
      right
      simp only [Option.isNone_some, Bool.false_eq_true, if_false, Option.getD_some] at h1 h2
      (first | lia | omega)
theorem pass_or : ∀ (rs : List Rl) (cs : Cs), (∀ q ∈ rs, q.k < cs.length) → Stab I rs cs ∨ Lx (pass I rs cs) cs
  | [], _, _ => .inl fun _ h => nomatch h
  | q :: rs, cs, h => by
    have hk := h q (List.mem_cons_self ..)
    have ih := pass_or rs (step1 I cs q) fun p hp => by rw [step_len]; exact h p (List.mem_cons_of_mem _ hp)
    cases hb : better (low I cs q) (at_ cs q.k) with
    | true =>
      right
      have hs := step_less hk hb
      rcases ih with ih | ih
      · show Lx (pass I rs (step1 I cs q)) cs
        rw [stab_pass ih]
        exact hs
      · exact Lx.trans ih hs
    | false =>
      have e : step1 I cs q = cs := by
        unfold step1
        rw [hb, if_neg (by decide)]
      rw [e] at ih
      rcases ih with ih | ih
      · left
        intro p hp
        rcases List.mem_cons.mp hp with rfl | hp
        · exact hb
        · exact ih p hp
      · right
        show Lx (pass I rs (step1 I cs q)) cs
        rw [e]
        exact ih
theorem ends_ (rs : List Rl) (cs : Cs) (h : ∀ q ∈ rs, q.k < cs.length) : ∃ m, Stab I rs (iter I rs m cs) := by
  by_cases hs : Stab I rs cs
  · exact ⟨0, hs⟩
  · have lt : Lx (pass I rs cs) cs := (pass_or rs cs h).resolve_left hs
    obtain ⟨m, hm⟩ := ends_ rs (pass I rs cs) fun q hq => by rw [pass_len]; exact h q hq
    exact ⟨m + 1, hm⟩
termination_by (nones cs, summed cs)
decreasing_by exact lt
end
abbrev iD : Cs → Cs := fun c => c
/-- a form -/
structure Fm where
  n : Nat
  ends : List Nat
  rules : List Rl
structure Fm.Ok (f : Fm) : Prop where
  e : ∀ x ∈ f.ends, x < f.n
  q : ∀ q ∈ f.rules, q.k < f.n ∧ q.i < f.n ∧ q.r < f.n
def setEnds (cs : Cs) (es : List Nat) : Cs := es.foldl (fun cs e => cs.set e (some 0)) cs
theorem setEnds_len : ∀ (es : List Nat) (cs : Cs), (setEnds cs es).length = cs.length
  | [], _ => rfl
  | e :: es, cs => (setEnds_len es (cs.set e (some 0))).trans List.length_set
def Fm.init (f : Fm) : Cs := setEnds (List.replicate f.n none) f.ends
theorem Fm.init_len (f : Fm) : f.init.length = f.n := by
  unfold Fm.init
  rw [setEnds_len, List.length_replicate]
theorem at_set {cs : Cs} {k j : Nat} {x : Option Nat} (h : k < cs.length) : at_ (cs.set k x) j = if k = j then x else at_ cs j := by
  unfold at_
  rw [List.getD_eq_getElem?_getD, List.getD_eq_getElem?_getD, List.getElem?_set]
  by_cases e : k = j
  · rw [if_pos e, if_pos e, if_pos h]
    rfl
  · rw [if_neg e, if_neg e]
/-- the ends have 0; what has a number is an end or has a rule that gives no more -/
structure Fm.Inv (f : Fm) (cs : Cs) : Prop where
  len : cs.length = f.n
  zero : ∀ e ∈ f.ends, at_ cs e = some 0
  got : ∀ k c, at_ cs k = some c → k ∈ f.ends ∨ ∃ q ∈ f.rules, q.k = k ∧ ∃ x y, at_ cs q.i = some x ∧ at_ cs q.r = some y ∧ 1 + x + y ≤ c
theorem setEnds_at {n : Nat} : ∀ (es : List Nat) (cs : Cs), cs.length = n → (∀ e ∈ es, e < n) → ∀ k, at_ (setEnds cs es) k = if k ∈ es then some 0 else at_ cs k
  | [], _, _, _, k => by rw [if_neg (by simp)]; rfl
  | e :: es, cs, hl, h, k => by
    show at_ (setEnds (cs.set e (some 0)) es) k = _
    rw [setEnds_at es _ (by rw [List.length_set]; exact hl) (fun x hx => h x (List.mem_cons_of_mem _ hx)), at_set (by rw [hl]; exact h e (List.mem_cons_self ..))]
    by_cases h1 : k ∈ es
    · rw [if_pos h1, if_pos (List.mem_cons_of_mem _ h1)]
    · rw [if_neg h1]
      by_cases h2 : e = k
      · rw [if_pos h2, if_pos (by rw [h2]; exact List.mem_cons_self ..)]
      · rw [if_neg h2, if_neg (fun hm => (List.mem_cons.mp hm).elim (fun z => h2 z.symm) h1)]
theorem at_rep {n k : Nat} : at_ (List.replicate n none) k = none := by
  unfold at_
  rw [List.getD_eq_getElem?_getD, List.getElem?_replicate]
  split <;> rfl
theorem Fm.inv_init {f : Fm} (ok : f.Ok) : f.Inv f.init := by
  have key := setEnds_at f.ends (List.replicate f.n none) List.length_replicate ok.e
  refine ⟨f.init_len, fun e he => ?_, fun k c hc => ?_⟩
  · unfold Fm.init
    rw [key, if_pos he]
  · unfold Fm.init at hc
    rw [key] at hc
    by_cases h : k ∈ f.ends
    · exact .inl h
    · rw [if_neg h, at_rep] at hc
      cases hc
theorem Fm.inv_step {f : Fm} (ok : f.Ok) {cs : Cs} (v : f.Inv cs) {q : Rl} (hq : q ∈ f.rules) : f.Inv (step1 iD cs q) := by
  unfold step1
  split
  · rename_i hb
    have hk : q.k < cs.length := by rw [v.len]; exact (ok.q q hq).1
    cases hx : at_ cs q.i with
    | none => unfold low above at hb; rw [hx] at hb; cases hb
    | some x =>
    cases hy : at_ cs q.r with
    | none => unfold low above at hb; rw [hx, hy] at hb; cases hb
    | some y =>
    have hl : low iD cs q = some (1 + x + y) := by unfold low above; rw [hx, hy]
    rw [hl] at hb ⊢
    have less : ∀ z, at_ cs q.k = some z → 1 + x + y < z := fun z hz => by
      rw [hz] at hb
      exact of_decide_eq_true hb
    have ni : q.k ≠ q.i := fun e => by have := less x (by rw [e]; exact hx); (first | lia | omega)
    have nr : q.k ≠ q.r := fun e => by have := less y (by rw [e]; exact hy); (first | lia | omega)
    refine ⟨by rw [List.length_set]; exact v.len, fun e he => ?_, fun k c hc => ?_⟩
    · rw [at_set hk]
      by_cases e1 : q.k = e
      · have := less 0 (by rw [e1]; exact v.zero e he)
        (first | lia | omega)
      · rw [if_neg e1]
        exact v.zero e he
    · rw [at_set hk] at hc
      by_cases e1 : q.k = k
      · rw [if_pos e1] at hc
        injection hc with hc
        refine .inr ⟨q, hq, e1, x, y, ?_, ?_, by (first | lia | omega)⟩
        · rw [at_set hk, if_neg ni]
          exact hx
        · rw [at_set hk, if_neg nr]
          exact hy
      · rw [if_neg e1] at hc
        rcases v.got k c hc with h | ⟨p, hp, e2, x2, y2, hx2, hy2, hle⟩
        · exact .inl h
        · have low2 : ∀ j z, at_ cs j = some z → ∃ z', at_ (cs.set q.k (some (1 + x + y))) j = some z' ∧ z' ≤ z := fun j z hz => by
            rw [at_set hk]
            by_cases e3 : q.k = j
            · rw [if_pos e3]
              exact ⟨_, rfl, Nat.le_of_lt (less z (by rw [e3]; exact hz))⟩
            · rw [if_neg e3]
              exact ⟨z, hz, Nat.le_refl _⟩
          obtain ⟨x3, hx3, hx4⟩ := low2 _ _ hx2
          obtain ⟨y3, hy3, hy4⟩ := low2 _ _ hy2
          exact .inr ⟨p, hp, e2, x3, y3, hx3, hy3, by (first | lia | omega)⟩
  · exact v
theorem Fm.inv_fold {f : Fm} (ok : f.Ok) : ∀ (rs : List Rl) (cs : Cs), (∀ q ∈ rs, q ∈ f.rules) → f.Inv cs → f.Inv (pass iD rs cs)
  | [], _, _, v => v
  | q :: rs, cs, h, v => Fm.inv_fold ok rs (step1 iD cs q) (fun p hp => h p (List.mem_cons_of_mem _ hp)) (Fm.inv_step ok v (h q (List.mem_cons_self ..)))
theorem Fm.inv_iter {f : Fm} (ok : f.Ok) : ∀ (m : Nat) (cs : Cs), f.Inv cs → f.Inv (iter iD f.rules m cs)
  | 0, _, v => v
  | m + 1, cs, v => Fm.inv_iter ok m _ (Fm.inv_fold ok f.rules cs (fun _ h => h) v)
/-- the fewest tags of each kind -/
def Fm.Res (f : Fm) (cs : Cs) : Prop := ∃ m, cs = iter iD f.rules m f.init ∧ Stab iD f.rules cs
theorem Fm.Res.one {f : Fm} {a b : Cs} (h1 : f.Res a) (h2 : f.Res b) : a = b := by
  obtain ⟨m, rfl, s1⟩ := h1
  obtain ⟨n, rfl, s2⟩ := h2
  exact one_out s1 s2
theorem Fm.Res.inv {f : Fm} (ok : f.Ok) {cs : Cs} (h : f.Res cs) : f.Inv cs := by
  obtain ⟨m, rfl, _⟩ := h
  exact Fm.inv_iter ok m _ (Fm.inv_init ok)
theorem Fm.Res.rule {f : Fm} {cs : Cs} (h : f.Res cs) {q : Rl} (hq : q ∈ f.rules) {x y : Nat} (hx : at_ cs q.i = some x) (hy : at_ cs q.r = some y) : ∃ c, at_ cs q.k = some c ∧ c ≤ 1 + x + y := by
  obtain ⟨m, _, st⟩ := h
  have := st q hq
  unfold low at this
  rw [hx, hy] at this
  cases hk : at_ cs q.k with
  | none => rw [hk] at this; cases this
  | some c =>
    rw [hk] at this
    have h2 : ¬ 1 + x + y < c := of_decide_eq_false this
    exact ⟨c, rfl, by (first | lia | omega)⟩
theorem Fm.Res.got {f : Fm} (ok : f.Ok) {cs : Cs} (h : f.Res cs) {k c : Nat} (hk : at_ cs k = some c) : k ∈ f.ends ∨ ∃ q ∈ f.rules, q.k = k ∧ ∃ x y, at_ cs q.i = some x ∧ at_ cs q.r = some y ∧ c = 1 + x + y := by
  rcases (h.inv ok).got k c hk with h1 | ⟨q, hq, e, x, y, hx, hy, hle⟩
  · exact .inl h1
  · obtain ⟨c2, h2, h3⟩ := h.rule hq hx hy
    rw [e, hk] at h2
    injection h2 with h2
    exact .inr ⟨q, hq, e, x, y, hx, hy, by (first | lia | omega)⟩
theorem pass_snoc {I : Cs → Cs} (rs : List Rl) (q : Rl) (cs : Cs) : pass I (rs ++ [q]) cs = step1 I (pass I rs cs) q := by
  unfold pass
  rw [List.foldl_append]
  rfl
theorem pass_app {I : Cs → Cs} (rs ps : List Rl) (cs : Cs) : pass I (rs ++ ps) cs = pass I ps (pass I rs cs) := by
  unfold pass
  rw [List.foldl_append]
/-- None is above all numbers -/
def leO : Option Nat → Option Nat → Prop
  | _, none => True
  | none, some _ => False
  | some x, some y => x ≤ y
theorem leO.refl : ∀ a, leO a a
  | none => trivial
  | some _ => Nat.le_refl _
theorem leO.trans : ∀ {a b c : Option Nat}, leO a b → leO b c → leO a c
  | _, _, none, _, _ => by unfold leO; split <;> trivial
  | none, some _, some _, h, _ => h.elim
  | some _, none, some _, _, h => h.elim
  | none, none, some _, _, h => h
  | some _, some _, some _, h1, h2 => Nat.le_trans h1 h2
theorem leO.anti : ∀ {a b : Option Nat}, leO a b → leO b a → a = b
  | none, none, _, _ => rfl
  | none, some _, h, _ => h.elim
  | some _, none, _, h => h.elim
  | some _, some _, h1, h2 => by rw [Nat.le_antisymm h1 h2]
theorem leO.some {a : Option Nat} {x : Nat} (h : leO a (some x)) : ∃ y, a = Option.some y ∧ y ≤ x := by
  cases a with
  | none => exact h.elim
  | some y => exact ⟨y, rfl, h⟩
def LE (a b : Cs) : Prop := ∀ k, leO (at_ a k) (at_ b k)
theorem LE.refl (a : Cs) : LE a a := fun k => leO.refl _
theorem LE.trans {a b c : Cs} (h1 : LE a b) (h2 : LE b c) : LE a c := fun k => (h1 k).trans (h2 k)
theorem step_le {I : Cs → Cs} {cs : Cs} {q : Rl} (hk : q.k < cs.length) : LE (step1 I cs q) cs := fun k => by
  unfold step1
  split
  · rename_i hb
    rw [at_set hk]
    by_cases e : q.k = k
    · rw [if_pos e, ← e]
      cases hl : low I cs q with
      | none => rw [hl] at hb; cases hb
      | some c =>
        rw [hl] at hb
        cases ho : at_ cs q.k with
        | none => trivial
        | some d =>
          rw [ho] at hb
          exact Nat.le_of_lt (of_decide_eq_true hb)
    · rw [if_neg e]
      exact leO.refl _
  · exact leO.refl _
theorem pass_le {I : Cs → Cs} : ∀ (rs : List Rl) {cs : Cs}, (∀ q ∈ rs, q.k < cs.length) → LE (pass I rs cs) cs
  | [], cs, _ => LE.refl _
  | q :: rs, cs, h => (pass_le rs (cs := step1 I cs q) fun p hp => by rw [step_len]; exact h p (List.mem_cons_of_mem _ hp)).trans (step_le (h q (List.mem_cons_self ..)))
theorem iter_le {I : Cs → Cs} (rs : List Rl) : ∀ (m : Nat) {cs : Cs}, (∀ q ∈ rs, q.k < cs.length) → LE (iter I rs m cs) cs
  | 0, cs, _ => LE.refl _
  | m + 1, cs, h => (iter_le rs m (cs := pass I rs cs) fun q hq => by rw [pass_len]; exact h q hq).trans (pass_le rs h)
/-- what comes out is below all that is under way -/
theorem out_low {I : Cs → Cs} {rs : List Rl} {cs : Cs} {m : Nat} (h : ∀ q ∈ rs, q.k < cs.length) (st : Stab I rs (iter I rs m cs)) (j : Nat) : LE (iter I rs m cs) (iter I rs j cs) := by
  rcases Nat.le_total j m with c | c
  · obtain ⟨d, rfl⟩ := Nat.exists_eq_add_of_le c
    rw [iter_add]
    exact iter_le rs d fun q hq => by rw [iter_len]; exact h q hq
  · obtain ⟨d, rfl⟩ := Nat.exists_eq_add_of_le c
    rw [iter_add, stab_iter st]
    exact LE.refl _
theorem cs_ext {a b : Cs} (hl : a.length = b.length) (h : ∀ k, at_ a k = at_ b k) : a = b := by
  refine List.ext_getElem hl fun i h1 h2 => ?_
  have := h i
  unfold at_ at this
  rw [List.getD_eq_getElem?_getD, List.getD_eq_getElem?_getD, List.getElem?_eq_getElem h1, List.getElem?_eq_getElem h2] at this
  exact this
theorem filt_lt {p q : Nat → Bool} : ∀ (l : List Nat), (∀ x ∈ l, p x = true → q x = true) → (∃ x ∈ l, q x = true ∧ p x = false) → (l.filter p).length < (l.filter q).length
  | [], _, ⟨x, hx, _⟩ => (nomatch hx)
  | y :: l, h, ⟨x, hx, hq, hp⟩ => by
    have le : ∀ m : List Nat, (∀ x ∈ m, p x = true → q x = true) → (m.filter p).length ≤ (m.filter q).length := by
      intro m
      induction m with
      | nil => intro _; exact Nat.le_refl _
      | cons a m ih =>
        intro hm
        have i := ih fun x hx => hm x (List.mem_cons_of_mem _ hx)
        rw [List.filter_cons, List.filter_cons]
        cases ha : p a with
        | true =>
          rw [hm a (List.mem_cons_self ..) ha]
          simp only [if_true, List.length_cons]
          (first | lia | omega)
        | false =>
          simp only [Bool.false_eq_true, if_false]
          split
          · rw [List.length_cons]; (first | lia | omega)
          · exact i
    rw [List.filter_cons, List.filter_cons]
    have hl := fun x hx => h x (List.mem_cons_of_mem y hx)
    rcases List.mem_cons.mp hx with rfl | hx
    · rw [hq, hp]
      have := le l hl
      simp only [if_true, Bool.false_eq_true, if_false, List.length_cons]
      (first | lia | omega)
    · have i := filt_lt l hl ⟨x, hx, hq, hp⟩
      cases ha : p y with
      | true =>
        rw [h y (List.mem_cons_self ..) ha]
        simp only [if_true, List.length_cons]
        (first | lia | omega)
      | false =>
        simp only [Bool.false_eq_true, if_false]
        split
        · rw [List.length_cons]; (first | lia | omega)
        · exact i
def ltB : Option Nat → Nat → Bool
  | none, _ => false
  | some x, v => decide (x < v)
/-- how many kinds have less -/
def cnt (c : Cs) (v : Nat) : Nat := ((List.range c.length).filter fun j => ltB (at_ c j) v).length
theorem cnt_lt {c : Cs} {i x v : Nat} (hi : i < c.length) (hx : at_ c i = some x) (h : x < v) : cnt c x < cnt c v := by
  refine filt_lt _ (fun j _ hj => ?_) ⟨i, List.mem_range.mpr hi, ?_, ?_⟩
  · cases e : at_ c j with
    | none => rw [e] at hj; cases hj
    | some y =>
      rw [e] at hj
      have := of_decide_eq_true hj
      exact decide_eq_true (by (first | lia | omega))
  · rw [hx]
    exact decide_eq_true h
  · rw [hx]
    exact decide_eq_false (Nat.lt_irrefl _)
theorem Fm.exact {f : Fm} (ok : f.Ok) {m : Nat} (st : Stab iD f.rules (iter iD f.rules m f.init)) : ∀ (v k : Nat), at_ (iter iD f.rules m f.init) k = some v → ∀ j, cnt (iter iD f.rules m f.init) v ≤ j → at_ (iter iD f.rules j f.init) k = some v := by
  have hk : ∀ q ∈ f.rules, q.k < f.init.length := fun q hq => by rw [f.init_len]; exact (ok.q q hq).1
  have res : f.Res (iter iD f.rules m f.init) := ⟨m, rfl, st⟩
  intro v
  induction v using Nat.strongRecOn with
  | _ v ih =>
  intro k hkv j hj
  rcases res.got ok hkv with he | ⟨q, hq, rfl, x, y, hx, hy, rfl⟩
  · have z1 := (res.inv ok).zero k he
    rw [hkv] at z1
    injection z1 with z1
    subst z1
    exact (Fm.inv_iter ok j _ (Fm.inv_init ok)).zero k he
  · have b := ok.q q hq
    have cl : (iter iD f.rules m f.init).length = f.n := by rw [iter_len, f.init_len]
    have c1 := cnt_lt (c := iter iD f.rules m f.init) (i := q.i) (v := 1 + x + y) (by rw [cl]; exact b.2.1) hx (by (first | lia | omega))
    have c2 := cnt_lt (c := iter iD f.rules m f.init) (i := q.r) (v := 1 + x + y) (by rw [cl]; exact b.2.2) hy (by (first | lia | omega))
    obtain ⟨j, rfl⟩ : ∃ j', j = j' + 1 := ⟨j - 1, by (first | lia | omega)⟩
    have i1 := ih x (by (first | lia | omega)) q.i hx j (by (first | lia | omega))
    have i2 := ih y (by (first | lia | omega)) q.r hy j (by (first | lia | omega))
    obtain ⟨pre, post, hpp⟩ := List.append_of_mem hq
    have hs : iter iD f.rules (j + 1) f.init = pass iD post (step1 iD (pass iD pre (iter iD f.rules j f.init)) q) := by
      rw [iter_succ]
      show pass iD f.rules _ = _
      rw [hpp, pass_app]
      rfl
    have lk : ∀ p ∈ f.rules, p.k < (iter iD f.rules j f.init).length := fun p hp => by rw [iter_len]; exact hk p hp
    have prm : ∀ p ∈ pre, p ∈ f.rules := fun p hp => by rw [hpp]; exact List.mem_append_left _ hp
    have pom : ∀ p ∈ post, p ∈ f.rules := fun p hp => by rw [hpp]; exact List.mem_append_right _ (List.mem_cons_of_mem _ hp)
    have L0 := out_low hk st (j + 1)
    have L1 := pass_le (I := iD) pre (cs := iter iD f.rules j f.init) fun p hp => lk p (prm p hp)
    have L2 := step_le (I := iD) (cs := pass iD pre (iter iD f.rules j f.init)) (q := q) (by rw [pass_len]; exact lk q hq)
    have L3 := pass_le (I := iD) post (cs := step1 iD (pass iD pre (iter iD f.rules j f.init)) q) fun p hp => by rw [step_len, pass_len]; exact lk p (pom p hp)
    rw [hs] at L0 ⊢
    have L4 := L0.trans (L3.trans L2)
    have fixed : ∀ {i z}, at_ (iter iD f.rules m f.init) i = some z → at_ (iter iD f.rules j f.init) i = some z → at_ (pass iD pre (iter iD f.rules j f.init)) i = some z := fun {i z} h1 h2 => by
      have a1 := L4 i
      have a2 := L1 i
      rw [h1] at a1
      rw [h2] at a2
      exact leO.anti a2 a1
    have x1 := fixed hx i1
    have y1 := fixed hy i2
    have le1 : leO (at_ (step1 iD (pass iD pre (iter iD f.rules j f.init)) q) q.k) (some (1 + x + y)) := by
      have hl : low iD (pass iD pre (iter iD f.rules j f.init)) q = some (1 + x + y) := by
        unfold low above
        rw [show at_ (iD (pass iD pre (iter iD f.rules j f.init))) q.i = some x from x1, y1]
      unfold step1
      rw [hl]
      split
      · rw [at_set (by rw [pass_len]; exact lk q hq), if_pos rfl]
        exact leO.refl _
      · rename_i hb
        cases ho : at_ (pass iD pre (iter iD f.rules j f.init)) q.k with
        | none => rw [ho] at hb; exact absurd rfl hb
        | some d =>
          rw [ho] at hb
          have : ¬ 1 + x + y < d := fun z => hb (decide_eq_true z)
          show d ≤ 1 + x + y
          (first | lia | omega)
    have a1 := L0 q.k
    rw [hkv] at a1
    exact leO.anti ((L3 q.k).trans le1) a1
/-- as many rounds as kinds are enough -/
theorem Fm.enough {f : Fm} (ok : f.Ok) {cs : Cs} (h : f.Res cs) : cs = iter iD f.rules f.n f.init := by
  obtain ⟨m, rfl, st⟩ := h
  have hk : ∀ q ∈ f.rules, q.k < f.init.length := fun q hq => by rw [f.init_len]; exact (ok.q q hq).1
  refine cs_ext (by rw [iter_len, iter_len]) fun k => ?_
  cases e : at_ (iter iD f.rules m f.init) k with
  | none =>
    have := out_low hk st f.n k
    rw [e] at this
    cases e2 : at_ (iter iD f.rules f.n f.init) k with
    | none => rfl
    | some z => rw [e2] at this; exact this.elim
  | some v =>
    refine (Fm.exact ok st v k e f.n ?_).symm
    refine Nat.le_trans (List.length_filter_le _ _) ?_
    rw [List.length_range, iter_len, f.init_len]
    exact Nat.le_refl _
/-- no number grows beyond the kinds -/
def Bd (cs : Cs) : Prop := ∀ k v, at_ cs k = some v → v + 1 ≤ 2 ^ (cs.length - nones cs)
theorem nones_le (cs : Cs) : nones cs ≤ cs.length := by
  unfold nones
  induction cs with
  | nil => exact Nat.le_refl _
  | cons c cs ih =>
    rw [List.map_cons, List.sum_cons, List.length_cons]
    split <;> (first | lia | omega)
theorem bd_step {cs : Cs} {q : Rl} (hk : q.k < cs.length) (hb : Bd cs) : Bd (step1 iD cs q) := by
  unfold step1
  split
  · rename_i h
    cases hx : at_ cs q.i with
    | none => unfold low above at h; rw [show at_ (iD cs) q.i = none from hx] at h; cases h
    | some x =>
    cases hy : at_ cs q.r with
    | none => unfold low above at h; rw [show at_ (iD cs) q.i = some x from hx, hy] at h; cases h
    | some y =>
    have hl : low iD cs q = some (1 + x + y) := by unfold low above; rw [show at_ (iD cs) q.i = some x from hx, hy]
    rw [hl] at h ⊢
    have h1 := sum_set (f := fun c => if c.isNone then 1 else 0) (some (1 + x + y)) hk
    have n1 : nones (cs.set q.k (some (1 + x + y))) + (if (at_ cs q.k).isNone then 1 else 0) = nones cs := by
      unfold nones
      simpa using h1
    have nl := nones_le cs
    have bx := hb q.i x hx
    have by_ := hb q.r y hy
    intro k v hv
    rw [List.length_set]
    rw [at_set hk] at hv
    cases ho : at_ cs q.k with
    | none =>
      rw [ho] at n1
      simp only [Option.isNone_none, if_true] at n1
      have e : cs.length - nones (cs.set q.k (some (1 + x + y))) = (cs.length - nones cs) + 1 := by (first | lia | omega)
      rw [e, Nat.pow_succ]
      by_cases c : q.k = k
      · rw [if_pos c] at hv
        injection hv with hv
        (first | lia | omega)
      · rw [if_neg c] at hv
        have := hb k v hv
        (first | lia | omega)
    | some d =>
      rw [ho] at n1 h
      simp only [Option.isNone_some, Bool.false_eq_true, if_false, Nat.add_zero] at n1
      rw [n1]
      by_cases c : q.k = k
      · rw [if_pos c] at hv
        injection hv with hv
        have := hb q.k d ho
        have : 1 + x + y < d := of_decide_eq_true h
        (first | lia | omega)
      · rw [if_neg c] at hv
        exact hb k v hv
  · exact hb
theorem bd_pass : ∀ (rs : List Rl) {cs : Cs}, (∀ q ∈ rs, q.k < cs.length) → Bd cs → Bd (pass iD rs cs)
  | [], _, _, h => h
  | q :: rs, cs, hk, h => bd_pass rs (cs := step1 iD cs q) (fun p hp => by rw [step_len]; exact hk p (List.mem_cons_of_mem _ hp)) (bd_step (hk q (List.mem_cons_self ..)) h)
theorem bd_iter (rs : List Rl) : ∀ (m : Nat) {cs : Cs}, (∀ q ∈ rs, q.k < cs.length) → Bd cs → Bd (iter iD rs m cs)
  | 0, _, _, h => h
  | m + 1, cs, hk, h => bd_iter rs m (cs := pass iD rs cs) (fun q hq => by rw [pass_len]; exact hk q hq) (bd_pass rs hk h)
theorem bd_init {f : Fm} (ok : f.Ok) : Bd f.init := fun k v hv => by
  have key := setEnds_at f.ends (List.replicate f.n none) List.length_replicate ok.e k
  unfold Fm.init at hv
  rw [key] at hv
  by_cases h : k ∈ f.ends
  · rw [if_pos h] at hv
    injection hv with hv
    subst hv
    exact Nat.one_le_two_pow
  · rw [if_neg h, at_rep] at hv
    cases hv
open Classical in
/-- what `lower` comes to -/
noncomputable def out (I : Cs → Cs) (rs : List Rl) (cs : Cs) : Cs := if h : ∃ m, Stab I rs (iter I rs m cs) then iter I rs h.choose cs else cs
theorem out_eq {I : Cs → Cs} {rs : List Rl} {cs : Cs} {m : Nat} (h : Stab I rs (iter I rs m cs)) : iter I rs m cs = out I rs cs := by
  have he : ∃ m, Stab I rs (iter I rs m cs) := ⟨m, h⟩
  unfold out
  rw [dif_pos he]
  exact one_out h he.choose_spec
structure Pr (c : Cs) (rs : List Rl) (cs p : Cs) : Prop where
  len : p.length = cs.length
  le : LE p cs
  cl : ∀ q ∈ rs, ∀ x y, at_ c q.i = some x → at_ p q.r = some y → ∃ v, at_ p q.k = some v ∧ v ≤ 1 + x + y
  got : ∀ k v, at_ p k = some v → at_ cs k = some v ∨ ∃ q ∈ rs, q.k = k ∧ ∃ x y, at_ c q.i = some x ∧ at_ p q.r = some y ∧ v = 1 + x + y
structure Pj (c : Cs) (rs : List Rl) (cs ds : Cs) : Prop where
  len : ds.length = cs.length
  got : ∀ k v, at_ ds k = some v → at_ cs k = some v ∨ ∃ q ∈ rs, q.k = k ∧ ∃ x y, at_ c q.i = some x ∧ at_ ds q.r = some y ∧ 1 + x + y ≤ v
theorem Pj.step {c cs ds : Cs} {rs : List Rl} (hk : ∀ q ∈ rs, q.k < cs.length) (v : Pj c rs cs ds) {q : Rl} (hq : q ∈ rs) : Pj c rs cs (step1 (fun _ => c) ds q) := by
  have hkk : q.k < ds.length := by rw [v.len]; exact hk q hq
  unfold step1
  split
  · rename_i hb
    cases hx : at_ c q.i with
    | none => unfold low above at hb; rw [hx] at hb; cases hb
    | some x =>
    cases hy : at_ ds q.r with
    | none => unfold low above at hb; rw [hx, hy] at hb; cases hb
    | some y =>
    have hl : low (fun _ => c) ds q = some (1 + x + y) := by unfold low above; rw [hx, hy]
    rw [hl] at hb ⊢
    have less : ∀ z, at_ ds q.k = some z → 1 + x + y < z := fun z hz => by
      rw [hz] at hb
      exact of_decide_eq_true hb
    have nr : q.k ≠ q.r := fun e => by have := less y (by rw [e]; exact hy); (first | lia | omega)
    refine ⟨by rw [List.length_set]; exact v.len, fun k d hc => ?_⟩
    rw [at_set hkk] at hc
    by_cases e1 : q.k = k
    · rw [if_pos e1] at hc
      injection hc with hc
      refine .inr ⟨q, hq, e1, x, y, hx, ?_, by (first | lia | omega)⟩
      rw [at_set hkk, if_neg nr]
      exact hy
    · rw [if_neg e1] at hc
      rcases v.got k d hc with h | ⟨p, hp, e2, x2, y2, hx2, hy2, hle⟩
      · exact .inl h
      · by_cases e3 : q.k = p.r
        · exact .inr ⟨p, hp, e2, x2, 1 + x + y, hx2, by rw [at_set hkk, if_pos e3], by have := less y2 (by rw [e3]; exact hy2); (first | lia | omega)⟩
        · exact .inr ⟨p, hp, e2, x2, y2, hx2, by rw [at_set hkk, if_neg e3]; exact hy2, hle⟩
  · exact v
theorem Pj.pass {c cs : Cs} {rs : List Rl} (hk : ∀ q ∈ rs, q.k < cs.length) : ∀ (ps : List Rl) {ds : Cs}, (∀ q ∈ ps, q ∈ rs) → Pj c rs cs ds → Pj c rs cs (pass (fun _ => c) ps ds)
  | [], _, _, v => v
  | q :: ps, ds, h, v => Pj.pass hk ps (ds := step1 (fun _ => c) ds q) (fun p hp => h p (List.mem_cons_of_mem _ hp)) (v.step hk (h q (List.mem_cons_self ..)))
theorem Pj.iter {c cs : Cs} {rs : List Rl} (hk : ∀ q ∈ rs, q.k < cs.length) : ∀ (m : Nat) {ds : Cs}, Pj c rs cs ds → Pj c rs cs (iter (fun _ => c) rs m ds)
  | 0, _, v => v
  | m + 1, ds, v => Pj.iter hk m (v.pass hk rs (fun _ h => h))
theorem out_pr {c cs : Cs} {rs : List Rl} (hk : ∀ q ∈ rs, q.k < cs.length) : Pr c rs cs (out (fun _ => c) rs cs) := by
  obtain ⟨m, st⟩ := ends_ (I := fun _ => c) rs cs hk
  have pj : Pj c rs cs (iter (fun _ => c) rs m cs) := Pj.iter hk m ⟨rfl, fun k v h => .inl h⟩
  have le := iter_le (I := fun _ => c) rs m hk
  have cl : ∀ q ∈ rs, ∀ x y, at_ c q.i = some x → at_ (iter (fun _ => c) rs m cs) q.r = some y → ∃ v, at_ (iter (fun _ => c) rs m cs) q.k = some v ∧ v ≤ 1 + x + y := fun q hq x y hx hy => by
    have := st q hq
    unfold low at this
    rw [hx, hy] at this
    cases hkk : at_ (iter (fun _ => c) rs m cs) q.k with
    | none => rw [hkk] at this; cases this
    | some d =>
      rw [hkk] at this
      have h2 : ¬ 1 + x + y < d := of_decide_eq_false this
      exact ⟨d, rfl, by (first | lia | omega)⟩
  rw [← out_eq st]
  refine ⟨pj.len, le, cl, fun k v hv => ?_⟩
  rcases pj.got k v hv with h | ⟨q, hq, e, x, y, hx, hy, hle⟩
  · exact .inl h
  · obtain ⟨v2, h2, h3⟩ := cl q hq x y hx hy
    rw [e, hv] at h2
    injection h2 with h2
    exact .inr ⟨q, hq, e, x, y, hx, hy, by (first | lia | omega)⟩
def cutC (n : Nat) (cs : Cs) : Cs := cs.map (Option.map (n + ·))
theorem cutC_at (n : Nat) (cs : Cs) (k : Nat) : at_ (cutC n cs) k = (at_ cs k).map (n + ·) := by
  unfold at_ cutC
  rw [List.getD_eq_getElem?_getD, List.getD_eq_getElem?_getD, List.getElem?_map]
  cases cs[k]? <;> rfl
def keepV (t : Str) (W O : Cs) (q : Rl) : Nat := (if t = q.t then 0 else 1) + (at_ W q.i).getD 0 + (at_ O q.r).getD 0
def keepS (t : Str) (W O : Cs) (cs : Cs) (q : Rl) : Cs := cs.set q.k (some (min (keepV t W O q) ((at_ cs q.k).getD 0)))
def initC (al : List Rl) (t : Str) (n : Nat) (W O : Cs) : Cs := al.foldl (keepS t W O) (cutC n O)
theorem keepS_len (t : Str) (W O cs : Cs) (q : Rl) : (keepS t W O cs q).length = cs.length := by
  unfold keepS
  rw [List.length_set]
theorem initC_snoc (al : List Rl) (q : Rl) (t : Str) (n : Nat) (W O : Cs) : initC (al ++ [q]) t n W O = keepS t W O (initC al t n W O) q := by
  unfold initC
  rw [List.foldl_append]
  rfl
theorem initC_len (t : Str) (n : Nat) (W O : Cs) (al : List Rl) : (initC al t n W O).length = O.length := by
  have : ∀ (al : List Rl) (cs : Cs), (al.foldl (keepS t W O) cs).length = cs.length := by
    intro al
    induction al with
    | nil => intro _; rfl
    | cons q al ih => intro cs; rw [List.foldl_cons, ih, keepS_len]
  unfold initC
  rw [this]
  unfold cutC
  rw [List.length_map]
structure Ki (t : Str) (n : Nat) (W O : Cs) (al : List Rl) (cs : Cs) : Prop where
  len : cs.length = O.length
  dom : ∀ k, (at_ cs k).isSome = (at_ O k).isSome
  le1 : ∀ k u v, at_ cs k = some u → at_ O k = some v → u ≤ n + v
  le2 : ∀ q ∈ al, ∀ u, at_ cs q.k = some u → u ≤ keepV t W O q
  got : ∀ k u, at_ cs k = some u → (∃ v, at_ O k = some v ∧ u = n + v) ∨ ∃ q ∈ al, q.k = k ∧ u = keepV t W O q
theorem Ki.step {t : Str} {n : Nat} {W O cs : Cs} {al : List Rl} {q : Rl} (h : Ki t n W O al cs) (hk : q.k < O.length) (hl : (at_ O q.k).isSome = true) : Ki t n W O (al ++ [q]) (keepS t W O cs q) := by
  have hkk : q.k < cs.length := by rw [h.len]; exact hk
  have hd := h.dom q.k
  rw [hl] at hd
  obtain ⟨d, hd⟩ := Option.isSome_iff_exists.mp hd
  have ha : ∀ k, at_ (keepS t W O cs q) k = if q.k = k then some (min (keepV t W O q) d) else at_ cs k := fun k => by
    unfold keepS
    rw [at_set hkk, hd]
    rfl
  have h0 := h.got q.k d hd
  refine ⟨by rw [keepS_len]; exact h.len, fun k => ?_, fun k u v hu hv => ?_, fun p hp u hu => ?_, fun k u hu => ?_⟩
  · rw [ha]
    by_cases e : q.k = k
    · rw [if_pos e, ← e, hl]
      rfl
    · rw [if_neg e]
      exact h.dom k
  · rw [ha] at hu
    by_cases e : q.k = k
    · rw [if_pos e] at hu
      injection hu with hu
      have := h.le1 q.k d v hd (by rw [e]; exact hv)
      (first | lia | omega)
    · rw [if_neg e] at hu
      exact h.le1 k u v hu hv
  · rw [ha] at hu
    by_cases e : q.k = p.k
    · rw [if_pos e] at hu
      injection hu with hu
      rcases List.mem_append.mp hp with hp | hp
      · have := h.le2 p hp d (by rw [← e]; exact hd)
        (first | lia | omega)
      · rw [List.mem_singleton.mp hp]
        (first | lia | omega)
    · rw [if_neg e] at hu
      rcases List.mem_append.mp hp with hp | hp
      · exact h.le2 p hp u hu
      · exact absurd (by rw [List.mem_singleton.mp hp]) e
  · rw [ha] at hu
    by_cases e : q.k = k
    · rw [if_pos e] at hu
      injection hu with hu
      rcases Nat.le_total (keepV t W O q) d with c | c
      · exact .inr ⟨q, List.mem_append_right _ (List.mem_singleton.mpr rfl), e, by (first | lia | omega)⟩
      · have eu : u = d := by (first | lia | omega)
        rw [eu, ← e]
        rcases h0 with ⟨v, h1, h2⟩ | ⟨p, h1, h2, h3⟩
        · exact .inl ⟨v, h1, h2⟩
        · exact .inr ⟨p, List.mem_append_left _ h1, h2, h3⟩
    · rw [if_neg e] at hu
      rcases h.got k u hu with ⟨v, h1, h2⟩ | ⟨p, h1, h2, h3⟩
      · exact .inl ⟨v, h1, h2⟩
      · exact .inr ⟨p, List.mem_append_left _ h1, h2, h3⟩
theorem Ki.fold {t : Str} {n : Nat} {W O : Cs} : ∀ (post pre : List Rl) {cs : Cs}, (∀ q ∈ post, q.k < O.length ∧ (at_ O q.k).isSome = true) → Ki t n W O pre cs → Ki t n W O (pre ++ post) (post.foldl (keepS t W O) cs)
  | [], pre, cs, _, h => by rw [List.append_nil]; exact h
  | q :: post, pre, cs, hk, h => by
    have h1 := h.step (hk q (List.mem_cons_self ..)).1 (hk q (List.mem_cons_self ..)).2
    have := Ki.fold post (pre ++ [q]) (fun p hp => hk p (List.mem_cons_of_mem _ hp)) h1
    rw [List.append_assoc] at this
    exact this
theorem Ki.start (t : Str) (n : Nat) (W O : Cs) : Ki t n W O [] (cutC n O) := by
  refine ⟨by unfold cutC; rw [List.length_map], fun k => ?_, fun k u v hu hv => ?_, fun q hq => (nomatch hq), fun k u hu => ?_⟩
  · rw [cutC_at, Option.isSome_map]
  · rw [cutC_at, hv] at hu
    have e : n + v = u := by simpa using hu
    (first | lia | omega)
  · rw [cutC_at] at hu
    obtain ⟨v, h1, h2⟩ := Option.map_eq_some_iff.mp hu
    exact .inl ⟨v, h1, h2.symm⟩
theorem Ki.all {t : Str} {n : Nat} {W O : Cs} {al : List Rl} (hk : ∀ q ∈ al, q.k < O.length ∧ (at_ O q.k).isSome = true) : Ki t n W O al (initC al t n W O) := by
  have := Ki.fold al [] hk (Ki.start t n W O)
  rw [List.nil_append] at this
  exact this
/-- the prices of a rest -/
noncomputable def PR (c : Cs) (al : List Rl) : Gr Str → Cs
  | .nil => c
  | .cons t w o => out (fun _ => c) al (initC al t (1 + gsz w) (PR c al w) (PR c al o))
structure AlOk (c : Cs) (al : List Rl) (n : Nat) : Prop where
  len : c.length = n
  kd : ∀ q ∈ al, q.k < n ∧ q.i < n ∧ q.r < n
  lv : ∀ q ∈ al, (at_ c q.k).isSome = true ∧ (at_ c q.i).isSome = true ∧ (at_ c q.r).isSome = true
theorem PR_dom {c : Cs} {al : List Rl} {n : Nat} (h : AlOk c al n) : ∀ g : Gr Str, (PR c al g).length = n ∧ ∀ k, (at_ (PR c al g) k).isSome = (at_ c k).isSome := by
  intro g
  induction g with
  | nil => exact ⟨h.len, fun _ => rfl⟩
  | cons t w o ihw iho =>
    obtain ⟨o1, o2⟩ := iho
    have ki := Ki.all (t := t) (n := 1 + gsz w) (W := PR c al w) (O := PR c al o) (al := al) fun q hq => ⟨by rw [o1]; exact (h.kd q hq).1, by rw [o2]; exact (h.lv q hq).1⟩
    have pr := out_pr (c := c) (cs := initC al t (1 + gsz w) (PR c al w) (PR c al o)) (rs := al) fun q hq => by rw [ki.len, o1]; exact (h.kd q hq).1
    refine ⟨(pr.len.trans ki.len).trans o1, fun k => ?_⟩
    show (at_ (out _ al _) k).isSome = _
    rw [← o2 k, ← ki.dom k]
    have l1 := pr.le k
    cases e : at_ (initC al t (1 + gsz w) (PR c al w) (PR c al o)) k with
    | some v =>
      rw [e] at l1
      obtain ⟨u, hu, _⟩ := leO.some l1
      rw [hu]
      rfl
    | none =>
      cases e2 : at_ (out (fun _ => c) al (initC al t (1 + gsz w) (PR c al w) (PR c al o))) k with
      | none => rfl
      | some u =>
        rcases pr.got k u e2 with z | ⟨q, hq, rfl, _⟩
        · rw [e] at z
          cases z
        · have := ki.dom q.k
          rw [e, o2, (h.lv q hq).1] at this
          cases this
structure PrC (c : Cs) (al : List Rl) (t : Str) (w o : Gr Str) : Prop where
  cut : ∀ k u v, at_ (PR c al (.cons t w o)) k = some u → at_ (PR c al o) k = some v → u ≤ 1 + gsz w + v
  kp : ∀ q ∈ al, ∀ u, at_ (PR c al (.cons t w o)) q.k = some u → u ≤ keepV t (PR c al w) (PR c al o) q
  put : ∀ q ∈ al, ∀ x y u, at_ c q.i = some x → at_ (PR c al (.cons t w o)) q.r = some y → at_ (PR c al (.cons t w o)) q.k = some u → u ≤ 1 + x + y
  got : ∀ k u, at_ (PR c al (.cons t w o)) k = some u → (∃ v, at_ (PR c al o) k = some v ∧ u = 1 + gsz w + v) ∨ (∃ q ∈ al, q.k = k ∧ u = keepV t (PR c al w) (PR c al o) q) ∨ ∃ q ∈ al, q.k = k ∧ ∃ x y, at_ c q.i = some x ∧ at_ (PR c al (.cons t w o)) q.r = some y ∧ u = 1 + x + y
theorem PR_cons {c : Cs} {al : List Rl} {n : Nat} (h : AlOk c al n) (t : Str) (w o : Gr Str) : PrC c al t w o := by
  obtain ⟨o1, o2⟩ := PR_dom h o
  have ki := Ki.all (t := t) (n := 1 + gsz w) (W := PR c al w) (O := PR c al o) (al := al) fun q hq => ⟨by rw [o1]; exact (h.kd q hq).1, by rw [o2]; exact (h.lv q hq).1⟩
  have pr := out_pr (c := c) (cs := initC al t (1 + gsz w) (PR c al w) (PR c al o)) (rs := al) fun q hq => by rw [ki.len, o1]; exact (h.kd q hq).1
  have up : ∀ k u, at_ (PR c al (.cons t w o)) k = some u → (at_ c k).isSome = true → ∃ z, at_ (initC al t (1 + gsz w) (PR c al w) (PR c al o)) k = some z ∧ u ≤ z := fun k u hu hl => by
    have l1 := pr.le k
    have d := ki.dom k
    rw [o2, hl] at d
    obtain ⟨z, hz⟩ := Option.isSome_iff_exists.mp d
    have hu' : at_ (out (fun _ => c) al (initC al t (1 + gsz w) (PR c al w) (PR c al o))) k = some u := hu
    rw [hz, hu'] at l1
    exact ⟨z, hz, l1⟩
  have lk : ∀ k u, at_ (PR c al (.cons t w o)) k = some u → (at_ c k).isSome = true := fun k u hu => by
    rw [← (PR_dom h (.cons t w o)).2 k, hu]
    rfl
  refine ⟨fun k u v hu hv => ?_, fun q hq u hu => ?_, fun q hq x y u hx hy hu => ?_, fun k u hu => ?_⟩
  · obtain ⟨z, hz, le⟩ := up k u hu (lk k u hu)
    exact Nat.le_trans le (ki.le1 k z v hz hv)
  · obtain ⟨z, hz, le⟩ := up q.k u hu (lk _ u hu)
    exact Nat.le_trans le (ki.le2 q hq z hz)
  · obtain ⟨v, hv, le⟩ := pr.cl q hq x y hx hy
    have hv' : at_ (PR c al (.cons t w o)) q.k = some v := hv
    rw [hu] at hv'
    injection hv' with e
    (first | lia | omega)
  · rcases pr.got k u hu with z | z
    · rcases ki.got k u z with z | z
      · exact .inl z
      · exact .inr (.inl z)
    · exact .inr (.inr z)
/-- the rules that lead on -/
def alive (c : Cs) (rs : List Rl) : List Rl := rs.filter fun q => (at_ c q.i).isSome && (at_ c q.r).isSome
theorem alive_ok {f : Fm} (ok : f.Ok) {c : Cs} (h : f.Res c) : AlOk c (alive c f.rules) f.n := by
  have hm : ∀ q ∈ alive c f.rules, q ∈ f.rules ∧ (at_ c q.i).isSome = true ∧ (at_ c q.r).isSome = true := fun q hq => by
    have := List.mem_filter.mp hq
    exact ⟨this.1, (Bool.and_eq_true _ _).mp this.2⟩
  refine ⟨(h.inv ok).len, fun q hq => ok.q q (hm q hq).1, fun q hq => ?_⟩
  obtain ⟨h1, h2, h3⟩ := hm q hq
  obtain ⟨x, hx⟩ := Option.isSome_iff_exists.mp h2
  obtain ⟨y, hy⟩ := Option.isSome_iff_exists.mp h3
  obtain ⟨v, hv, _⟩ := h.rule h1 hx hy
  exact ⟨by rw [hv]; rfl, h2, h3⟩
/-- a count, or None -/
def cV : Option Nat → V
  | none => .non
  | some c => .int (c : Int)
theorem cV_non {a : Option Nat} : decide (cV a = V.non) = a.isNone := by
  cases a with
  | none => rfl
  | some c => exact decide_eq_false (fun h => by cases h)
theorem cV_at {cs : Cs} {k : Nat} (h : k < cs.length) : atI (cs.map cV) ((k : Nat) : Int) = some (cV (at_ cs k)) := by
  refine atI_nat ?_
  rw [List.getElem?_map, List.getElem?_eq_getElem h]
  unfold at_
  rw [List.getD_eq_getElem?_getD, List.getElem?_eq_getElem h]
  rfl
theorem ix_nat {n k : Nat} (h : k < n) : ixN n ((k : Nat) : Int) = some k := by
  unfold ixN
  rw [if_pos (by (first | lia | omega)), if_pos (by (first | lia | omega))]
  rfl
theorem upd_id {H : Hp} {a : Addr} {o : HO} (h : H a = some o) : upd H a o = H := by
  funext b
  by_cases e : b = a
  · rw [e, upd_same, h]
  · rw [upd_ne e]
/-- the rules, as they lie -/
def Rls (H : Hp) (a : Addr) (qs : List Addr) (rs : List Rl) : Prop := H a = some (.tup (qs.map V.ref)) ∧ qs.length = rs.length ∧ ∀ (i : Nat) p q, qs[i]? = some p → rs[i]? = some q → H p = some (.tup [.int q.k, .str q.t, .int q.i, .int q.r])
theorem Rls.keep {H H' : Hp} {a : Addr} {qs : List Addr} {rs : List Rl} (h : Rls H a qs rs) (k : ∀ b xs, H b = some (.tup xs) → H' b = some (.tup xs)) : Rls H' a qs rs := ⟨k _ _ h.1, h.2.1, fun i p q e1 e2 => k _ _ (h.2.2 i p q e1 e2)⟩
theorem tup_upd {H : Hp} {p : Addr} {ys zs : List V} (hp : H p = some (.lst ys)) : ∀ b xs, H b = some (.tup xs) → (upd H p (.lst zs)) b = some (.tup xs) := fun b xs h => by
  rw [upd_ne (fun e => by rw [e, hp] at h; cases h)]
  exact h
structure Form (H : Hp) (a : Addr) (f : Fm) : Prop where
  ok : f.Ok
  ex : ∃ (h1 h2 h3 : Addr) (qs : List Addr), H a = some (.tup [.int f.n, .ref h1, .ref h2, .ref h3]) ∧ H h2 = some (.tup (f.ends.map fun (e : Nat) => V.int (e : Int))) ∧ Rls H h3 qs f.rules
theorem Form.same {H H' : Hp} {a : Addr} {f : Fm} (h : Form H a f) (s : Same H H') : Form H' a f := by
  obtain ⟨h1, h2, h3, qs, e1, e2, e3⟩ := h.ex
  exact ⟨h.ok, h1, h2, h3, qs, s _ _ e1, s _ _ e2, e3.keep fun b xs e => s _ _ e⟩
def spAbove : Sp := fun vs H Q _ => ∃ a b : Option Nat, vs = [cV a, cV b] ∧ Q (cV (above a b)) H
section
variable {X : Cx} {tg : Expr}
/-- a name that holds a tuple or a list, walked -/
theorem pi_tl {l : Expr} {i : Nat} (hl : PE X l (tVar i)) : PI X tg l (fun σ H R => tVar i σ H fun x H1 => (∃ a, x = .ref a ∧ (∃ xs, SqT X.K H1 a xs) ∧ R (Itt X.K a) H1) ∨ ∃ a, x = .ref a ∧ (∃ xs, SqL X.K H1 a xs) ∧ R (Itl X.K a) H1) := fun pins s σ H R I h => by
  obtain ⟨v, e, h | h⟩ := h
  · exact pi_tup hl pins s σ H R I ⟨v, e, h⟩
  · exact pi_list hl pins s σ H R I ⟨v, e, h⟩
end
theorem for_tl {K : PySem.W.Frag} {a : Addr} {xs : List V} {g : TG} {tb : TS} {D : Ends} {σ : St} {H : Hp} (Pv : Nat → St → Hp → Prop) (h0 : Pv 0 σ H) (hk : (SqT K H a xs ∧ ∀ i σ H1, i ≤ xs.length → Pv i σ H1 → SqT K H1 a xs) ∨ (SqL K H a xs ∧ ∀ i σ H1, i ≤ xs.length → Pv i σ H1 → SqL K H1 a xs))
    (hs : ∀ i x σ H, xs[i]? = some x → Pv i σ H → g x σ H fun σ2 H2 => tb { D with nx := Pv (i + 1), ct := Pv (i + 1), bk := D.nx } σ2 H2) (hd : ∀ σ H, Pv xs.length σ H → D.nx σ H) :
    (∃ b, V.ref a = .ref b ∧ (∃ xs, SqT K H b xs) ∧ ∃ W : Nat → Nat → St → Hp → Prop, (∃ m, W 0 m σ H) ∧ ∀ i m σ H, W i m σ H →
      ((Itt K b).stop i H ∧ D.nx σ H) ∨ ((Itt K b).go i H ∧ ∃ N : St → Hp → Prop, (∀ σ' H', N σ' H' → ∃ m', m' < m ∧ W (i + 1) m' σ' H') ∧ ∀ x H', (Itt K b).yld i H x H' → g x σ H' fun σ2 H2 => tb { D with nx := N, ct := N, bk := D.nx } σ2 H2)) ∨
    ∃ b, V.ref a = .ref b ∧ (∃ xs, SqL K H b xs) ∧ ∃ W : Nat → Nat → St → Hp → Prop, (∃ m, W 0 m σ H) ∧ ∀ i m σ H, W i m σ H →
      ((Itl K b).stop i H ∧ D.nx σ H) ∨ ((Itl K b).go i H ∧ ∃ N : St → Hp → Prop, (∀ σ' H', N σ' H' → ∃ m', m' < m ∧ W (i + 1) m' σ' H') ∧ ∀ x H', (Itl K b).yld i H x H' → g x σ H' fun σ2 H2 => tb { D with nx := N, ct := N, bk := D.nx } σ2 H2) := by
  rcases hk with ⟨h, hl⟩ | ⟨h, hl⟩
  · exact .inl ⟨a, rfl, ⟨xs, h⟩, for_tup Pv h0 hl hs hd⟩
  · exact .inr ⟨a, rfl, ⟨xs, h⟩, for_list Pv h0 hl hs hd⟩
def spLower (K : PySem.W.Frag) : Sp := fun vs H Q _ => ∃ (a pi p : Addr) (rs : List Rl) (qs : List Addr) (cs : Cs) (I : Cs → Cs), vs = [.ref a, .ref pi, .ref p] ∧ (H a = some (.tup (qs.map V.ref)) ∨ H a = some (.lst (qs.map V.ref))) ∧ a ≠ p ∧ qs.length = rs.length ∧ (∀ (i : Nat) p q, qs[i]? = some p → rs[i]? = some q → H p = some (.tup [.int q.k, .str q.t, .int q.i, .int q.r])) ∧ H p = some (.lst (cs.map cV)) ∧ (∀ ds : Cs, ds.length = cs.length → (I ds).length = cs.length ∧ (upd H p (.lst (ds.map cV))) pi = some (.lst ((I ds).map cV))) ∧ (∀ q ∈ rs, q.k < cs.length ∧ q.i < cs.length ∧ q.r < cs.length) ∧
  ∀ m, Stab I rs (iter I rs m cs) → Q .non (upd H p (.lst ((iter I rs m cs).map cV)))
def spFewest (K : PySem.W.Frag) : Sp := fun vs H Q _ => ∃ (a : Addr) (f : Fm), vs = [.ref a] ∧ Form H a f ∧ f.n ≤ 64 ∧ ∀ (r : Addr) (cs : Cs) (H' : Hp), Same H H' → H r = none → H' r = some (.lst (cs.map cV)) → f.Res cs → Q (.ref r) H'
theorem ok_count_above (B : ∀ x ∈ blts, mg x = none) (F : Fun K "count_above" "count_above" s_count_above f fd) : FnOk P w K mg base CX0 1 f fd ["inner", "rest"] spAbove := by
  refine F.ok sc_count_above (fun vs H Q E h => ?_) (fun cdv A outer s H vs Q E hr h => ?_)
  · obtain ⟨a, b, rfl, _⟩ := h
    rfl
  obtain ⟨a, b, rfl, q⟩ := h
  refine ⟨_, (pss_cons (ps_if (PW.pt (pw_or (pt_cmpR op_isN (pv 0) pe_non (nomark _)) (pw_or1 (pt_cmpR op_isN (pv 1) pe_non (nomark _)))))
      (pss_one (ps_ret pe_non))
      pss_nil)
    (pss_one (ps_ret (pe_op op_add (pe_op op_add pe_int (pv 0)) (pv 1))))), ?_⟩
  cases a with
  | none => exact ⟨_, rfl, rfl, _, rfl, iteT (iteT q)⟩
  | some x =>
    cases b with
    | none => exact ⟨_, rfl, rfl, _, rfl, iteF ⟨_, rfl, rfl, _, rfl, iteT q⟩⟩
    | some y =>
      refine ⟨_, rfl, rfl, _, rfl, iteF ⟨_, rfl, rfl, _, rfl, iteF ?_⟩⟩
      refine ⟨_, rfl, _, _, rfl, rfl, _, rfl, _, _, rfl, rfl, ?_⟩
      have e : cV (above (some x) (some y)) = V.int (1 + (x : Int) + (y : Int)) := by
        show V.int ((1 + x + y : Nat) : Int) = _
        congr 1
      rw [e] at q
      exact q
theorem ok_lower (B : ∀ x ∈ blts, mg x = none) (g_count_above : Has P w K mg base "count_above" ["inner", "rest"] 1 spAbove) (F : Fun K "lower" "lower" s_lower f fd) : FnOk P w K mg base CX0 2 f fd ["rules", "inners", "counts"] (spLower K) := by
  refine F.ok sc_lower (fun vs H Q E h => ?_) (fun cdv A outer s H vs Q E hr h => ?_)
  · obtain ⟨a, pi, p, rs, qs, cs, I, rfl, _⟩ := h
    rfl
  obtain ⟨a, pi, p, rs, qs, cs, I, rfl, hA, nap, hql, hR, hp, hI, hin, q⟩ := h
  obtain ⟨T, hT⟩ := ends_ (I := I) rs cs fun q hq => (hin q hq).1
  refine ⟨_, (pss_cons (ps_set (i := 3) sc_lower.nd rfl (Or.inl rfl) pe_bl)
    (pss_one (ps_while PassesOwn.never (pt_truth (pv 3) (fun _ => rfl))
      (pss_cons (ps_set (i := 3) sc_lower.nd rfl (Or.inl rfl) pe_bl)
        (pss_one (ps_for PassesOwn.never rfl (pi_tl (pv 0)) (pg_tup rfl (pgs_cons (pg_name (i := 4) sc_lower.nd rfl (Or.inl rfl)) (pgs_cons (pg_name (i := 5) sc_lower.nd rfl (Or.inl rfl)) (pgs_cons (pg_name (i := 6) sc_lower.nd rfl (Or.inl rfl)) (pgs_cons (pg_name (i := 7) sc_lower.nd rfl (Or.inl rfl)) pgs_nil)))))
          (pss_cons (ps_set (i := 8) sc_lower.nd rfl (Or.inl rfl) (pe_has g_count_above hr rfl (pa_cons (pe_ix ix_list (pv 1) (pv 6) (fun _ _ => rfl)) (pa_cons (pe_ix ix_list (pv 2) (pv 7) (fun _ _ => rfl)) pa_nil))))
            (pss_one (ps_if (PW.pt (pw_and (pt_cmpR op_notN (pv 8) pe_non (nomark _)) (pw_and1 (PW.pt (pw_or (pt_cmpR op_isN (pe_ix ix_list (pv 2) (pv 4) (fun _ _ => rfl)) pe_non (nomark _)) (pw_or1 (pt_cmpR op_lt (pv 8) (pe_ix ix_list (pv 2) (pv 4) (fun _ _ => rfl)) (nomark _))))))))
              (pss_cons (ps_asg (pv 8) (pg_sub (pv 2) (pv 4) set_list))
                (pss_one (ps_set (i := 3) sc_lower.nd rfl (Or.inl rfl) pe_bl)))
              pss_nil))))))))), ?_⟩
  let W : Nat → St → Hp → Prop := fun j σ H1 => ∃ (t : Nat) (fl : Bool) (v4 v5 v6 v7 v8 : Option V), σ = [some (.ref a), some (.ref pi), some (.ref p), some (.bl fl), v4, v5, v6, v7, v8] ∧
    H1 = upd H p (.lst ((iter I rs t cs).map cV)) ∧ t + j = T + 1 ∧ (fl = true → t ≤ T) ∧ (fl = false → Stab I rs (iter I rs t cs))
  refine ⟨W, ⟨T + 1, 0, true, none, none, none, none, none, rfl, (upd_id hp).symm, Nat.zero_add _, fun _ => Nat.zero_le _, fun h => nomatch h⟩, ?_⟩
  rintro j σ H1 ⟨t, fl, v4, v5, v6, v7, v8, rfl, rfl, htj, hf1, hf2⟩
  cases fl with
  | false => exact ⟨_, rfl, false, rfl, iteF (q t (hf2 rfl))⟩
  | true =>
    have htT := hf1 rfl
    refine ⟨_, rfl, true, rfl, iteT ⟨W (j - 1), fun σ' H' h => ⟨j - 1, by (first | lia | omega), h⟩, ?_⟩⟩
    generalize hct : iter I rs t cs = ct
    have hcl : ct.length = cs.length := by rw [← hct, iter_len]
    have hRu : ∀ zs (i : Nat) p' q, qs[i]? = some p' → rs[i]? = some q → (upd H p (.lst zs)) p' = some (.tup [.int q.k, .str q.t, .int q.i, .int q.r]) := fun zs i p' q e1 e2 => tup_upd hp _ _ (hR i p' q e1 e2)
    refine ⟨_, rfl, for_tl (K := K) (a := a) (xs := qs.map V.ref) (fun i σ H1 => ∃ (fl : Bool) (v4 v5 v6 v7 v8 : Option V), σ = [some (.ref a), some (.ref pi), some (.ref p), some (.bl fl), v4, v5, v6, v7, v8] ∧
      H1 = upd H p (.lst ((pass I (rs.take i) ct).map cV)) ∧ (fl = false → Stab I (rs.take i) ct) ∧ (fl = true → ¬ Stab I rs ct)) ⟨false, v4, v5, v6, v7, v8, rfl, rfl, fun _ _ h => (nomatch h), fun h => (nomatch h)⟩ ?_ ?_ ?_⟩
    · rcases hA with h | h
      · refine .inl ⟨SqT.of (tup_upd hp _ _ h), ?_⟩
        rintro i σ H1 _ ⟨fl, v4, v5, v6, v7, v8, _, rfl, _⟩
        exact SqT.of (tup_upd hp _ _ h)
      · refine .inr ⟨SqL.of (by rw [upd_ne nap]; exact h), ?_⟩
        rintro i σ H1 _ ⟨fl, v4, v5, v6, v7, v8, _, rfl, _⟩
        exact SqL.of (by rw [upd_ne nap]; exact h)
    · rintro i x σ H1 hi ⟨fl, v4, v5, v6, v7, v8, rfl, rfl, hst, hns⟩
      rw [List.getElem?_map] at hi
      obtain ⟨pq, hpq, rfl⟩ := Option.map_eq_some_iff.mp hi
      obtain ⟨q1, hq1⟩ : ∃ q1, rs[i]? = some q1 := ⟨_, List.getElem?_eq_getElem (by have := (List.getElem?_eq_some_iff.mp hpq).1; have := hql; (first | lia | omega))⟩
      have hqm : q1 ∈ rs := List.mem_of_getElem? hq1
      obtain ⟨k1, k2, k3⟩ := hin q1 hqm
      rw [take_succ' hq1, pass_snoc]
      have hcl2 : (pass I (rs.take i) ct).length = cs.length := by rw [pass_len, hcl]
      have hsame : Stab I (rs.take i) ct → pass I (rs.take i) ct = ct := fun h => stab_pass h
      have hq4 := hRu ((pass I (rs.take i) ct).map cV) i pq q1 hpq hq1
      generalize pass I (rs.take i) ct = ci at hcl2 hsame hq4
      have hl : ∀ {zs : List V}, SqL K (upd H p (.lst zs)) p zs := SqL.of upd_same
      obtain ⟨hI1, hI2⟩ := hI ci hcl2
      have k2' : q1.i < (I ci).length := by rw [hI1]; exact k2
      rw [← hcl2] at k1 k3
      refine ⟨pq, _, rfl, SqT.of hq4, rfl, _, _, rfl, _, _, rfl, _, _, rfl, _, _, rfl, rfl, ?_⟩
      refine ⟨_, rfl, _, rfl, pi, _, _, _, rfl, rfl, SqL.of hI2, cV_at k2', _, rfl, _, rfl, p, _, _, _, rfl, rfl, hl, cV_at k3, at_ (I ci) q1.i, at_ ci q1.r, rfl, ?_⟩
      have hlow : above (at_ (I ci) q1.i) (at_ ci q1.r) = low I ci q1 := rfl
      rw [hlow]
      have no : better (low I ci q1) (at_ ci q1.k) = false → ∃ (fl' : Bool) (w4 w5 w6 w7 w8 : Option V), [some (V.ref a), some (.ref pi), some (.ref p), some (.bl fl), some (.int q1.k), some (.str q1.t), some (.int q1.i), some (.int q1.r), some (cV (low I ci q1))] = [some (V.ref a), some (.ref pi), some (.ref p), some (.bl fl'), w4, w5, w6, w7, w8] ∧ upd H p (.lst (ci.map cV)) = upd H p (.lst ((step1 I ci q1).map cV)) ∧ (fl' = false → Stab I (rs.take i ++ [q1]) ct) ∧ (fl' = true → ¬ Stab I rs ct) := fun hb => by
        refine ⟨fl, _, _, _, _, _, rfl, ?_, fun hf => ?_, hns⟩
        · unfold step1
          rw [hb, if_neg (by decide)]
        · intro z hz
          rcases List.mem_append.mp hz with hz | hz
          · exact hst hf z hz
          · rw [List.mem_singleton.mp hz, ← hsame (hst hf)]
            exact hb
      have yes : better (low I ci q1) (at_ ci q1.k) = true → ∃ (fl' : Bool) (w4 w5 w6 w7 w8 : Option V), [some (V.ref a), some (.ref pi), some (.ref p), some (.bl true), some (.int q1.k), some (.str q1.t), some (.int q1.i), some (.int q1.r), some (cV (low I ci q1))] = [some (V.ref a), some (.ref pi), some (.ref p), some (.bl fl'), w4, w5, w6, w7, w8] ∧ upd (upd H p (.lst (ci.map cV))) p (.lst ((ci.map cV).set q1.k (cV (low I ci q1)))) = upd H p (.lst ((step1 I ci q1).map cV)) ∧ (fl' = false → Stab I (rs.take i ++ [q1]) ct) ∧ (fl' = true → ¬ Stab I rs ct) := fun hb => by
        refine ⟨true, _, _, _, _, _, rfl, ?_, fun hf => (nomatch hf), fun _ hS => ?_⟩
        · unfold step1
          rw [hb, if_pos rfl, upd_upd, List.map_set]
        · rw [hsame (fun z hz => hS z (List.mem_of_mem_take hz)), hS q1 hqm] at hb
          cases hb
      have hix : ixN (ci.map cV).length ((q1.k : Nat) : Int) = some q1.k := ix_nat (by rw [List.length_map]; exact k1)
      refine ⟨_, rfl, rfl, _, rfl, ?_⟩
      rw [cV_non]
      cases hlw : low I ci q1 with
      | none =>
        rw [hlw] at no
        exact iteF (iteF (no rfl))
      | some c =>
        rw [hlw] at no yes
        refine iteT ⟨_, rfl, _, rfl, p, _, _, _, rfl, rfl, hl, cV_at k1, rfl, _, rfl, ?_⟩
        rw [cV_non]
        cases hat : at_ ci q1.k with
        | none =>
          rw [hat] at yes
          exact iteT (iteT ⟨_, rfl, _, rfl, _, rfl, p, _, _, _, rfl, rfl, upd_same, hix, yes rfl⟩)
        | some d =>
          rw [hat] at no yes
          refine iteF ⟨_, rfl, _, rfl, _, rfl, p, _, _, _, rfl, rfl, hl, cV_at k1, ?_⟩
          rw [hat]
          refine ⟨_, _, rfl, rfl, _, rfl, ?_⟩
          refine ite2 (fun hc => ?_) (fun hc => ?_)
          · have hcd : c < d := by
              have := of_decide_eq_true hc
              (first | lia | omega)
            exact ⟨_, rfl, _, rfl, _, rfl, p, _, _, _, rfl, rfl, upd_same, hix, yes (decide_eq_true hcd)⟩
          · have hcd : ¬ c < d := fun h => hc (decide_eq_true (by (first | lia | omega)))
            exact no (decide_eq_false hcd)
    · rintro σ H1 ⟨fl, v4, v5, v6, v7, v8, rfl, rfl, hst, hns⟩
      rw [List.length_map, hql, List.take_length] at hst ⊢
      have hnext : pass I rs ct = iter I rs (t + 1) cs := by rw [iter_succ, hct]
      refine ⟨t + 1, fl, v4, v5, v6, v7, v8, rfl, by rw [hnext], by (first | lia | omega), fun hf => ?_, fun hf => ?_⟩
      · rcases Nat.lt_or_ge t T with h | h
        · exact h
        · exfalso
          have e : t = T := by (first | lia | omega)
          rw [e] at hct
          rw [hct] at hT
          exact hns hf hT
      · rw [← hnext, stab_pass (hst hf)]
        exact hst hf
theorem setEnds_snoc (cs : Cs) (es : List Nat) (e : Nat) : setEnds cs (es ++ [e]) = (setEnds cs es).set e (some 0) := by
  unfold setEnds
  rw [List.foldl_append]
  rfl
theorem nons_map (n : Nat) : (List.replicate n [V.non]).flatten = (List.replicate n (none : Option Nat)).map cV := by
  rw [List.map_replicate, List.flatten_replicate_singleton]
  rfl
theorem ok_fewest (B : ∀ x ∈ blts, mg x = none) (g_lower : Has P w K mg base "lower" ["rules", "inners", "counts"] 2 (spLower K)) (F : Fun K "fewest" "fewest" s_fewest f fd) : FnOk P w K mg base CX0 3 f fd ["form"] (spFewest K) := by
  refine F.ok sc_fewest (fun vs H Q E h => ?_) (fun cdv A outer s H vs Q E hr h => ?_)
  · obtain ⟨a, fm, rfl, _⟩ := h
    rfl
  obtain ⟨a, fm, rfl, hF, hn, q⟩ := h
  obtain ⟨h1, h2, h3, qs, ea, e2, hR⟩ := hF.ex
  have ok := hF.ok
  refine ⟨_, (pss_cons (ps_set (i := 1) sc_fewest.nd rfl (Or.inl rfl) (pe_op op_rep (pe_lst (pa_cons pe_non pa_nil)) (pe_ix ix_tup (pv 0) pe_int (fun _ _ => rfl))))
    (pss_cons (ps_for PassesOwn.never rfl (pi_tup (pe_ix ix_tup (pv 0) pe_int (fun _ _ => rfl))) (pg_name (i := 2) sc_fewest.nd rfl (Or.inl rfl))
      (pss_one (ps_asg pe_int (pg_sub (pv 1) (pv 2) set_list))))
    (pss_cons (ps_expr (pe_has g_lower hr rfl (pa_cons (pe_ix ix_tup (pv 0) pe_int (fun _ _ => rfl)) (pa_cons (pv 1) (pa_cons (pv 1) pa_nil)))))
    (pss_one (ps_ret (pv 1)))))), ?_⟩
  refine ⟨by decide, fun l hl => ?_⟩
  have sl : Same H (upd H l (.lst [.non])) := Same.new hl
  refine ⟨_, rfl, a, _, 0, _, rfl, rfl, SqT.of (sl _ _ ea), rfl, l, (fm.n : Int), _, rfl, rfl, upd_same, by (first | lia | omega), by (first | lia | omega), ?_, fun p hp => ?_⟩
  · show 1 * (fm.n : Int).toNat ≤ sizeLine
    exact len1000 (by (first | lia | omega))
  obtain ⟨npl, hp0⟩ := upd_none hp
  have s2 : Same H (upd (upd H l (.lst [.non])) p (.lst (List.replicate (fm.n : Int).toNat [V.non]).flatten)) := sl.upd_new hp0
  refine ⟨_, rfl, a, _, 2, _, rfl, rfl, SqT.of (s2 _ _ ea), rfl, h2, rfl, ⟨_, SqT.of (s2 _ _ e2)⟩, for_tup (K := K) (a := h2) (xs := fm.ends.map fun (e : Nat) => V.int (e : Int)) (fun i σ H1 => ∃ v2 : Option V, σ = [some (.ref a), some (.ref p), v2] ∧ Same H H1 ∧
    H1 p = some (.lst ((setEnds (List.replicate fm.n none) (fm.ends.take i)).map cV))) ⟨none, rfl, s2, ?_⟩ ?_ ?_ ?_⟩
  · rw [upd_same, Int.toNat_natCast, nons_map]
    rfl
  · rintro i σ H1 _ ⟨v2, _, sm, _⟩
    exact SqT.of (sm _ _ e2)
  · rintro i x σ H1 hi ⟨v2, rfl, sm, hp1⟩
    rw [List.getElem?_map] at hi
    obtain ⟨e, he, rfl⟩ := Option.map_eq_some_iff.mp hi
    have hen := ok.e e (List.mem_of_getElem? he)
    refine ⟨_, rfl, _, rfl, p, _, _, _, rfl, rfl, hp1, ix_nat (by rw [List.length_map, setEnds_len, List.length_replicate]; exact hen), ?_⟩
    refine ⟨_, rfl, sm.upd_new hp0, ?_⟩
    rw [upd_same, take_succ' he, setEnds_snoc, List.map_set]
    rfl
  · rintro σ H1 ⟨v2, rfl, sm, hp1⟩
    rw [List.length_map, List.take_length] at hp1
    have hin : ∀ q ∈ fm.rules, q.k < fm.init.length ∧ q.i < fm.init.length ∧ q.r < fm.init.length := fun q hq => by
      rw [fm.init_len]
      exact ok.q q hq
    refine ⟨_, rfl, a, _, 3, _, rfl, rfl, SqT.of (sm _ _ ea), rfl, _, rfl, _, rfl, h3, p, p, fm.rules, qs, fm.init, iD, rfl, .inl (sm _ _ hR.1), fun z => ?_, hR.2.1, fun i p q e1 e2 => sm _ _ (hR.2.2 i p q e1 e2), hp1, fun ds hd => ⟨hd, upd_same⟩, hin, fun m hS => ?_⟩
    · have := sm _ _ hR.1
      rw [z, hp1] at this
      cases this
    · exact ⟨_, rfl, q p _ _ (sm.upd_new hp0) hp0 upd_same ⟨m, rfl, hS⟩⟩
def spCut (K : PySem.W.Frag) : Sp := fun vs H Q _ => ∃ (b : Addr) (n : Nat) (cs : Cs), vs = [.int (n : Int), .ref b] ∧ H b = some (.lst (cs.map cV)) ∧ cs.length ≤ 64 ∧ ∀ (r : Addr) (H' : Hp), Same H H' → H r = none → H' r = some (.lst ((cutC n cs).map cV)) → Q (.ref r) H'
def spKeep : Sp := fun vs H Q _ => ∃ (x y : Str), vs = [.str x, .str y] ∧ Q (.int ((if x = y then 0 else 1 : Nat) : Int)) H
theorem ok_keep_price (B : ∀ x ∈ blts, mg x = none) (F : Fun K "keep_price" "keep_price" s_keep_price f fd) : FnOk P w K mg base CX0 1 f fd ["word", "tag"] spKeep := by
  refine F.ok sc_keep_price (fun vs H Q E h => ?_) (fun cdv A outer s H vs Q E hr h => ?_)
  · obtain ⟨x, y, rfl, _⟩ := h
    rfl
  obtain ⟨x, y, rfl, q⟩ := h
  refine ⟨_, (pss_one (ps_ret (pe_ifExp (pt_cmpR op_eq (pv 0) (pv 1) (nomark _)) pe_int pe_int))), ?_⟩
  refine ⟨_, rfl, _, rfl, rfl, _, rfl, ite2 (fun c => ?_) (fun c => ?_)⟩
  · have e : x = y := by
      have := of_decide_eq_true c
      injection this
    rw [if_pos e] at q
    exact q
  · have e : ¬ x = y := fun z => c (decide_eq_true (by rw [z]))
    rw [if_neg e] at q
    exact q
theorem ok_prices_of_cut (B : ∀ x ∈ blts, mg x = none) (F : Fun K "prices_of_cut" "prices_of_cut" s_prices_of_cut f fd) : FnOk P w K mg base CX0 1 f fd ["tags", "others"] (spCut K) := by
  refine F.ok sc_prices_of_cut (fun vs H Q E h => ?_) (fun cdv A outer s H vs Q E hr h => ?_)
  · obtain ⟨b, n, cs, rfl, _⟩ := h
    rfl
  obtain ⟨b, n, cs, rfl, hb, hl, q⟩ := h
  refine ⟨_, (pss_one (ps_ret (pe_comp (cl := _) ["price"] [("tags", 0)] (pi_list (pv 1)) (fun _ _ _ _ => (pg_name (i := 0) (show List.Nodup (["price", "tags"] : List Str) by decide) rfl (Or.inl rfl))) (fun _ _ _ _ => (pe_ifExp (pt_cmpR op_isN (pv 0) pe_non (nomark _)) pe_non (pe_op op_add (pv 1) (pv 0)))) rfl rfl (by decide) rfl (by decide) (cap_cl (by (repeat' first | exact List.forall_mem_nil _ | refine List.forall_mem_cons.mpr ⟨?_, ?_⟩) <;> rfl)) (cap_has (by (repeat' first | exact List.forall_mem_nil _ | refine List.forall_mem_cons.mpr ⟨?_, ?_⟩) <;> first | (intro h; exact ⟨_, rfl⟩) | (intro h; exact absurd h (by decide)))) (fun _ => by (repeat' first | exact List.forall_mem_nil _ | refine List.forall_mem_cons.mpr ⟨?_, ?_⟩) <;> exact ⟨rfl, rfl, Or.inl rfl⟩) (fun _ => rfl)))), ?_⟩
  refine ⟨_, rfl, b, rfl, ⟨_, SqL.of hb⟩, fun pc hpc => comp_list (K := K) (a := b) (p := pc) (xs := cs.map cV) (fun i ys σ H2 => ∃ v0 : Option V, σ = [v0, some (.int (n : Int))] ∧ Same H H2 ∧ H2 pc = some (.lst ys) ∧ ys = (cutC n (cs.take i)).map cV)
    ⟨none, rfl, Same.new hpc, upd_same, rfl⟩ ?_ ?_ ?_⟩
  · rintro i ys σ H2 _ ⟨v0, _, sm, h, _⟩
    exact ⟨SqL.of (sm _ _ hb), h⟩
  · rintro i ys x σ H2 hi hx ⟨v0, rfl, sm, hp, rfl⟩
    rw [List.getElem?_map] at hx
    obtain ⟨o, ho, rfl⟩ := Option.map_eq_some_iff.mp hx
    have fin : ∀ v, v = cV (o.map (n + ·)) → H2 pc = some (.lst ((cutC n (cs.take i)).map cV)) ∧ ((cutC n (cs.take i)).map cV).length < sizeLine ∧ ∃ m', m' < (cs.map cV).length - i ∧ CW (cs.map cV).length (fun i ys σ H2 => ∃ v0 : Option V, σ = [v0, some (.int (n : Int))] ∧ Same H H2 ∧ H2 pc = some (.lst ys) ∧ ys = (cutC n (cs.take i)).map cV) (i + 1) m' ((cutC n (cs.take i)).map cV ++ [v]) [some (cV o), some (.int (n : Int))] (upd H2 pc (.lst ((cutC n (cs.take i)).map cV ++ [v]))) := fun v hv => by
      refine ⟨hp, len1000' (by unfold cutC; rw [List.length_map, List.length_map, List.length_take]; (first | lia | omega)), CW.next hi ⟨_, rfl, sm.upd_new hpc, upd_same, ?_⟩⟩
      rw [take_succ' ho, hv]
      unfold cutC
      rw [List.map_append, List.map_append]
      rfl
    refine ⟨_, rfl, rfl, _, rfl, ?_⟩
    rw [cV_non]
    cases o with
    | none => exact iteT (fin _ rfl)
    | some d =>
      refine iteF ⟨_, rfl, _, rfl, _, _, rfl, rfl, fin _ ?_⟩
      show V.int ((n : Int) + (d : Int)) = V.int ((n + d : Nat) : Int)
      rw [Int.natCast_add]
  rintro ys σ H2 ⟨v0, rfl, sm, hp, rfl⟩
  rw [List.length_map, List.take_length] at hp
  exact q pc H2 sm hpc hp
/-- a table of rows of prices -/
structure TbC (H : Hp) (L : Addr) (rs : List Addr) (f : Nat → Cs) : Prop where
  hL : H L = some (.lst (rs.map V.ref))
  nd : (L :: rs).Nodup
  row : ∀ (i : Nat) r, rs[i]? = some r → H r = some (.lst ((f i).map cV))
theorem TbC.same {H H' : Hp} {L : Addr} {rs : List Addr} {f : Nat → Cs} (h : TbC H L rs f) (s : Same H H') : TbC H' L rs f := ⟨s _ _ h.hL, h.nd, fun i r hr => s _ _ (h.row i r hr)⟩
theorem TbC.keep {H H' : Hp} {L : Addr} {rs : List Addr} {f : Nat → Cs} (h : TbC H L rs f) (k : ∀ b o, b ∈ L :: rs → H b = some o → H' b = some o) : TbC H' L rs f := ⟨k _ _ (List.mem_cons_self ..) h.hL, h.nd, fun i r hr => k _ _ (List.mem_cons_of_mem _ (List.mem_of_getElem? hr)) (h.row i r hr)⟩
theorem TbC.at1 {H : Hp} {L : Addr} {rs : List Addr} {f : Nat → Cs} (h : TbC H L rs f) {i : Nat} (hi : i < rs.length) : ∃ r, rs[i]? = some r ∧ atI (rs.map V.ref) (i : Int) = some (.ref r) ∧ H r = some (.lst ((f i).map cV)) := by
  have e : rs[i]? = some (rs[i]'hi) := List.getElem?_eq_getElem hi
  exact ⟨_, e, atI_nat (by rw [List.getElem?_map, e]; rfl), h.row i _ e⟩
theorem TbC.ext {H : Hp} {L : Addr} {rs : List Addr} {f g : Nat → Cs} (h : TbC H L rs f) (e : ∀ i, i < rs.length → f i = g i) : TbC H L rs g := ⟨h.hL, h.nd, fun i r hr => by rw [← e i (List.getElem?_eq_some_iff.mp hr).1]; exact h.row i r hr⟩
theorem nd_snoc {L r : Addr} {rs : List Addr} (h : (L :: rs).Nodup) (h1 : r ≠ L) (h2 : r ∉ rs) : (L :: (rs ++ [r])).Nodup := by
  obtain ⟨n1, n2⟩ := List.nodup_cons.mp h
  refine List.nodup_cons.mpr ⟨fun hm => ?_, List.nodup_append.mpr ⟨n2, by simp, fun x hx y hy e => ?_⟩⟩
  · rcases List.mem_append.mp hm with hm | hm
    · exact n1 hm
    · exact h1 (List.mem_singleton.mp hm).symm
  · rw [List.mem_singleton.mp hy] at e
    exact h2 (by rw [← e]; exact hx)
/-- a row exchanged for a new one -/
theorem TbC.swap {H : Hp} {L r : Addr} {rs : List Addr} {f : Nat → Cs} {i : Nat} {cs : Cs} (h : TbC H L rs f) (hi : i < rs.length) (hr : H r = some (.lst (cs.map cV))) (n1 : r ≠ L) (n2 : r ∉ rs) : TbC (upd H L (.lst ((rs.map V.ref).set i (.ref r)))) L (rs.set i r) (fun j => if j = i then cs else f j) := by
  obtain ⟨m1, m2⟩ := List.nodup_cons.mp h.nd
  refine ⟨by rw [upd_same, List.map_set], List.nodup_cons.mpr ⟨fun z => ?_, ?_⟩, fun j x hx => ?_⟩
  · rcases List.mem_or_eq_of_mem_set z with z | z
    · exact m1 z
    · exact n1 z.symm
  · rw [List.set_eq_take_append_cons_drop, if_pos hi]
    have t1 : (rs.take i).Nodup := m2.sublist (List.take_sublist ..)
    have t2 : (rs.drop (i + 1)).Nodup := m2.sublist (List.drop_sublist ..)
    have nt : r ∉ rs.take i := fun z => n2 (List.mem_of_mem_take z)
    have ndp : r ∉ rs.drop (i + 1) := fun z => n2 (List.mem_of_mem_drop z)
    refine List.nodup_append.mpr ⟨t1, List.nodup_cons.mpr ⟨ndp, t2⟩, fun x hx y hy e => ?_⟩
    subst e
    rcases List.mem_cons.mp hy with rfl | hy
    · exact nt hx
    · have sp := List.take_append_drop i rs
      have : (rs.take i ++ rs.drop i).Nodup := by rw [sp]; exact m2
      refine (List.nodup_append.mp this).2.2 x hx x ?_ rfl
      rw [List.drop_eq_getElem_cons hi]
      exact List.mem_cons_of_mem _ hy
  · rw [List.getElem?_set] at hx
    by_cases c : i = j
    · subst c
      rw [if_pos rfl, if_pos hi] at hx
      injection hx with hx
      subst hx
      rw [upd_ne n1, if_pos rfl]
      exact hr
    · rw [if_neg c] at hx
      have nx : x ≠ L := fun z => m1 (by rw [← z]; exact List.mem_of_getElem? hx)
      rw [upd_ne nx, if_neg (fun z => c z.symm)]
      exact h.row j x hx
theorem filt_succ {α : Type} {P : α → Bool} {l : List α} {i : Nat} {x : α} (h : l[i]? = some x) : (l.take (i + 1)).filter P = (l.take i).filter P ++ if P x = true then [x] else [] := by
  rw [take_succ' h, List.filter_append]
  congr 1
  rw [List.filter_cons]
  split <;> rfl
/-- the rules as they lie, by their addresses -/
def RlA (H : Hp) (qs : List Addr) (rs : List Rl) : Prop := qs.length = rs.length ∧ ∀ (i : Nat) p q, qs[i]? = some p → rs[i]? = some q → H p = some (.tup [.int q.k, .str q.t, .int q.i, .int q.r])
theorem RlA.tk {H H' : Hp} {qs : List Addr} {rs : List Rl} (h : RlA H qs rs) (k : TK H H') : RlA H' qs rs := ⟨h.1, fun i p q e1 e2 => k _ _ (h.2 i p q e1 e2)⟩
theorem RlA.snoc {H : Hp} {qs : List Addr} {rs : List Rl} {p : Addr} {q : Rl} (h : RlA H qs rs) (e : H p = some (.tup [.int q.k, .str q.t, .int q.i, .int q.r])) : RlA H (qs ++ [p]) (rs ++ [q]) := ⟨by simp [h.1], fun i p' q' e1 e2 => by
  rcases Nat.lt_or_ge i rs.length with c | c
  · rw [List.getElem?_append_left (by rw [h.1]; exact c)] at e1
    rw [List.getElem?_append_left c] at e2
    exact h.2 i p' q' e1 e2
  · rw [List.getElem?_append_right (by rw [h.1]; exact c), h.1] at e1
    rw [List.getElem?_append_right c] at e2
    have e0 : i - rs.length = 0 := by
      have := (List.getElem?_eq_some_iff.mp e2).1
      simp at this
      (first | lia | omega)
    rw [e0] at e1 e2
    injection e1 with e1
    injection e2 with e2
    subst e1 e2
    exact e⟩
theorem prs_len : ∀ (g : Gr Str) (k : Nat), (prs k g).length = gsz g
  | .nil, _ => rfl
  | .cons t w o, k => by
    have h1 := prs_len w (k + 1)
    have h2 := prs_len o (k + 2 + 2 * gsz w)
    simp only [prs, List.length_append, List.length_cons, gsz]
    (first | lia | omega)
theorem at_some {cs : Cs} {k x : Nat} (h : k < cs.length) (hx : at_ cs k = some x) : atI (cs.map cV) ((k : Nat) : Int) = some (.int (x : Int)) := by
  rw [cV_at h, hx]
  rfl
def spPaper (K : PySem.W.Frag) : Sp := fun vs H Q _ => ∃ (a b : Addr) (fm : Fm) (xs : List V) (g : Gr Str), vs = [.ref a, .ref b] ∧ Form H a fm ∧ fm.n ≤ 64 ∧ fm.rules.length ≤ 100 ∧ H b = some (.tup xs) ∧ RepG H xs g ∧ Clean SL g ∧ gsz g ≤ 30 ∧
  ∀ (L : Addr) (rs : List Addr) (c : Cs) (H' : Hp), Same H H' → (∀ r ∈ L :: rs, H r = none) → fm.Res c → rs.length = 2 * gsz g + 1 → TbC H' L rs (fun p => PR c (alive c fm.rules) (atG g p)) → Q (.ref L) H'
set_option maxHeartbeats 8000000 in
theorem ok_paper (B : ∀ x ∈ blts, mg x = none) (g_words_of : Has P w K mg base "words_of" ["grove"] 1 (spWords K)) (g_closings : Has P w K mg base "closings" ["words"] 1 (spClosK K)) (g_fewest : Has P w K mg base "fewest" ["form"] 3 (spFewest K)) (g_prices_of_cut : Has P w K mg base "prices_of_cut" ["tags", "others"] 1 (spCut K)) (g_tree_size : Has P w K mg base "tree_size" ["ended_at", "place"] 1 spTreeV) (g_keep_price : Has P w K mg base "keep_price" ["word", "tag"] 1 spKeep) (g_lower : Has P w K mg base "lower" ["rules", "inners", "counts"] 2 (spLower K))
    (F : Fun K "paper" "paper" s_paper f fd) : FnOk P w K mg base CX0 4 f fd ["form", "grove"] (spPaper K) := by
  refine F.ok sc_paper (fun vs H Q E h => ?_) (fun cdv A outer s H vs Q E hr h => ?_)
  · obtain ⟨a, b, fm, xs, g, rfl, _⟩ := h
    rfl
  obtain ⟨a, b, fm, xs, g, rfl, hF, hn, hrl, hb, hG, hgc, hg3, q⟩ := h
  have hu1 : (A.deeper (PyProof.Rows.envOfC (Str.ofString "paper") (defScope s_paper) s.heap.objs.size f cdv)).units + 1 < cLine := by have := hr.un; (first | lia | omega)
  have hu := hu_room hr
  refine hideI ((defBody s_paper).drop 6) (pss_one (ps_ret (pv 5))) (fun u6 h6 e6 => ?_)
  refine hideI ((sBody ((defBody s_paper).getD 5 (.Pass ⟨0, 0, 0, 0⟩))).drop 4) (pss_one (ps_asg (pv 9) (pg_sub (pv 5) (pv 7) set_list))) (fun u5_4 h5_4 e5_4 => ?_)
  refine hideI ((sBody ((defBody s_paper).getD 5 (.Pass ⟨0, 0, 0, 0⟩))).drop 3) (pss_cons (ps_expr (pe_has g_lower hr rfl (pa_cons (pv 6) (pa_cons (pv 4) (pa_cons (pv 9) pa_nil))))) h5_4) (fun u5_3 h5_3 e5_3 => ?_)
  refine hideI ((sBody ((sBody ((defBody s_paper).getD 5 (.Pass ⟨0, 0, 0, 0⟩))).getD 2 (.Pass ⟨0, 0, 0, 0⟩))).drop 1) (pss_one (ps_asg (pe_callB (call_min2 rfl) rfl (B "min" (by decide)) bt_min (pa_cons (pv 14) (pa_cons (pe_ix ix_list (pv 9) (pv 10) (fun _ _ => rfl)) pa_nil))) (pg_sub (pv 9) (pv 10) set_list))) (fun u5_2_1 h5_2_1 e5_2_1 => ?_)
  refine hideI ((sBody ((sBody ((defBody s_paper).getD 5 (.Pass ⟨0, 0, 0, 0⟩))).getD 2 (.Pass ⟨0, 0, 0, 0⟩))).drop 0) (pss_cons (ps_set (i := 14) sc_paper.nd rfl (Or.inl rfl) (pe_op op_add (pe_op op_add (pe_has g_keep_price hr rfl (pa_cons (pe_ix ix_list (pv 2) (pv 7) (fun _ _ => rfl)) (pa_cons (pv 11) pa_nil))) (pe_ix ix_list (pe_ix ix_list (pv 5) (pe_op op_add (pv 7) pe_int) (fun _ _ => rfl)) (pv 12) (fun _ _ => rfl))) (pe_ix ix_list (pv 8) (pv 13) (fun _ _ => rfl)))) h5_2_1) (fun u5_2_0 h5_2_0 e5_2_0 => ?_)
  refine hideI ((sBody ((defBody s_paper).getD 5 (.Pass ⟨0, 0, 0, 0⟩))).drop 2) (pss_cons (ps_for PassesOwn.never rfl (pi_list (pv 6)) (pg_tup rfl (pgs_cons (pg_name (i := 10) sc_paper.nd rfl (Or.inl rfl)) (pgs_cons (pg_name (i := 11) sc_paper.nd rfl (Or.inl rfl)) (pgs_cons (pg_name (i := 12) sc_paper.nd rfl (Or.inl rfl)) (pgs_cons (pg_name (i := 13) sc_paper.nd rfl (Or.inl rfl)) pgs_nil)))))
      h5_2_0) h5_3) (fun u5_2 h5_2 e5_2 => ?_)
  refine hideI ((sBody ((defBody s_paper).getD 5 (.Pass ⟨0, 0, 0, 0⟩))).drop 1) (pss_cons (ps_set (i := 9) sc_paper.nd rfl (Or.inl rfl) (pe_has g_prices_of_cut hr rfl (pa_cons (pe_has g_tree_size hr rfl (pa_cons (pv 3) (pa_cons (pv 7) pa_nil))) (pa_cons (pv 8) pa_nil)))) h5_2) (fun u5_1 h5_1 e5_1 => ?_)
  refine hideI ((sBody ((defBody s_paper).getD 5 (.Pass ⟨0, 0, 0, 0⟩))).drop 0) (pss_cons (ps_set (i := 8) sc_paper.nd rfl (Or.inl rfl) (pe_ix ix_list (pv 5) (pe_op op_add (pe_dget hu1 (pv 3) (pv 7) (fun _ _ => rfl)) pe_int) (fun _ _ => rfl))) h5_1) (fun u5_0 h5_0 e5_0 => ?_)
  refine hideI ((defBody s_paper).drop 5) (pss_cons (ps_for PassesOwn.never rfl (pi_list (pe_sorted_rev rfl rfl (B "sorted" (by decide)) (pa_cons (pv 3) pa_nil) pe_bl)) (pg_name (i := 7) sc_paper.nd rfl (Or.inl rfl))
      h5_0) h6) (fun u5 h5 e5 => ?_)
  refine hideI ((defBody s_paper).drop 4) (pss_cons (ps_set_comp_if (cl := _) (n0 := 6) sc_paper.nd rfl (Or.inl rfl) ["rule"] [("puts", 4)] (pi_tup (pe_ix ix_tup (pv 0) pe_int (fun _ _ => rfl))) (fun _ _ _ _ => (pg_name (i := 0) (show List.Nodup (["rule", "puts"] : List Str) by decide) rfl (Or.inl rfl))) (fun _ _ _ _ => (PW.pt (pw_and (pt_cmpR op_notN (pe_ix (ix_listK (K := K) rfl) (pv 1) (pe_ix (ix_tupK (K := K) rfl) (pv 0) pe_int (fun _ _ => rfl)) (fun _ _ => rfl)) pe_non (nomark _)) (pw_and1 (pt_cmpR op_notN (pe_ix (ix_listK (K := K) rfl) (pv 1) (pe_ix (ix_tupK (K := K) rfl) (pv 0) pe_int (fun _ _ => rfl)) (fun _ _ => rfl)) pe_non (nomark _)))))) (fun _ _ _ _ => (pv 0)) rfl rfl (by decide) rfl (by decide) (cap_cl (by (repeat' first | exact List.forall_mem_nil _ | refine List.forall_mem_cons.mpr ⟨?_, ?_⟩) <;> rfl)) (cap_has (by (repeat' first | exact List.forall_mem_nil _ | refine List.forall_mem_cons.mpr ⟨?_, ?_⟩) <;> first | (intro h; exact ⟨_, rfl⟩) | (intro h; exact absurd h (by decide)))) (fun _ => by (repeat' first | exact List.forall_mem_nil _ | refine List.forall_mem_cons.mpr ⟨?_, ?_⟩) <;> exact ⟨rfl, rfl, Or.inl rfl⟩) (fun _ => rfl) rfl) h5) (fun u4 h4 e4 => ?_)
  refine hideI ((defBody s_paper).drop 3) (pss_cons (ps_set_comp (cl := _) (n0 := 5) sc_paper.nd rfl (Or.inl rfl) ["place"] [("puts", 4)] (pi_range1 rfl (B "range" (by decide)) (pa_cons (pe_op op_add (pe_callB call_len_seq rfl (B "len" (by decide)) PySem.boot_len (pa_cons (pv 2) pa_nil)) pe_int) pa_nil)) (fun _ _ _ _ => (pg_name (i := 0) (show List.Nodup (["place", "puts"] : List Str) by decide) rfl (Or.inl rfl))) (fun _ _ _ _ => (pe_callTy (call_list_ofK (K := K) rfl) rfl (B "list" (by decide)) bt_list (pa_cons (pv 1) pa_nil))) rfl rfl (by decide) rfl (by decide) (cap_cl (by (repeat' first | exact List.forall_mem_nil _ | refine List.forall_mem_cons.mpr ⟨?_, ?_⟩) <;> rfl)) (cap_has (by (repeat' first | exact List.forall_mem_nil _ | refine List.forall_mem_cons.mpr ⟨?_, ?_⟩) <;> first | (intro h; exact ⟨_, rfl⟩) | (intro h; exact absurd h (by decide)))) (fun _ => by (repeat' first | exact List.forall_mem_nil _ | refine List.forall_mem_cons.mpr ⟨?_, ?_⟩) <;> exact ⟨rfl, rfl, Or.inl rfl⟩) (fun _ => rfl) rfl) h4) (fun u3 h3 e3 => ?_)
  refine hideI ((defBody s_paper).drop 2) (pss_cons (ps_set (i := 4) sc_paper.nd rfl (Or.inr rfl) (pe_has g_fewest hr rfl (pa_cons (pv 0) pa_nil))) h3) (fun u2 h2 e2 => ?_)
  refine hideI ((defBody s_paper).drop 1) (pss_cons (ps_set (i := 3) sc_paper.nd rfl (Or.inl rfl) (pe_has g_closings hr rfl (pa_cons (pv 2) pa_nil))) h2) (fun u1 h1 e1 => ?_)
  refine hideI ((defBody s_paper).drop 0) (pss_cons (ps_set (i := 2) sc_paper.nd rfl (Or.inl rfl) (pe_has g_words_of hr rfl (pa_cons (pv 1) pa_nil))) h1) (fun u0 h0 e0 => ?_)
  refine ⟨u0, h0, ?_⟩
  have gw := gsz_words g
  have ok := hF.ok
  have hcg : Can SL 0 (words SL g) := by
    have := can_words (n := 0) (ws := []) hgc rfl
    rwa [List.append_nil] at this
  refine by_eq e0 ?_
  refine ⟨_, rfl, b, xs, g, rfl, SqT.of hb, hG, by (first | lia | omega), fun W H1 s1 hW0 hW => ?_⟩
  refine by_eq e1 ?_
  refine ⟨_, rfl, W, _, rfl, SqL.of hW, hcg, by (first | lia | omega), fun D H2 s2 hD0 hD => ?_⟩
  rw [cst_all hgc] at hD
  have hng : ((prs 0 g).map (·.1)).Nodup := by
    have := (cst_ok hcg _ (Nat.le_refl _)).nd
    rw [cst_all hgc] at this
    exact (List.nodup_append.mp this).2.1
  have s12 := s1.trans s2
  refine by_eq e2 ?_
  refine ⟨_, rfl, a, fm, rfl, hF.same s12, hn, fun U c H3 s3 hU0 hU res => ?_⟩
  have s13 := s12.trans s3
  have hW3 := s3 _ _ (s2 _ _ hW)
  have hD3 := s3 _ _ hD
  have lg : (((words SL g).map V.str).length : Int) = ((2 * gsz g : Nat) : Int) := by rw [List.length_map, gw]
  have cl : c.length = fm.n := (res.inv ok).len
  have alk := alive_ok ok res
  generalize hal : alive c fm.rules = al at alk
  refine by_eq e3 ?_
  refine ⟨_, rfl, W, _, rfl, .inl (SqL.of hW3), _, _, rfl, rfl, ((2 * gsz g + 1 : Nat) : Int), congrArg (fun z => [V.int z]) (by rw [lg]; rfl), by (first | lia | omega), by (first | lia | omega), fun L hL => ?_⟩
  refine comp_range (lo := 0) (n := 2 * gsz g + 1) (p := L) (fun i ys σ H2 => ∃ (v0 : Option V) (rs : List Addr), σ = [v0, some (.ref U)] ∧ Same H3 H2 ∧ H2 L = some (.lst ys) ∧ ys = rs.map V.ref ∧ rs.length = i ∧ (L :: rs).Nodup ∧ (∀ b ∈ L :: rs, H3 b = none) ∧ ∀ r ∈ rs, H2 r = some (.lst (c.map cV)))
    ⟨none, [], rfl, Same.new hL, upd_same, rfl, rfl, by simp, fun b hb => by rw [List.mem_singleton.mp hb]; exact hL, fun _ h => (nomatch h)⟩ ?_ ?_ ?_
  · rintro i ys σ H2 _ ⟨v0, rs, _, _, h, _⟩
    exact h
  · rintro i ys σ H5 hi ⟨v0, rs, rfl, sm, hp, rfl, hrl, hnd, hfr, hrows⟩
    refine ⟨_, rfl, U, _, rfl, .inl (SqL.of (sm _ _ hU)), fun r hr0 => ?_⟩
    have k1 : Same H5 (upd H5 r (.lst (c.map cV))) := Same.new hr0
    have nrL : L ≠ r := ne_of_none hp hr0
    refine ⟨k1 _ _ hp, len1000' (by rw [List.length_map]; (first | lia | omega)), CW.next hi ⟨_, rs ++ [r], rfl, (sm.trans k1).upd_new hL, upd_same, by rw [List.map_append]; rfl, by rw [List.length_append, List.length_singleton]; (first | lia | omega), ?_, ?_, ?_⟩⟩
    · exact nd_snoc hnd nrL.symm fun hm => by
        have := hrows r hm
        rw [hr0] at this
        cases this
    · intro b hb
      rcases List.mem_cons.mp hb with rfl | hb
      · exact hL
      · rcases List.mem_append.mp hb with hb | hb
        · exact hfr b (List.mem_cons_of_mem _ hb)
        · rw [List.mem_singleton.mp hb]
          exact sm.free hr0
    · intro b hb
      rcases List.mem_append.mp hb with hb | hb
      · have e := k1 _ _ (hrows b hb)
        rw [upd_ne (show b ≠ L from fun z => (List.nodup_cons.mp hnd).1 (by rw [← z]; exact hb))]
        exact e
      · rw [List.mem_singleton.mp hb, upd_ne nrL.symm, upd_same]
  rintro ys σ H5 ⟨v0, rs, rfl, sm5, hp5, rfl, hrl5, hnd, hfr, hrows⟩
  have tb0 : TbC H5 L rs fun _ => c := ⟨hp5, hnd, fun i r hr => hrows r (List.mem_of_getElem? hr)⟩
  show u4 _ _ _
  have sH5 := s13.trans sm5
  obtain ⟨f1, f2, f3, qs, ea, ee, hRq, hRl, hRt⟩ := hF.ex
  have hU5 := sm5 _ _ hU
  refine by_eq e4 ?_
  refine ⟨_, rfl, a, _, 3, _, rfl, rfl, SqT.of (sH5 _ _ ea), rfl, f3, rfl, ⟨_, SqT.of (sH5 _ _ hRq)⟩, fun pr hpr => comp_tupT (K := K) (a := f3) (p := pr) (xs := qs.map V.ref) (fun i us σ H6 => ∃ (v0 : Option V) (as : List Addr), σ = [v0, some (.ref U)] ∧ Same H5 H6 ∧ H6 pr = some (.lst us) ∧ us = as.map V.ref ∧ RlA H6 as ((fm.rules.take i).filter fun q => (at_ c q.i).isSome && (at_ c q.r).isSome))
    ⟨none, [], rfl, Same.new hpr, upd_same, rfl, rfl, fun i p q e => (by simp at e)⟩ ?_ ?_ ?_⟩
  · rintro i us σ H6 _ ⟨v0, as, _, sm, h, _⟩
    exact ⟨SqT.of (sm _ _ (sH5 _ _ hRq)), h⟩
  · rintro i us x σ H6 hi hx ⟨v0, as, rfl, sm, h, rfl, hz⟩
    rw [List.getElem?_map] at hx
    obtain ⟨pq, hpq, rfl⟩ := Option.map_eq_some_iff.mp hx
    obtain ⟨q1, hq1⟩ : ∃ q1, fm.rules[i]? = some q1 := ⟨_, List.getElem?_eq_getElem (by have := (List.getElem?_eq_some_iff.mp hpq).1; (first | lia | omega))⟩
    obtain ⟨b1, b2, b3⟩ := ok.q q1 (List.mem_of_getElem? hq1)
    have e2' := sm _ _ (sH5 _ _ (hRt i pq q1 hpq hq1))
    have hfs := filt_succ (P := fun q : Rl => (at_ c q.i).isSome && (at_ c q.r).isSome) hq1
    have hzl : as.length ≤ 100 := by
      rw [hz.1]
      refine Nat.le_trans (List.length_filter_le ..) ?_
      rw [List.length_take]
      (first | lia | omega)
    have hU6 := sm _ _ hU5
    have no : ((at_ c q1.i).isSome && (at_ c q1.r).isSome) = false → RlA H6 as ((fm.rules.take (i + 1)).filter fun q => (at_ c q.i).isSome && (at_ c q.r).isSome) := fun hc => by
      rw [hfs, if_neg (by rw [hc]; decide), List.append_nil]
      exact hz
    refine ⟨_, rfl, _, rfl, pq, _, 2, _, rfl, rfl, SqT.of e2', rfl, U, _, _, _, rfl, rfl, SqL.of hU6, cV_at (by rw [cl]; exact b2), rfl, _, rfl, ?_⟩
    rw [cV_non]
    cases k1 : at_ c q1.i with
    | none => exact iteF (iteF (CW.next hi ⟨_, as, rfl, sm, h, rfl, no (by rw [k1]; rfl)⟩))
    | some x1 =>
      refine iteT ⟨_, rfl, _, rfl, pq, _, 3, _, rfl, rfl, SqT.of e2', rfl, U, _, _, _, rfl, rfl, SqL.of hU6, cV_at (by rw [cl]; exact b3), rfl, _, rfl, ?_⟩
      rw [cV_non]
      cases k2 : at_ c q1.r with
      | none => exact iteF (CW.next hi ⟨_, as, rfl, sm, h, rfl, no (by rw [k1, k2]; rfl)⟩)
      | some y1 =>
        refine iteT ⟨_, rfl, h, len1000' (by rw [List.length_map]; (first | lia | omega)), CW.next hi ⟨_, as ++ [pq], rfl, sm.upd_new hpr, upd_same, by rw [List.map_append]; rfl, ?_⟩⟩
        rw [hfs, if_pos (by rw [k1, k2]; rfl)]
        exact (RlA.snoc hz e2').tk (tup_upd h)
  rintro us σ H6 ⟨v0, as, rfl, sm6, hpr6, rfl, hz6⟩
  rw [List.length_map, hRl, List.take_length] at hz6
  have hz6 : RlA H6 as al := by rw [← hal]; exact hz6
  have tb6 := tb0.same sm6
  have s36 := sm5.trans sm6
  have hD6 := s36 _ _ hD3
  have hW6 := s36 _ _ hW3
  have hU6 := s36 _ _ hU
  show u5 _ _ _
  refine by_eq e5 ?_
  refine ⟨_, rfl, D, _, _, rfl, hD6, (by unfold kvC; rw [List.length_map, prs_len]; (first | lia | omega)), kvC_keys _, fun M ms hM hperm hpw => ?_⟩
  have k6 : Same H6 (upd H6 M (.lst (ms.map V.int))) := Same.new hM
  have hM7 : (upd H6 M (.lst (ms.map V.int))) M = some (.lst (ms.map V.int)) := upd_same
  have nML : M ≠ L := (ne_of_none tb6.hL hM).symm
  have tb7 := tb6.same k6
  have hD7 := k6 _ _ hD6
  have hW7 := k6 _ _ hW6
  have hU7 := k6 _ _ hU6
  have hpr7 := k6 _ _ hpr6
  have hz7 := hz6.tk k6.tk
  have s67 := sH5.trans (sm6.trans k6)
  have mem : ∀ x : Int, x ∈ ms ↔ ∃ p e : Nat, (p, e) ∈ prs 0 g ∧ x = (p : Int) := fun x => by
    rw [hperm.mem_iff, List.mem_map]
    constructor
    · rintro ⟨⟨p, e⟩, h1, rfl⟩
      exact ⟨p, e, h1, rfl⟩
    · rintro ⟨p, e, h1, rfl⟩
      exact ⟨(p, e), h1, rfl⟩
  have hL0 : H L = none := s13.free hL
  have nUL : U ≠ L := fun z => by
    rw [z, hL] at hU
    cases hU
  have nWL : W ≠ L := fun z => by
    rw [z, hL] at hW3
    cases hW3
  have nDL : D ≠ L := fun z => by
    rw [z, hL] at hD3
    cases hD3
  have npL : pr ≠ L := fun z => by
    rw [z, tb0.hL] at hpr
    cases hpr
  generalize upd H6 M (.lst (ms.map V.int)) = H7 at k6 hM7 tb7 hD7 hW7 hU7 hpr7 hz7 s67 ⊢
  have ins : ∀ {b : Addr}, b ≠ L → b ∉ [L] := fun h z => h (List.mem_singleton.mp z)
  refine ⟨M, rfl, ⟨_, SqL.of hM7⟩, for_list (K := K) (a := M) (xs := ms.map V.int) (fun i σ H8 => ∃ (v7 v8 v9 v10 v11 v12 v13 v14 : Option V) (rs : List Addr), σ = [some (.ref a), some (.ref b), some (.ref W), some (.ref D), some (.ref U), some (.ref L), some (.ref pr), v7, v8, v9, v10, v11, v12, v13, v14] ∧ KeepX [L] H7 H8 ∧ rs.length = 2 * gsz g + 1 ∧ (∀ r ∈ rs, H r = none) ∧ TbC H8 L rs (fun p => if (p : Int) ∈ ms.take i then PR c al (atG g p) else c))
    ⟨none, none, none, none, none, none, none, none, rs, rfl, fun _ _ _ h => h, hrl5, fun r hr => s13.free (hfr r (List.mem_cons_of_mem _ hr)), tb7.ext fun i _ => by simp⟩ ?_ ?_ ?_⟩
  · rintro i σ H8 _ ⟨_, _, _, _, _, _, _, _, _, _, k8, _⟩
    exact SqL.of (k8 _ _ (ins nML) hM7)
  · rintro i x σ H8 hx ⟨v7, v8, v9, v10, v11, v12, v13, v14, rs, rfl, k8, rl8, rf8, tb8⟩
    rw [List.getElem?_map] at hx
    obtain ⟨xi, hxi, rfl⟩ := Option.map_eq_some_iff.mp hx
    obtain ⟨p, e, hpe, rfl⟩ := (mem xi).mp (List.mem_of_getElem? hxi)
    obtain ⟨p', hp', t, wg, og, a1, a2, a3, a4, a5, a6⟩ := prs_at g 0 p e hpe
    obtain rfl : p = p' := by (first | lia | omega)
    rw [show p + 2 * gsz wg + 2 = e + 1 by (first | lia | omega)] at a4 a6
    have hD8 := k8 _ _ (ins nDL) hD7
    have hW8 := k8 _ _ (ins nWL) hW7
    have hU8 := k8 _ _ (ins nUL) hU7
    have hpr8 := k8 _ _ (ins npL) hpr7
    have tk8 : TK H7 H8 := fun b ys e => k8 b _ (ins (fun z => by rw [z, tb7.hL] at e; cases e)) e
    have hz8 := hz7.tk tk8
    -- what is known of the rows behind
    have later : ∀ j : Nat, p < j → j ≤ 2 * gsz g → (if (j : Int) ∈ ms.take i then PR c al (atG g j) else c) = PR c al (atG g j) := fun j h1 h2 => by
      by_cases cj : j ∈ (prs 0 g).map (·.1)
      · obtain ⟨⟨j', e'⟩, hm, rfl⟩ := List.mem_map.mp cj
        rw [if_pos]
        obtain ⟨n, hn', hx'⟩ := List.getElem_of_mem ((mem _).mpr ⟨j', e', hm, rfl⟩)
        rcases Nat.lt_or_ge n i with z | z
        · rw [← hx']
          exact List.mem_take_iff_getElem.mpr ⟨n, by (first | lia | omega), rfl⟩
        · exfalso
          obtain ⟨hi', hxi'⟩ := List.getElem?_eq_some_iff.mp hxi
          rcases Nat.lt_or_ge i n with z2 | z2
          · have := List.pairwise_iff_getElem.mp hpw i n hi' hn' z2
            rw [hxi', hx'] at this
            have : (p : Int) > (j' : Int) := this
            have : p < j' := h1
            (first | lia | omega)
          · obtain rfl : n = i := by (first | lia | omega)
            rw [hxi'] at hx'
            have : p < j' := h1
            (first | lia | omega)
      · have := prs_no g 0 j (by rw [Nat.zero_add]; exact cj) h2
        rw [this]
        split <;> rfl
    obtain ⟨ro, ro1, ro2, ro3⟩ := tb8.at1 (i := e + 1) (by (first | lia | omega))
    obtain ⟨rw_, rw1, rw2, rw3⟩ := tb8.at1 (i := p + 1) (by (first | lia | omega))
    rw [later (e + 1) (by (first | lia | omega)) a6, a4] at ro3
    rw [later (p + 1) (by (first | lia | omega)) (by (first | lia | omega)), a3] at rw3
    have dge := DGet.k (k := Sum.inl (p : Int)) hD8
    rw [kvC_some hng hpe] at dge
    obtain ⟨lw, dw⟩ := PR_dom alk wg
    obtain ⟨lo, do_⟩ := PR_dom alk og
    refine by_eq e5_0 ?_
    refine ⟨_, rfl, _, rfl, _, rfl, D, _, rfl, dge, _, _, rfl, rfl, L, _, _, _, rfl, rfl, SqL.of tb8.hL, ro2, ?_⟩
    show u5_1 _ _ _
    refine by_eq e5_1 ?_
    have te : ((e : Int) + 1 - (p : Int)) / 2 = ((1 + gsz wg : Nat) : Int) := by (first | lia | omega)
    refine ⟨_, rfl, _, rfl, D, prs 0 g, p, e, rfl, hD8, hng, hpe, _, rfl, ro, 1 + gsz wg, PR c al og, congrArg (fun z => [V.int z, V.ref ro]) te, ro3, by rw [lo]; exact hn, fun PP H9 s9 hPP0 hPP => ?_⟩
    have hD9 := s9 _ _ hD8
    have hW9 := s9 _ _ hW8
    have hU9 := s9 _ _ hU8
    have hpr9 := s9 _ _ hpr8
    have hz9 := hz8.tk s9.tk
    have tb9 := tb8.same s9
    have ro9 := s9 _ _ ro3
    have rw9 := s9 _ _ rw3
    have nP : ∀ {b : Addr} {o : HO}, H8 b = some o → b ≠ PP := fun h => ne_of_none h hPP0
    show u5_2 _ _ _
    refine by_eq e5_2 ?_
    have upn : ∀ {b : Addr} {o : HO} (zs : List V), H8 b = some o → (upd H9 PP (.lst zs)) b = some o := fun zs h => by
      rw [upd_ne (nP h)]
      exact s9 _ _ h
    refine ⟨_, rfl, pr, rfl, ⟨_, SqL.of hpr9⟩, for_list (K := K) (a := pr) (xs := as.map V.ref) (fun j σ HX => ∃ (v10 v11 v12 v13 v14 : Option V), σ = [some (.ref a), some (.ref b), some (.ref W), some (.ref D), some (.ref U), some (.ref L), some (.ref pr), some (.int (p : Int)), some (.ref ro), some (.ref PP), v10, v11, v12, v13, v14] ∧ HX = upd H9 PP (.lst ((initC (al.take j) t (1 + gsz wg) (PR c al wg) (PR c al og)).map cV)))
      ⟨v10, v11, v12, v13, v14, rfl, (upd_id hPP).symm⟩ ?_ ?_ ?_⟩
    · rintro j σ HX _ ⟨_, _, _, _, _, _, rfl⟩
      exact SqL.of (upn _ hpr8)
    · rintro j x σ HX hx ⟨v10, v11, v12, v13, v14, rfl, rfl⟩
      rw [List.getElem?_map] at hx
      obtain ⟨pq, hpq, rfl⟩ := Option.map_eq_some_iff.mp hx
      obtain ⟨q1, hq1⟩ : ∃ q1, al[j]? = some q1 := ⟨_, List.getElem?_eq_getElem (by have := (List.getElem?_eq_some_iff.mp hpq).1; have := hz8.1; (first | lia | omega))⟩
      have hqm : q1 ∈ al := List.mem_of_getElem? hq1
      obtain ⟨b1, b2, b3⟩ := alk.kd q1 hqm
      obtain ⟨l1, l2, l3⟩ := alk.lv q1 hqm
      have hq4 := hz8.2 j pq q1 hpq hq1
      obtain ⟨xw, hxw⟩ := Option.isSome_iff_exists.mp ((dw q1.i).trans l2)
      obtain ⟨yo, hyo⟩ := Option.isSome_iff_exists.mp ((do_ q1.r).trans l3)
      have ki := Ki.all (t := t) (n := 1 + gsz wg) (W := PR c al wg) (O := PR c al og) (al := al.take j) fun q hq => ⟨by rw [lo]; exact (alk.kd q (List.mem_of_mem_take hq)).1, by rw [do_]; exact (alk.lv q (List.mem_of_mem_take hq)).1⟩
      rw [take_succ' hq1, initC_snoc]
      have hci := ki.len
      have hdi := ki.dom q1.k
      rw [do_, l1] at hdi
      obtain ⟨di, hdi⟩ := Option.isSome_iff_exists.mp hdi
      generalize initC (al.take j) t (1 + gsz wg) (PR c al wg) (PR c al og) = ci at hci hdi
      have bk : q1.k < ci.length := by rw [hci, lo]; exact b1
      refine ⟨pq, _, rfl, SqT.of (upn _ hq4), rfl, _, _, rfl, _, _, rfl, _, _, rfl, _, _, rfl, rfl, ?_⟩
      refine by_eq e5_2_0 ?_
      have wat : atI ((words SL g).map V.str) (p : Int) = some (.str t) := atI_nat (by rw [List.getElem?_map, a5]; rfl)
      refine ⟨_, rfl, _, rfl, W, _, _, _, rfl, rfl, SqL.of (upn _ hW8), wat, _, rfl, t, q1.t, rfl, ?_⟩
      refine ⟨_, rfl, _, rfl, _, _, rfl, rfl, L, _, _, _, rfl, rfl, SqL.of (upn _ tb8.hL), rw2, _, rfl, rw_, _, _, _, rfl, rfl, SqL.of (upn _ rw3), at_some (by rw [lw]; exact b2) hxw, _, _, rfl, rfl, _, rfl, _, rfl, ro, _, _, _, rfl, rfl, SqL.of (upn _ ro3), at_some (by rw [lo]; exact b3) hyo, _, _, rfl, rfl, ?_⟩
      show u5_2_1 _ _ _
      refine by_eq e5_2_1 ?_
      refine ⟨_, rfl, _, rfl, _, rfl, PP, _, _, _, rfl, rfl, SqL.of upd_same, at_some bk hdi, _, _, rfl, _, rfl, _, rfl, PP, _, _, q1.k, rfl, rfl, upd_same, ix_nat (by rw [List.length_map]; exact bk), ?_⟩
      refine ⟨_, _, _, _, _, rfl, ?_⟩
      rw [upd_upd]
      unfold keepS
      rw [List.map_set]
      have ev : keepV t (PR c al wg) (PR c al og) q1 = (if t = q1.t then 0 else 1) + xw + yo := by
        unfold keepV
        rw [hxw, hyo]
        rfl
      congr 3
      show V.int _ = V.int ((min _ _ : Nat) : Int)
      rw [ev, hdi]
      congr 1
      show _ = ((min ((if t = q1.t then 0 else 1) + xw + yo) di : Nat) : Int)
      rw [Nat.min_def]
      generalize (if t = q1.t then 0 else 1 : Nat) = z
      split <;> split <;> (first | lia | omega)
    · rintro σ HX ⟨v10, v11, v12, v13, v14, rfl, rfl⟩
      rw [List.length_map, hz8.1, List.take_length]
      show u5_3 _ _ _
      refine by_eq e5_3 ?_
      have il := initC_len t (1 + gsz wg) (PR c al wg) (PR c al og) al
      rw [lo] at il
      have npP : pr ≠ PP := nP hpr8
      refine ⟨_, rfl, _, rfl, _, rfl, pr, U, PP, al, as, _, fun _ => c, rfl, .inr (upn _ hpr8), npP, hz8.1, fun i p q e1 e2 => upn _ (hz8.2 i p q e1 e2), upd_same, fun ds hd => ⟨by rw [il]; exact cl, ?_⟩, fun q hq => by rw [il]; exact alk.kd q hq, fun m st => ?_⟩
      · rw [upd_upd]
        exact upn _ hU8
      rw [out_eq st, upd_upd]
      have hout : out (fun _ => c) al (initC al t (1 + gsz wg) (PR c al wg) (PR c al og)) = PR c al (.cons t wg og) := rfl
      rw [hout]
      show u5_4 _ _ _
      refine by_eq e5_4 ?_
      have hi9 : p < rs.length := by (first | lia | omega)
      have hLP : (upd H9 PP (.lst ((PR c al (.cons t wg og)).map cV))) L = some (.lst (rs.map V.ref)) := upn _ tb8.hL
      refine ⟨_, rfl, _, rfl, _, rfl, L, _, _, p, rfl, rfl, hLP, ix_nat (by rw [List.length_map]; exact hi9), ?_⟩
      have tbP : TbC (upd H9 PP (.lst ((PR c al (.cons t wg og)).map cV))) L rs (fun p => if (p : Int) ∈ ms.take i then PR c al (atG g p) else c) := tb8.keep fun b o _ h => upn _ h
      have nPL : PP ≠ L := (nP tb8.hL).symm
      have nPr : PP ∉ rs := fun z => by
        obtain ⟨n, hn', hx'⟩ := List.getElem_of_mem z
        have := tb8.row n PP (by rw [List.getElem?_eq_getElem hn', hx'])
        rw [hPP0] at this
        cases this
      have tbN := tbP.swap hi9 (cs := PR c al (.cons t wg og)) upd_same nPL nPr
      refine ⟨_, _, _, _, _, _, _, _, rs.set p PP, rfl, ?_, by rw [List.length_set]; exact rl8, fun r hr => ?_, tbN.ext fun j hj => ?_⟩
      · intro b o hb h
        rw [upd_ne (fun z => hb (List.mem_singleton.mpr z))]
        exact upn _ (k8 b o hb h)
      · rcases List.mem_or_eq_of_mem_set hr with hr | hr
        · exact rf8 r hr
        · rw [hr]
          cases e0 : H PP with
          | none => rfl
          | some o =>
            have := k8 _ _ (ins nPL) (s67 _ _ e0)
            rw [hPP0] at this
            cases this
      · rw [take_succ' hxi]
        by_cases cj : j = p
        · subst cj
          rw [if_pos rfl, if_pos (by simp), a1]
        · rw [if_neg cj]
          have : ((j : Int) ∈ ms.take i ++ [(p : Int)]) ↔ (j : Int) ∈ ms.take i := by
            rw [List.mem_append, List.mem_singleton]
            constructor
            · rintro (z | z)
              · exact z
              · (first | lia | omega)
            · exact .inl
          simp only [this]
  · rintro σ H8 ⟨v7, v8, v9, v10, v11, v12, v13, v14, rs, rfl, k8, rl8, rf8, tb8⟩
    rw [List.length_map, List.take_length] at tb8
    show u6 _ _ _
    refine by_eq e6 ?_
    refine ⟨_, rfl, q L rs c H8 ?_ ?_ res rl8 (tb8.ext fun j hj => ?_)⟩
    · intro b o h
      exact k8 b o (ins (fun z => by rw [z, hL0] at h; cases h)) (s67 b o h)
    · intro r hr
      rcases List.mem_cons.mp hr with rfl | hr
      · exact hL0
      · exact rf8 r hr
    · by_cases cj : j ∈ (prs 0 g).map (·.1)
      · obtain ⟨⟨j', e'⟩, hm, rfl⟩ := List.mem_map.mp cj
        rw [if_pos ((mem _).mpr ⟨j', e', hm, rfl⟩), hal]
      · have := prs_no g 0 j (by rw [Nat.zero_add]; exact cj) (by (first | lia | omega))
        rw [this]
        split <;> rfl
def qOf (q : Rl) : Srd.Qd := ((q.k : Int), q.t, (q.i : Int), (q.r : Int))
def rOf (q : Srd.Qd) : Rl := ⟨q.1.toNat, q.2.1, q.2.2.1.toNat, q.2.2.2.toNat⟩
theorem rOf_qOf (q : Rl) : rOf (qOf q) = q := by
  cases q
  simp [rOf, qOf]
theorem keys_putT {κ : Type} [DecidableEq κ] (kvs : List (κ × V)) (k : κ) (v : V) : (putK kvs k v).map (·.1) = kvs.map (·.1) ∨ (putK kvs k v).map (·.1) = kvs.map (·.1) ++ [k] := by
  unfold putK
  split
  · left
    rw [List.map_map]
    refine List.map_congr_left fun kv _ => ?_
    show (if kv.1 = k then (kv.1, v) else kv).1 = kv.1
    split <;> rfl
  · right
    rw [List.map_append]
    rfl
/-- rules under way, as the keys of a dict -/
def FDR (n m : Nat) (kvs : List (List Key × V)) : Prop := ∃ rs : List Rl, kvs.map (·.1) = (rs.map qOf).map kOf ∧ (∀ q ∈ rs, q.k < n ∧ q.i < n ∧ q.r < n) ∧ rs.length ≤ m
theorem FDR.put {n m : Nat} {kvs : List (List Key × V)} {q : Rl} {v : V} (h : FDR n m kvs) (hq : q.k < n ∧ q.i < n ∧ q.r < n) : FDR n (m + 1) (putK kvs (kOf (qOf q)) v) := by
  obtain ⟨rs, h1, h2, h3⟩ := h
  rcases keys_putT kvs (kOf (qOf q)) v with e | e
  · exact ⟨rs, e.trans h1, h2, by (first | lia | omega)⟩
  · refine ⟨rs ++ [q], ?_, fun p hp => ?_, by rw [List.length_append, List.length_singleton]; (first | lia | omega)⟩
    · rw [e, h1, List.map_append, List.map_append]
      rfl
    · rcases List.mem_append.mp hp with hp | hp
      · exact h2 p hp
      · rw [List.mem_singleton.mp hp]
        exact hq
theorem FDR.len {n m : Nat} {kvs : List (List Key × V)} (h : FDR n m kvs) : kvs.length ≤ m := by
  obtain ⟨rs, h1, _, h3⟩ := h
  have := congrArg List.length h1
  rw [List.length_map, List.length_map, List.length_map] at this
  (first | lia | omega)
theorem ql_rls {H : Hp} : ∀ {zs : List V} {ms : List Srd.Qd}, QL H zs ms → (∀ q ∈ ms, qOf (rOf q) = q) → ∃ as : List Addr, zs = as.map V.ref ∧ as.length = (ms.map rOf).length ∧ ∀ (i : Nat) p q, as[i]? = some p → (ms.map rOf)[i]? = some q → H p = some (.tup [.int q.k, .str q.t, .int q.i, .int q.r])
  | _, _, .nil, _ => ⟨[], rfl, rfl, fun i p q e => by simp at e⟩
  | _, _, .cons (a := z) (b := q) ⟨p, e1, e2⟩ t, h => by
    obtain ⟨as, h1, h2, h3⟩ := ql_rls t fun x hx => h x (List.mem_cons_of_mem _ hx)
    refine ⟨p :: as, by rw [e1, h1]; rfl, by simp [h2], fun i p' q' k1 k2 => ?_⟩
    cases i with
    | zero =>
      injection k1 with k1
      injection k2 with k2
      subst k1 k2
      have := h q (List.mem_cons_self ..)
      have e3 : tq (qOf (rOf q)) = tq q := by rw [this]
      rw [e2, ← e3]
      rfl
    | succ i => exact h3 i p' q' k1 k2
/-- the last step of d[(a, b, c, e)] = v -/
theorem put4 {d pk : Addr} {H2 : Hp} {ys zs : List V} {kvs : List (List Key × V)} {k : List Key} {v : V} {R : Hp → Prop} (e : ys = zs) (fin : ∀ H3 H4, H3 = upd H2 pk (.tup zs) → H4 = upd H3 d (.dT (putK kvs k v)) → R H4) (hpk : H2 pk = none) (hd : H2 d = some (.dT kvs)) (hk : zs = k.map kV) (hl : kvs.length < sizeLine) : ∃ a H4, V.ref d = .ref a ∧ DPut (upd H2 pk (.tup ys)) a (.ref pk) v H4 ∧ R H4 := by
  subst e
  refine ⟨d, _, rfl, DPut.t (k := k) ?_ (by rw [upd_same, hk]) hl, fin _ _ rfl rfl⟩
  rw [upd_ne (ne_of_none hd hpk)]
  exact hd
def spForm85 (K : PySem.W.Frag) : Sp := fun vs H Q _ => ∃ (a tg : Addr) (ns : List Int) (ts : List Str), vs = [.ref a, .ref tg] ∧ SqL K H a (ns.map V.int) ∧ ns.length ≤ 63 ∧ H tg = some (.lst (ts.map V.str)) ∧ ts.length = 4 ∧
  ∀ (r : Addr) (fm : Fm) (H' : Hp), Same H H' → Form H' r fm → fm.n ≤ 24 → fm.rules.length ≤ 40 → Q (.ref r) H'
set_option maxHeartbeats 4000000 in
theorem ok_l_form (B : ∀ x ∈ blts, mg x = none) (g_l_cell_at : Has P w K mg base "_law_cell_at" ["_law_script", "_law_k"] 1 (spCell K)) (F : Fun K "_law_form" "_law_form" s_l_form f fd) : FnOk P w K mg base CX0 2 f fd ["_law_script", "_law_tags"] (spForm85 K) := by
  refine F.ok sc_l_form (fun vs H Q E h => ?_) (fun cdv A outer s H vs Q E hr h => ?_)
  · obtain ⟨a, tg, ns, ts, rfl, _⟩ := h
    rfl
  obtain ⟨a, tg, ns, ts, rfl, hS, h63, htg, t4, q⟩ := h
  have hu := hu_room hr
  have hu1 : (A.deeper (PyProof.Rows.envOfC (Str.ofString "_law_form") (defScope s_l_form) s.heap.objs.size f cdv)).units + 1 < cLine := by have := hr.un; (first | lia | omega)
  refine hideI ((defBody s_l_form).drop 8) (pss_one (ps_ret (pe_tup (pa_cons (pv 3) (pa_cons (pe_tup (pa_cons (pe_op op_mod (pv 2) (pv 3)) pa_nil)) (pa_cons (pe_callTy call_tuple_of rfl (B "tuple" (by decide)) bt_tuple (pa_cons (pv 8) pa_nil)) (pa_cons (pe_callTy call_tuple_of rfl (B "tuple" (by decide)) bt_tuple (pa_cons (pe_callB (call_sorted_dQ rfl) rfl (B "sorted" (by decide)) bt_sorted (pa_cons (pv 4) pa_nil)) pa_nil)) pa_nil))))))) (fun u8 h8 e8 => ?_)
  refine hideI ((defBody s_l_form).drop 7) (pss_cons (ps_if (PW.pt (pw_or (pt_cmpR op_gt (pv 3) pe_int (nomark _)) (pw_or1 (pt_cmpR (op_eq_nil hu) (pv 8) (pe_lst pa_nil) (nomark _)))))
      (pss_one (ps_set (i := 8) sc_l_form.nd rfl (Or.inl rfl) (pe_lst (pa_cons (pe_op op_sub (pv 3) pe_int) pa_nil))))
      pss_nil) h8) (fun u7 h7 e7 => ?_)
  refine hideI ((defBody s_l_form).drop 6) (pss_cons (ps_set_comp_if (cl := _) (n0 := 8) sc_l_form.nd rfl (Or.inl rfl) ["_law_kind"] [("_law_script", 0)] (pi_range1 rfl (B "range" (by decide)) (pa_cons (pv 3) pa_nil)) (fun _ _ _ _ => (pg_name (i := 0) (show List.Nodup (["_law_kind", "_law_script"] : List Str) by decide) rfl (Or.inl rfl))) (fun _ _ _ _ => (pt_cmpR op_eq (pe_op op_mod (pe_op op_fdiv (pe_has g_l_cell_at hr rfl (pa_cons (pv 1) (pa_cons pe_int pa_nil))) (pe_op op_add pe_int (pe_op op_mul pe_int (pv 0)))) pe_int) pe_int (nomark _))) (fun _ _ _ _ => (pv 0)) rfl rfl (by decide) rfl (by decide) (cap_cl (by (repeat' first | exact List.forall_mem_nil _ | refine List.forall_mem_cons.mpr ⟨?_, ?_⟩) <;> rfl)) (cap_has (by (repeat' first | exact List.forall_mem_nil _ | refine List.forall_mem_cons.mpr ⟨?_, ?_⟩) <;> first | (intro h; exact ⟨_, rfl⟩) | (intro h; exact absurd h (by decide)))) (fun _ => by (repeat' first | exact List.forall_mem_nil _ | refine List.forall_mem_cons.mpr ⟨?_, ?_⟩) <;> exact ⟨rfl, rfl, Or.inl rfl⟩) (fun _ => rfl) rfl) h7) (fun u6 h6 e6 => ?_)
  refine hideI ((sBody ((sBody ((defBody s_l_form).getD 5 (.Pass ⟨0, 0, 0, 0⟩))).getD 0 (.Pass ⟨0, 0, 0, 0⟩))).drop 0) (pss_one (ps_dput hu1 (pv 4) (pe_tup (pa_cons (pv 7) (pa_cons (pe_ix ix_list (pv 1) (pe_op op_mod (pe_op op_add (pv 2) (pv 7)) pe_int) (fun _ _ => rfl)) (pa_cons (pe_op op_sub (pv 3) pe_int) (pa_cons (pe_op op_add (pv 7) pe_int) pa_nil))))) pe_bl rfl)) (fun u5t0_0 h5t0_0 e5t0_0 => ?_)
  refine hideI ((sBody ((defBody s_l_form).getD 5 (.Pass ⟨0, 0, 0, 0⟩))).drop 0) (pss_one (ps_for PassesOwn.never rfl (pi_range1 rfl (B "range" (by decide)) (pa_cons (pe_op op_sub (pv 3) pe_int) pa_nil)) (pg_name (i := 7) sc_l_form.nd rfl (Or.inl rfl))
      h5t0_0)) (fun u5t0 h5t0 e5t0 => ?_)
  refine hideI ((defBody s_l_form).drop 5) (pss_cons (ps_if (pt_cmpR op_gt (pv 3) pe_int (nomark _))
      h5t0
      pss_nil) h6) (fun u5 h5 e5 => ?_)
  refine hideI ((sBody ((defBody s_l_form).getD 4 (.Pass ⟨0, 0, 0, 0⟩))).drop 1) (pss_one (ps_dput hu1 (pv 4) (pe_tup (pa_cons (pe_op op_mod (pv 6) (pv 3)) (pa_cons (pe_ix ix_list (pv 1) (pe_op op_mod (pe_op op_fdiv (pv 6) pe_int) pe_int) (fun _ _ => rfl)) (pa_cons (pe_op op_mod (pe_op op_fdiv (pv 6) pe_int) (pv 3)) (pa_cons (pe_op op_mod (pe_op op_fdiv (pv 6) pe_int) (pv 3)) pa_nil))))) pe_bl rfl)) (fun u4_1 h4_1 e4_1 => ?_)
  refine hideI ((sBody ((defBody s_l_form).getD 4 (.Pass ⟨0, 0, 0, 0⟩))).drop 0) (pss_cons (ps_set (i := 6) sc_l_form.nd rfl (Or.inl rfl) (pe_op op_mod (pe_op op_mul (pe_has g_l_cell_at hr rfl (pa_cons (pv 0) (pa_cons (pe_op op_add pe_int (pv 5)) pa_nil))) pe_int) pe_int)) h4_1) (fun u4_0 h4_0 e4_0 => ?_)
  refine hideI ((defBody s_l_form).drop 4) (pss_cons (ps_for PassesOwn.never rfl (pi_range1 rfl (B "range" (by decide)) (pa_cons (pe_op op_add pe_int (pe_op op_mod (pe_op op_fdiv (pv 2) pe_int) pe_int)) pa_nil)) (pg_name (i := 5) sc_l_form.nd rfl (Or.inl rfl))
      h4_0) h5) (fun u4 h4 e4 => ?_)
  refine hideI ((defBody s_l_form).drop 3) (pss_cons (ps_set (i := 4) sc_l_form.nd rfl (Or.inl rfl) pe_dnewT) h4) (fun u3 h3 e3 => ?_)
  refine hideI ((defBody s_l_form).drop 2) (pss_cons (ps_if (pt_cmpR op_eq (pe_op op_mod (pe_op op_fdiv (pv 2) pe_int) pe_int) pe_int (nomark _))
      (pss_one (ps_set (i := 3) sc_l_form.nd rfl (Or.inl rfl) (pe_op op_add pe_int (pe_op op_mod (pe_op op_fdiv (pv 2) pe_int) pe_int))))
      pss_nil) h3) (fun u2 h2 e2 => ?_)
  refine hideI ((defBody s_l_form).drop 1) (pss_cons (ps_set (i := 3) sc_l_form.nd rfl (Or.inl rfl) (pe_op op_add pe_int (pe_op op_mod (pv 2) pe_int))) h2) (fun u1 h1 e1 => ?_)
  refine hideI ((defBody s_l_form).drop 0) (pss_cons (ps_set (i := 2) sc_l_form.nd rfl (Or.inl rfl) (pe_has g_l_cell_at hr rfl (pa_cons (pv 0) (pa_cons pe_int pa_nil)))) h1) (fun u0 h0 e0 => ?_)
  refine ⟨u0, h0, ?_⟩
  refine by_eq e0 ?_
  refine ⟨_, rfl, a, ns, 0, rfl, hS, h63, by decide, fun v => ?_⟩
  refine by_eq e1 ?_
  refine ⟨_, rfl, _, _, rfl, rfl, (by show (0 : Int) < 5; decide), _, _, rfl, rfl, ?_⟩
  have a1 := Int.emod_nonneg v (by decide : (5 : Int) ≠ 0)
  have a2 := Int.emod_lt_of_pos v (by decide : (0 : Int) < 5)
  have a3 := Int.emod_nonneg (v / 35) (by decide : (19 : Int) ≠ 0)
  have a4 := Int.emod_lt_of_pos (v / 35) (by decide : (0 : Int) < 19)
  show u2 _ _ _
  refine via (t := u3) (R := fun σ H1 => ∃ n : Nat, 1 ≤ n ∧ n ≤ 24 ∧ H1 = H ∧ σ = [some (.ref a), some (.ref tg), some (.int v), some (.int (n : Int)), none, none, none, none, none]) ?_ fun fin => ?_
  rotate_left
  · refine by_eq e2 ?_
    refine ⟨_, rfl, _, _, rfl, rfl, ⟨by decide, by decide⟩, _, _, rfl, rfl, (by show (0 : Int) < 7; decide), rfl, _, rfl, ite2 (fun c => ?_) (fun c => ?_)⟩
    · refine ⟨_, rfl, _, _, rfl, rfl, ⟨by decide, by decide⟩, _, _, rfl, rfl, (by show (0 : Int) < 19; decide), _, _, rfl, rfl, ?_⟩
      obtain ⟨n, hn⟩ := Int.eq_ofNat_of_zero_le (show 0 ≤ 6 + v / 35 % 19 by (first | lia | omega))
      refine fin _ _ ⟨n, by (first | lia | omega), by (first | lia | omega), rfl, ?_⟩
      rw [← show 6 + v / 35 % 19 = (n : Int) from hn]
      rfl
    · obtain ⟨n, hn⟩ := Int.eq_ofNat_of_zero_le (show 0 ≤ 1 + v % 5 by (first | lia | omega))
      refine fin _ _ ⟨n, by (first | lia | omega), by (first | lia | omega), rfl, ?_⟩
      rw [← show 1 + v % 5 = (n : Int) from hn]
      rfl
  rintro σ H0 ⟨n, n1, n24, rfl, rfl⟩
  refine by_eq e3 ?_
  intro d hd
  have k0 : Same H0 (upd H0 d (.dT [])) := Same.new hd
  have hd0 : (upd H0 d (.dT [])) d = some (.dT []) := upd_same
  show u4 _ _ _
  generalize upd H0 d (.dT []) = H1 at k0 hd0 ⊢
  refine by_eq e4 ?_
  have b1 := Int.emod_nonneg (v / 700) (by decide : (10 : Int) ≠ 0)
  have b2 := Int.emod_lt_of_pos (v / 700) (by decide : (0 : Int) < 10)
  have np : (0 : Int) < (n : Int) := by (first | lia | omega)
  refine ⟨_, rfl, _, _, rfl, rfl, ⟨by decide, by decide⟩, _, _, rfl, rfl, (by show (0 : Int) < 10; decide), _, _, rfl, rfl, _, rfl, by (first | lia | omega), by (first | lia | omega), for_range (lo := 0) (n := (1 + v / 700 % 10).toNat) (fun i σ H2 => ∃ (v5 v6 : Option V) (kvs : List (List Key × V)), σ = [some (.ref a), some (.ref tg), some (.int v), some (.int (n : Int)), some (.ref d), v5, v6, none, none] ∧ Same H0 H2 ∧ H2 d = some (.dT kvs) ∧ FDR n i kvs)
    ⟨none, none, [], rfl, k0, hd0, [], rfl, fun q hq => (nomatch hq), Nat.le_refl _⟩ ?_ ?_⟩
  · rintro i σ H2 hi ⟨v5, v6, kvs, rfl, s2, hd2, fd2⟩
    have fl := fd2.len
    refine by_eq e4_0 ?_
    refine ⟨_, rfl, _, rfl, _, _, rfl, rfl, a, ns, 3 + (0 + (i : Int)), rfl, s2.seq hS, h63, by (first | lia | omega), fun c => ?_⟩
    refine ⟨_, _, rfl, rfl, .inr ⟨by decide, by decide⟩, _, _, rfl, rfl, (by show (0 : Int) < 1000003; decide), ?_⟩
    show u4_1 _ _ _
    refine by_eq e4_1 ?_
    obtain ⟨j1, hj1, hj1l⟩ := modN (c * 48271 % 1000003) (n := n) (by (first | lia | omega))
    obtain ⟨j2, hj2, hj2l⟩ := modN (c * 48271 % 1000003 / 24) (n := 3) (by decide)
    obtain ⟨j3, hj3, hj3l⟩ := modN (c * 48271 % 1000003 / 72) (n := n) (by (first | lia | omega))
    obtain ⟨j4, hj4, hj4l⟩ := modN (c * 48271 % 1000003 / 1728) (n := n) (by (first | lia | omega))
    have htag := strs_at (ws := ts) (n := j2) (by (first | lia | omega))
    generalize ts[j2] = tt at htag
    refine ⟨_, rfl, _, rfl, _, rfl, _, _, rfl, rfl, np, _, rfl, _, rfl, _, _, rfl, rfl, ⟨by decide, by decide⟩, _, _, rfl, rfl, (by show (0 : Int) < 3; decide), tg, _, _, _, rfl, rfl, SqL.of (s2 _ _ htg), (show atI (ts.map V.str) (c * 48271 % 1000003 / 24 % 3) = some (.str tt) from hj2.symm ▸ htag), _, rfl, _, _, rfl, rfl, ⟨by decide, by decide⟩, _, rfl, _, _, rfl, rfl, np, _, rfl, _, _, rfl, rfl, ⟨by decide, by decide⟩, _, rfl, _, _, rfl, rfl, np, (by show 4 ≤ sizeLine; decide), fun pk hpk => ?_⟩
    have kk : Same H2 (upd H2 pk (.tup [.int (j1 : Int), .str tt, .int (j3 : Int), .int (j4 : Int)])) := Same.new hpk
    have ek : (upd H2 pk (.tup [.int (j1 : Int), .str tt, .int (j3 : Int), .int (j4 : Int)])) pk = some (.tup ((kOf (qOf ⟨j1, tt, j3, j4⟩)).map kV)) := upd_same
    have eq4 : ([.int (c * 48271 % 1000003 % (n : Int)), .str tt, .int (c * 48271 % 1000003 / 72 % (n : Int)), .int (c * 48271 % 1000003 / 1728 % (n : Int))] : List V) = [.int (j1 : Int), .str tt, .int (j3 : Int), .int (j4 : Int)] := by rw [hj1, hj3, hj4]
    refine put4 (d := d) eq4 (fun H3 H4 e3 h4 => ?_) hpk (kvs := kvs) (k := kOf (qOf ⟨j1, tt, j3, j4⟩)) (v := .bl true) hd2 rfl (len1000' (by (first | lia | omega)))
    subst e3 h4
    have nd : pk ≠ d := (ne_of_none hd2 hpk).symm
    exact ⟨_, _, _, rfl, (s2.trans kk).upd_new hd, upd_same, fd2.put ⟨hj1l, hj3l, hj4l⟩⟩
  rintro σ H2 ⟨v5, v6, kvs, rfl, s2, hd2, fd2⟩
  have fd2 : FDR n 10 kvs := by
    obtain ⟨rs, h1, h2, h3⟩ := fd2
    exact ⟨rs, h1, h2, by (first | lia | omega)⟩
  show u5 _ _ _
  refine via (t := u6) (R := fun σ H3 => ∃ (v7 : Option V) (kvs : List (List Key × V)), σ = [some (.ref a), some (.ref tg), some (.int v), some (.int (n : Int)), some (.ref d), v5, v6, v7, none] ∧ Same H0 H3 ∧ H3 d = some (.dT kvs) ∧ FDR n 40 kvs) ?_ fun fin => ?_
  rotate_left
  · have fl40 : FDR n 40 kvs := by
      obtain ⟨rs, h1, h2, h3⟩ := fd2
      exact ⟨rs, h1, h2, by (first | lia | omega)⟩
    refine by_eq e5 ?_
    refine ⟨_, rfl, _, _, rfl, rfl, _, rfl, ite2 (fun c => ?_) (fun c => ?_)⟩
    rotate_left
    · exact fin _ _ ⟨none, kvs, rfl, s2, hd2, fl40⟩
    have n5 : 5 < n := by
      have := of_decide_eq_true c
      (first | lia | omega)
    refine by_eq e5t0 ?_
    refine ⟨_, rfl, _, _, rfl, rfl, _, rfl, by (first | lia | omega), by (first | lia | omega), for_range (lo := 0) (n := ((n : Int) - 1).toNat) (fun i σ H3 => ∃ (v7 : Option V) (kvs : List (List Key × V)), σ = [some (.ref a), some (.ref tg), some (.int v), some (.int (n : Int)), some (.ref d), v5, v6, v7, none] ∧ Same H0 H3 ∧ H3 d = some (.dT kvs) ∧ FDR n (10 + i) kvs)
      ⟨none, kvs, rfl, s2, hd2, fd2⟩ ?_ ?_⟩
    · rintro i σ H3 hi ⟨v7, kvs, rfl, s3, hd3, fd3⟩
      have fl := fd3.len
      obtain ⟨j2, hj2, hj2l⟩ := modN (v + (0 + (i : Int))) (n := 3) (by decide)
      have htag := strs_at (ws := ts) (n := j2) (by (first | lia | omega))
      generalize ts[j2] = tt at htag
      refine by_eq e5t0_0 ?_
      refine ⟨_, rfl, _, rfl, _, rfl, _, rfl, _, rfl, _, _, rfl, rfl, _, _, rfl, rfl, (by show (0 : Int) < 3; decide), tg, _, _, _, rfl, rfl, SqL.of (s3 _ _ htg), (show atI (ts.map V.str) ((v + (0 + (i : Int))) % 3) = some (.str tt) from hj2.symm ▸ htag), _, rfl, _, _, rfl, rfl, _, rfl, _, _, rfl, rfl, (by show 4 ≤ sizeLine; decide), fun pk hpk => ?_⟩
      have eq4 : ([.int (0 + (i : Int)), .str tt, .int ((n : Int) - 1), .int (0 + (i : Int) + 1)] : List V) = [.int (i : Int), .str tt, .int ((n - 1 : Nat) : Int), .int ((i + 1 : Nat) : Int)] := by
        rw [Int.zero_add, show ((n - 1 : Nat) : Int) = (n : Int) - 1 by (first | lia | omega), Int.natCast_add]
        rfl
      refine put4 (d := d) eq4 (fun H4 H5 e4 h5 => ?_) hpk (kvs := kvs) (k := kOf (qOf ⟨i, tt, n - 1, i + 1⟩)) (v := .bl true) hd3 rfl (len1000' (by (first | lia | omega)))
      subst e4 h5
      have kk : Same H3 (upd H3 pk (.tup [.int (i : Int), .str tt, .int ((n - 1 : Nat) : Int), .int ((i + 1 : Nat) : Int)])) := Same.new hpk
      exact ⟨_, _, rfl, (s3.trans kk).upd_new hd, upd_same, fd3.put (q := ⟨i, tt, n - 1, i + 1⟩) ⟨by show i < n; (first | lia | omega), by show n - 1 < n; (first | lia | omega), by show i + 1 < n; (first | lia | omega)⟩⟩
    · rintro σ H3 ⟨v7, kvs, rfl, s3, hd3, rs, h1, h2, h3⟩
      exact fin _ _ ⟨v7, kvs, rfl, s3, hd3, rs, h1, h2, by (first | lia | omega)⟩
  rintro σ H3 ⟨v7, kvs3, rfl, s3, hd3, fd3⟩
  refine by_eq e6 ?_
  refine ⟨_, rfl, _, rfl, by (first | lia | omega), by (first | lia | omega), fun pc hpc => comp_rangeT (lo := 0) (n := (n : Int).toNat) (p := pc) (fun i ys σ H4 => ∃ (v0 : Option V) (es : List Nat), σ = [v0, some (.ref a)] ∧ Same H3 H4 ∧ H4 pc = some (.lst ys) ∧ ys = es.map (fun e : Nat => V.int (e : Int)) ∧ (∀ e ∈ es, e < i) ∧ es.length ≤ i)
    ⟨none, [], rfl, Same.new hpc, upd_same, rfl, fun e he => (nomatch he), Nat.le_refl _⟩ ?_ ?_ ?_⟩
  · rintro i ys σ H4 _ ⟨v0, es, _, _, h, _⟩
    exact h
  · rintro i ys σ H4 hi ⟨v0, es, rfl, sm, hp, rfl, hes, hel⟩
    refine ⟨_, rfl, a, ns, 2, rfl, (s3.trans sm).seq hS, h63, by decide, fun c => ⟨_, rfl, _, _, rfl, rfl, .inl ⟨by decide, by decide⟩, _, _, rfl, rfl, _, _, rfl, rfl, ⟨by (first | lia | omega), by (first | lia | omega)⟩, _, _, rfl, rfl, (by show (0 : Int) < 3; decide), rfl, _, rfl, ite2 (fun cc => ?_) (fun cc => ?_)⟩⟩
    · refine ⟨_, rfl, hp, len1000' (by rw [List.length_map]; (first | lia | omega)), CW.next hi ⟨_, es ++ [i], rfl, sm.upd_new hpc, upd_same, ?_, fun e he => ?_, by rw [List.length_append, List.length_singleton]; (first | lia | omega)⟩⟩
      · rw [List.map_append, Int.zero_add]
        rfl
      · rcases List.mem_append.mp he with he | he
        · have := hes e he
          (first | lia | omega)
        · rw [List.mem_singleton.mp he]
          (first | lia | omega)
    · exact CW.next hi ⟨_, es, rfl, sm, hp, rfl, fun e he => by have := hes e he; (first | lia | omega), by (first | lia | omega)⟩
  rintro ys σ H4 ⟨v0, es, rfl, sm4, hp4, rfl, hes, hel⟩
  rw [Int.toNat_natCast] at hes hel
  have s4 := s3.trans sm4
  have hd4 := sm4 _ _ hd3
  show u7 _ _ _
  refine via (t := u8) (R := fun σ H5 => ∃ (st : Addr) (es : List Nat), σ = [some (.ref a), some (.ref tg), some (.int v), some (.int (n : Int)), some (.ref d), v5, v6, v7, some (.ref st)] ∧ Same H4 H5 ∧ H5 st = some (.lst (es.map (fun e : Nat => V.int (e : Int)))) ∧ (∀ e ∈ es, e < n) ∧ es.length ≤ 24) ?_ fun fin => ?_
  rotate_left
  · have put : ∀ {H5 : Hp} (sl : Addr), Same H4 H5 → H5 sl = none → u8 { nx := fun x H' => Q V.non H', rt := Q } [some (.ref a), some (.ref tg), some (.int v), some (.int (n : Int)), some (.ref d), v5, v6, v7, some (.ref sl)] (upd H5 sl (.lst [.int ((n : Int) - 1)])) := fun {H5} sl k h => by
      refine fin _ _ ⟨sl, [n - 1], rfl, k.trans (Same.new h), ?_, fun e he => by rw [List.mem_singleton.mp he]; (first | lia | omega), by show 1 ≤ 24; decide⟩
      rw [upd_same]
      show some (HO.lst [V.int ((n : Int) - 1)]) = some (HO.lst [V.int ((n - 1 : Nat) : Int)])
      rw [show ((n - 1 : Nat) : Int) = (n : Int) - 1 by (first | lia | omega)]
    refine by_eq e7 ?_
    refine ⟨_, rfl, _, _, rfl, rfl, _, rfl, ite2 (fun c => ?_) (fun c => ?_)⟩
    · refine iteT ⟨_, rfl, _, _, rfl, rfl, (by show 1 ≤ sizeLine; decide), fun sl hsl => ?_⟩
      exact put sl (fun _ _ e => e) hsl
    · refine ⟨_, rfl, by decide, fun pe hpe => ?_⟩
      have ke : Same H4 (upd H4 pe (.lst [])) := Same.new hpe
      refine ⟨pc, pe, _, rfl, rfl, SqL.of (ke _ _ hp4), SqL.of upd_same, _, rfl, ite2 (fun c2 => ?_) (fun c2 => ?_)⟩
      · refine ⟨_, rfl, _, _, rfl, rfl, (by show 1 ≤ sizeLine; decide), fun sl hsl => ?_⟩
        exact put sl ke hsl
      · exact fin _ _ ⟨pc, es, rfl, ke, ke _ _ hp4, hes, by (first | lia | omega)⟩
  rintro σ H5 ⟨st, es5, rfl, k5, hst, hes5, hel5⟩
  refine by_eq e8 ?_
  have hd5 := k5 _ _ hd4
  have s5 := s4.trans k5
  obtain ⟨rs, hk1, hk2, hk3⟩ := fd3
  refine ⟨_, rfl, _, rfl, _, rfl, _, _, rfl, rfl, np, (by show 1 ≤ sizeLine; decide), fun ph hph => ?_⟩
  have kh := Same.new (o := .tup [.int (v % (n : Int))]) hph
  refine ⟨_, rfl, st, _, rfl, .inl ⟨SqL.of (kh _ _ hst), fun pe hpe => ?_⟩⟩
  have ke := kh.trans (Same.new (o := .tup (es5.map (fun e : Nat => V.int (e : Int)))) hpe)
  refine ⟨_, rfl, d, kvs3, rs.map qOf, rfl, ke _ _ hd5, ?_, hk1, fun ps zs ms hps hpw hperm hql => ?_⟩
  · have := congrArg List.length hk1
    rw [List.length_map, List.length_map, List.length_map] at this
    (first | lia | omega)
  have kp := ke.trans (Same.new (o := .lst zs) hps)
  refine ⟨ps, zs, rfl, .inl ⟨SqL.of upd_same, fun pt hpt => ?_⟩⟩
  have kt := kp.trans (Same.new (o := .tup zs) hpt)
  refine ⟨(by show 4 ≤ sizeLine; decide), fun r hr => ?_⟩
  have kr := Same.new (o := .tup [.int (n : Int), .ref ph, .ref pe, .ref pt]) hr
  have back : ∀ q ∈ ms, qOf (rOf q) = q ∧ rOf q ∈ rs := fun q hq => by
    obtain ⟨q0, h1, rfl⟩ := List.mem_map.mp (hperm.mem_iff.mp hq)
    rw [rOf_qOf]
    exact ⟨rfl, h1⟩
  have kq2 : TK _ _ := ((Same.new (o := .lst zs) hps).trans (Same.new (o := .tup zs) hpt) |>.trans kr).tk
  obtain ⟨as, z1, z2, z3⟩ := ql_rls (hql.keep kq2) fun q hq => (back q hq).1
  have kall := s5.trans (kt.trans kr)
  refine q r ⟨n, es5, ms.map rOf⟩ _ kall ⟨⟨hes5, fun q hq => ?_⟩, ph, pe, pt, as, upd_same, ?_, ?_, z2, z3⟩ n24 ?_
  · obtain ⟨q0, h1, rfl⟩ := List.mem_map.mp hq
    exact hk2 _ (back q0 h1).2
  · exact (((Same.new hps).trans (Same.new hpt)).trans kr) _ _ upd_same
  · rw [← z1]
    exact kr _ _ upd_same
  · show (ms.map rOf).length ≤ 40
    rw [List.length_map, hperm.length_eq, List.length_map]
    exact hk3
theorem keys_putN {κ : Type} [DecidableEq κ] (kvs : List (κ × V)) (k : κ) (v : V) : (putK kvs k v).map (·.1) = kvs.map (·.1) ∨ (k ∉ kvs.map (·.1) ∧ (putK kvs k v).map (·.1) = kvs.map (·.1) ++ [k]) := by
  unfold putK
  split
  · left
    rw [List.map_map]
    refine List.map_congr_left fun kv _ => ?_
    show (if kv.1 = k then (kv.1, v) else kv).1 = kv.1
    split <;> rfl
  · rename_i c
    right
    refine ⟨fun z => c ?_, ?_⟩
    · obtain ⟨kv, h1, h2⟩ := List.mem_map.mp z
      exact List.any_eq_true.mpr ⟨kv, h1, decide_eq_true h2⟩
    · rw [List.map_append]
      rfl
/-- the law's numbers, as they lie in a dict -/
def FdC (n : Nat) (kvs : List (Key × V)) (cs : Cs) : Prop := (∃ ns : List Nat, kvs.map (·.1) = ns.map (fun k : Nat => Sum.inl (k : Int)) ∧ (∀ k ∈ ns, k < n) ∧ ns.Nodup) ∧ (∀ k : Nat, k < n → valV kvs (Sum.inl (k : Int)) = (at_ cs k).map fun v : Nat => V.int (v : Int))
theorem FdC.len {n : Nat} {kvs : List (Key × V)} {cs : Cs} (h : FdC n kvs cs) : kvs.length ≤ n := by
  obtain ⟨⟨ns, h1, h2, h3⟩, _⟩ := h
  have := congrArg List.length h1
  rw [List.length_map, List.length_map] at this
  rw [this]
  have := nodup_le (m := List.range n) h3 fun k hk => List.mem_range.mpr (h2 k hk)
  rwa [List.length_range] at this
theorem FdC.put {n k : Nat} {kvs : List (Key × V)} {cs : Cs} {v : Nat} (h : FdC n kvs cs) (hk : k < n) (hl : k < cs.length) : FdC n (putK kvs (Sum.inl (k : Int)) (.int (v : Int))) (cs.set k (some v)) := by
  obtain ⟨⟨ns, h1, h2, h3⟩, h4⟩ := h
  refine ⟨?_, fun j hj => ?_⟩
  · rcases keys_putN kvs (Sum.inl (k : Int)) (.int (v : Int)) with e | ⟨e0, e⟩
    · exact ⟨ns, e.trans h1, h2, h3⟩
    · refine ⟨ns ++ [k], by rw [e, h1, List.map_append]; rfl, fun j hj => ?_, List.nodup_append.mpr ⟨h3, by simp, fun x hx y hy z => ?_⟩⟩
      · rcases List.mem_append.mp hj with hj | hj
        · exact h2 j hj
        · rw [List.mem_singleton.mp hj]
          exact hk
      · rw [List.mem_singleton.mp hy] at z
        refine e0 ?_
        rw [h1, ← z]
        exact List.mem_map.mpr ⟨x, hx, rfl⟩
  · rw [valV_put, at_set hl]
    by_cases e : k = j
    · subst e
      rw [if_pos rfl, if_pos rfl]
      rfl
    · rw [if_neg (fun z => e (by injection z with z; (first | lia | omega))), if_neg e]
      exact h4 j hj
theorem FdC.get {n k : Nat} {kvs : List (Key × V)} {cs : Cs} (h : FdC n kvs cs) (hk : k < n) {H : Hp} {d : Addr} (hd : H d = some (.dK kvs)) : DGet H d (.int (k : Int)) ((at_ cs k).map fun v : Nat => V.int (v : Int)) := by
  have := DGet.k (k := Sum.inl (k : Int)) hd
  rw [h.2 k hk] at this
  exact this
/-- how many keys there are at most -/
def spLFew (K : PySem.W.Frag) : Sp := fun vs H Q _ => ∃ (a : Addr) (fm : Fm), vs = [.ref a] ∧ Form H a fm ∧ fm.n ≤ 24 ∧ fm.rules.length ≤ 40 ∧ ∀ (d : Addr) (kvs : List (Key × V)) (c : Cs) (H' : Hp), Same H H' → H d = none → H' d = some (.dK kvs) → fm.Res c → FdC fm.n kvs c → Q (.ref d) H'
theorem set_same {cs : Cs} {k v : Nat} (hl : k < cs.length) (h : at_ cs k = some v) : cs.set k (some v) = cs := by
  refine cs_ext (by rw [List.length_set]) fun j => ?_
  rw [at_set hl]
  by_cases e : k = j
  · rw [if_pos e, ← e, h]
  · rw [if_neg e]
/-- the law's step is the program's -/
theorem law_step {cs : Cs} {q : Rl} {x y B : Nat} (hk : q.k < cs.length) (hx : at_ cs q.i = some x) (hy : at_ cs q.r = some y) (hb : 1 + x + y ≤ B) : step1 iD cs q = cs.set q.k (some (if (1 + (x : Int) + (y : Int)) < (((at_ cs q.k).getD B : Nat) : Int) then 1 + x + y else (at_ cs q.k).getD B)) := by
  have hl : low iD cs q = some (1 + x + y) := by
    unfold low above
    rw [show at_ (iD cs) q.i = some x from hx, hy]
  unfold step1
  rw [hl]
  cases ho : at_ cs q.k with
  | none =>
    rw [if_pos (show better (some (1 + x + y)) none = true from rfl)]
    congr 2
    show 1 + x + y = if (1 + (x : Int) + (y : Int)) < (B : Int) then 1 + x + y else B
    split <;> (first | lia | omega)
  | some d =>
    show (if decide (1 + x + y < d) = true then _ else _) = _
    by_cases c : 1 + x + y < d
    · rw [if_pos (decide_eq_true c)]
      congr 2
      show 1 + x + y = if (1 + (x : Int) + (y : Int)) < ((d : Nat) : Int) then 1 + x + y else d
      rw [if_pos (by (first | lia | omega))]
    · rw [if_neg (by rw [decide_eq_false c]; decide)]
      have e : (if (1 + (x : Int) + (y : Int)) < ((d : Nat) : Int) then 1 + x + y else d) = d := if_neg (by (first | lia | omega))
      show cs = cs.set q.k (some (if (1 + (x : Int) + (y : Int)) < ((d : Nat) : Int) then 1 + x + y else d))
      rw [e, set_same hk ho]
set_option maxHeartbeats 4000000 in
theorem ok_l_fewest (B : ∀ x ∈ blts, mg x = none) (F : Fun K "_law_fewest" "_law_fewest" s_l_fewest f fd) : FnOk P w K mg base CX0 1 f fd ["_law_form_told"] (spLFew K) := by
  refine F.ok sc_l_fewest (fun vs H Q E h => ?_) (fun cdv A outer s H vs Q E hr h => ?_)
  · obtain ⟨a, fm, rfl, _⟩ := h
    rfl
  obtain ⟨a, fm, rfl, hF, n24, r40, q⟩ := h
  have hu := hu_room hr
  have hu1 : (A.deeper (PyProof.Rows.envOfC (Str.ofString "_law_fewest") (defScope s_l_fewest) s.heap.objs.size f cdv)).units + 1 < cLine := by have := hr.un; (first | lia | omega)
  have ok := hF.ok
  obtain ⟨f1, f2, f3, qs, ea, ee, hRq, hRl, hRt⟩ := hF.ex
  refine hideI ((defBody s_l_fewest).drop 3) (pss_one (ps_ret (pv 1))) (fun u3 h3 e3 => ?_)
  refine hideI ((sBody ((sBody ((defBody s_l_fewest).getD 2 (.Pass ⟨0, 0, 0, 0⟩))).getD 0 (.Pass ⟨0, 0, 0, 0⟩))).drop 0) (pss_one (ps_if (PW.pt (pw_and (pt_cmp (pc_din hu1 (pv 5) (pv 1))) (pw_and1 (pt_cmp (pc_din hu1 (pv 6) (pv 1))))))
      (pss_one (ps_dput hu1 (pv 1) (pv 2) (pe_callB (call_min2 rfl) rfl (B "min" (by decide)) bt_min (pa_cons (pe_dget2 hu1 (pv 1) (pv 2) (pe_op op_pow pe_int pe_int) ⟨rfl, rfl, rfl, rfl⟩) (pa_cons (pe_op op_add (pe_op op_add pe_int (pe_dget hu1 (pv 1) (pv 5) (fun _ _ => rfl))) (pe_dget hu1 (pv 1) (pv 6) (fun _ _ => rfl))) pa_nil))) rfl))
      pss_nil)) (fun u2_0_0 h2_0_0 e2_0_0 => ?_)
  refine hideI ((sBody ((defBody s_l_fewest).getD 2 (.Pass ⟨0, 0, 0, 0⟩))).drop 0) (pss_one (ps_for PassesOwn.never rfl (pi_tup (pe_ix ix_tup (pv 0) pe_int (fun _ _ => rfl))) (pg_tup rfl (pgs_cons (pg_name (i := 2) sc_l_fewest.nd rfl (Or.inl rfl)) (pgs_cons (pg_name (i := 4) sc_l_fewest.nd rfl (Or.inl rfl)) (pgs_cons (pg_name (i := 5) sc_l_fewest.nd rfl (Or.inl rfl)) (pgs_cons (pg_name (i := 6) sc_l_fewest.nd rfl (Or.inl rfl)) pgs_nil)))))
      h2_0_0)) (fun u2_0 h2_0 e2_0 => ?_)
  refine hideI ((defBody s_l_fewest).drop 2) (pss_cons (ps_for PassesOwn.never rfl (pi_range1 rfl (B "range" (by decide)) (pa_cons (pe_ix ix_tup (pv 0) pe_int (fun _ _ => rfl)) pa_nil)) (pg_name (i := 3) sc_l_fewest.nd rfl (Or.inl rfl))
      h2_0) h3) (fun u2 h2 e2 => ?_)
  refine hideI ((sBody ((defBody s_l_fewest).getD 1 (.Pass ⟨0, 0, 0, 0⟩))).drop 0) (pss_one (ps_dput hu1 (pv 1) (pv 2) pe_int rfl)) (fun u1_0 h1_0 e1_0 => ?_)
  refine hideI ((defBody s_l_fewest).drop 1) (pss_cons (ps_for PassesOwn.never rfl (pi_tup (pe_ix ix_tup (pv 0) pe_int (fun _ _ => rfl))) (pg_name (i := 2) sc_l_fewest.nd rfl (Or.inl rfl))
      h1_0) h2) (fun u1 h1 e1 => ?_)
  refine hideI ((defBody s_l_fewest).drop 0) (pss_cons (ps_set (i := 1) sc_l_fewest.nd rfl (Or.inl rfl) pe_dnewK) h1) (fun u0 h0 e0 => ?_)
  refine ⟨u0, h0, ?_⟩
  refine by_eq e0 ?_
  intro d hd
  have k0 : Same H (upd H d (.dK [])) := Same.new hd
  have hd0 : (upd H d (.dK [])) d = some (.dK []) := upd_same
  show u1 _ _ _
  generalize upd H d (.dK []) = H1 at k0 hd0 ⊢
  refine by_eq e1 ?_
  refine ⟨_, rfl, a, _, 2, _, rfl, rfl, SqT.of (k0 _ _ ea), rfl, f2, rfl, ⟨_, SqT.of (k0 _ _ ee)⟩, for_tup (K := K) (a := f2) (xs := fm.ends.map fun (e : Nat) => V.int (e : Int)) (fun i σ H2 => ∃ (v2 : Option V) (kvs : List (Key × V)), σ = [some (.ref a), some (.ref d), v2, none, none, none, none] ∧ Same H H2 ∧ H2 d = some (.dK kvs) ∧ FdC fm.n kvs (setEnds (List.replicate fm.n none) (fm.ends.take i)))
    ⟨none, [], rfl, k0, hd0, ⟨[], rfl, fun k hk => (nomatch hk), List.nodup_nil⟩, fun k hk => ?_⟩ ?_ ?_ ?_⟩
  · show none = (at_ (List.replicate fm.n none) k).map _
    rw [at_rep]
    rfl
  · rintro i σ H2 _ ⟨_, _, _, sm, _⟩
    exact SqT.of (sm _ _ ee)
  · rintro i x σ H2 hx ⟨v2, kvs, rfl, sm, hd2, fc⟩
    have fl := fc.len
    rw [List.getElem?_map] at hx
    obtain ⟨e, he, rfl⟩ := Option.map_eq_some_iff.mp hx
    have hi := (List.getElem?_eq_some_iff.mp he).1
    have hen := ok.e e (List.mem_of_getElem? he)
    refine by_eq e1_0 ?_
    refine ⟨_, rfl, _, rfl, d, _, rfl, DPut.k (k := Sum.inl (e : Int)) hd2 (len1000' (by (first | lia | omega))), ?_⟩
    refine ⟨_, _, rfl, sm.upd_new hd, upd_same, ?_⟩
    rw [take_succ' he, setEnds_snoc]
    exact fc.put (v := 0) hen (by rw [setEnds_len, List.length_replicate]; exact hen)
  rintro σ H2 ⟨v2, kvs, rfl, s2, hd2, fc⟩
  rw [List.length_map, List.take_length] at fc
  have fc : FdC fm.n kvs fm.init := fc
  show u2 _ _ _
  refine by_eq e2 ?_
  have lk : ∀ q ∈ fm.rules, q.k < fm.init.length := fun q hq => by rw [fm.init_len]; exact (ok.q q hq).1
  refine ⟨_, rfl, a, _, 0, _, rfl, rfl, SqT.of (s2 _ _ ea), rfl, _, rfl, by (first | lia | omega), by (first | lia | omega), for_range (lo := 0) (n := (fm.n : Int).toNat) (fun i σ H3 => ∃ (v2 v3 v4 v5 v6 : Option V) (kvs : List (Key × V)), σ = [some (.ref a), some (.ref d), v2, v3, v4, v5, v6] ∧ Same H H3 ∧ H3 d = some (.dK kvs) ∧ FdC fm.n kvs (iter iD fm.rules i fm.init))
    ⟨_, _, _, _, _, kvs, rfl, s2, hd2, fc⟩ ?_ ?_⟩
  · rintro i σ H3 hi ⟨v2, v3, v4, v5, v6, kvs, rfl, s3, hd3, fc3⟩
    refine by_eq e2_0 ?_
    have lki : ∀ q ∈ fm.rules, q.k < (iter iD fm.rules i fm.init).length := fun q hq => by rw [iter_len]; exact lk q hq
    have bdi := bd_iter fm.rules i lk (bd_init ok)
    have ili : (iter iD fm.rules i fm.init).length = fm.n := by rw [iter_len, fm.init_len]
    rw [iter_succ]
    generalize iter iD fm.rules i fm.init = ci at lki bdi ili fc3
    refine ⟨_, rfl, a, _, 3, _, rfl, rfl, SqT.of (s3 _ _ ea), rfl, f3, rfl, ⟨_, SqT.of (s3 _ _ hRq)⟩, for_tup (K := K) (a := f3) (xs := qs.map V.ref) (fun j σ H4 => ∃ (v2 v4 v5 v6 : Option V) (kvs : List (Key × V)), σ = [some (.ref a), some (.ref d), v2, some (.int (0 + (i : Int))), v4, v5, v6] ∧ Same H H4 ∧ H4 d = some (.dK kvs) ∧ FdC fm.n kvs (pass iD (fm.rules.take j) ci))
      ⟨_, _, _, _, kvs, rfl, s3, hd3, fc3⟩ ?_ ?_ ?_⟩
    · rintro j σ H4 _ ⟨_, _, _, _, _, _, sm, _⟩
      exact SqT.of (sm _ _ hRq)
    · rintro j x σ H4 hx ⟨v2, v4, v5, v6, kvs, rfl, s4, hd4, fc4⟩
      rw [List.getElem?_map] at hx
      obtain ⟨pq, hpq, rfl⟩ := Option.map_eq_some_iff.mp hx
      obtain ⟨q1, hq1⟩ : ∃ q1, fm.rules[j]? = some q1 := ⟨_, List.getElem?_eq_getElem (by have := (List.getElem?_eq_some_iff.mp hpq).1; (first | lia | omega))⟩
      have hqm := List.mem_of_getElem? hq1
      obtain ⟨b1, b2, b3⟩ := ok.q q1 hqm
      have e2' := s4 _ _ (hRt j pq q1 hpq hq1)
      have lkj : ∀ q ∈ fm.rules.take j, q.k < ci.length := fun q hq => lki q (List.mem_of_mem_take hq)
      have bdj := bd_pass (fm.rules.take j) lkj bdi
      have ilj : (pass iD (fm.rules.take j) ci).length = fm.n := by rw [pass_len, ili]
      rw [take_succ' hq1, pass_snoc]
      generalize pass iD (fm.rules.take j) ci = cj at bdj ilj fc4
      have fl := fc4.len
      refine ⟨pq, _, rfl, SqT.of e2', rfl, _, _, rfl, _, _, rfl, _, _, rfl, _, _, rfl, rfl, ?_⟩
      refine by_eq e2_0_0 ?_
      have none1 : at_ cj q1.i = none ∨ at_ cj q1.r = none → step1 iD cj q1 = cj := fun z => by
        have hl : low iD cj q1 = none := by
          unfold low above
          rcases z with z | z
          · rw [show at_ (iD cj) q1.i = none from z]
          · rw [z]
            cases at_ (iD cj) q1.i <;> rfl
        unfold step1
        rw [hl]
        exact if_neg (by show ¬ (false = true); decide)
      refine ⟨_, rfl, _, rfl, d, _, rfl, fc4.get b2 hd4, _, rfl, ?_⟩
      cases hx : at_ cj q1.i with
      | none =>
        refine iteF (iteF ⟨_, _, _, _, kvs, rfl, s4, hd4, ?_⟩)
        rw [none1 (.inl hx)]
        exact fc4
      | some x =>
        refine iteT ⟨_, rfl, _, rfl, d, _, rfl, fc4.get b3 hd4, _, rfl, ?_⟩
        cases hy : at_ cj q1.r with
        | none =>
          refine iteF ⟨_, _, _, _, kvs, rfl, s4, hd4, ?_⟩
          rw [none1 (.inr hy)]
          exact fc4
        | some y =>
          refine iteT ?_
          have gx := fc4.get b2 hd4
          have gy := fc4.get b3 hd4
          rw [hx] at gx
          rw [hy] at gy
          have bx := bdj q1.i x hx
          have by_ := bdj q1.r y hy
          have p24 : 2 ^ (cj.length - nones cj) ≤ 2 ^ 24 := Nat.pow_le_pow_right (by decide) (by (first | lia | omega))
          have p25 : (2 : Nat) ^ 24 < 500000000 := by decide
          have st := law_step (q := q1) (B := 1000000000) (by rw [ilj]; exact b1) hx hy (by (first | lia | omega))
          rw [st]
          refine ⟨_, rfl, d, rfl, .inl ⟨_, .inl hd4⟩, _, rfl, _, _, rfl, rfl, ⟨by decide, by decide, by decide⟩, _, fc4.get b1 hd4, ?_⟩
          refine ⟨_, rfl, _, rfl, d, _, rfl, gx, _, _, rfl, rfl, _, rfl, _, rfl, d, _, rfl, gy, _, _, rfl, rfl, ?_⟩
          have gv : ((at_ cj q1.k).map fun v : Nat => V.int (v : Int)).getD (V.int (10 ^ (9 : Int).toNat)) = V.int (((at_ cj q1.k).getD 1000000000 : Nat) : Int) := by
            cases at_ cj q1.k <;> rfl
          refine ⟨_, _, congrArg (fun z => [z, V.int (1 + (x : Int) + (y : Int))]) gv, ?_⟩
          refine ⟨_, rfl, _, rfl, d, _, rfl, DPut.k (k := Sum.inl (q1.k : Int)) hd4 (len1000' (by (first | lia | omega))), ?_⟩
          refine ⟨_, _, _, _, _, rfl, s4.upd_new hd, upd_same, ?_⟩
          have ev : (if (1 + (x : Int) + (y : Int)) < (((at_ cj q1.k).getD 1000000000 : Nat) : Int) then (1 + (x : Int) + (y : Int)) else (((at_ cj q1.k).getD 1000000000 : Nat) : Int)) = (((if (1 + (x : Int) + (y : Int)) < (((at_ cj q1.k).getD 1000000000 : Nat) : Int) then 1 + x + y else (at_ cj q1.k).getD 1000000000) : Nat) : Int) := by
            split <;> (first | lia | omega)
          rw [ev]
          exact fc4.put b1 (by rw [ilj]; exact b1)
    · rintro σ H4 ⟨v2, v4, v5, v6, kvs, rfl, s4, hd4, fc4⟩
      rw [List.length_map, hRl, List.take_length] at fc4
      exact ⟨_, _, _, _, _, kvs, rfl, s4, hd4, fc4⟩
  · rintro σ H3 ⟨v2, v3, v4, v5, v6, kvs, rfl, s3, hd3, fc3⟩
    rw [Int.toNat_natCast] at fc3
    refine by_eq e3 ?_
    obtain ⟨m, st⟩ := ends_ (I := iD) fm.rules fm.init lk
    have res : fm.Res (iter iD fm.rules m fm.init) := ⟨m, rfl, st⟩
    rw [← Fm.enough ok res] at fc3
    exact ⟨_, rfl, q d kvs _ H3 s3 hd hd3 res fc3⟩
theorem takeG_le : ∀ (i : Nat) (g : Gr Str), gsz (takeG i g) ≤ gsz g
  | 0, _ => Nat.zero_le _
  | _ + 1, .nil => Nat.le_refl _
  | i + 1, .cons t w o => by
    have := takeG_le i o
    simp only [takeG, gsz]
    (first | lia | omega)
def spLWords (d : Nat) : Sp := fun vs H Q _ => ∃ (p : Addr) (xs : List V) (g : Gr Str), vs = [.ref p] ∧ H p = some (.tup xs) ∧ RepG H xs g ∧ gdep g < d ∧ gsz g ≤ 100 ∧ ∀ (r : Addr) (H' : Hp), Same H H' → H r = none → H' r = some (.lst ((words SL g).map V.str)) → Q (.ref r) H'
set_option maxHeartbeats 1000000 in
theorem ok_l_words (d : Nat) (B : ∀ x ∈ blts, mg x = none) (g_l_words : Has P w K mg base "_law_words" ["_law_row"] d (spLWords d)) (F : Fun K "_law_words" "_law_words" s_l_words f fd) : FnOk P w K mg base CX0 (d + 1) f fd ["_law_row"] (spLWords (d + 1)) := by
  refine F.ok sc_l_words (fun vs H Q E h => ?_) (fun cdv A outer s H vs Q E hr h => ?_)
  · obtain ⟨p, xs, g, rfl, _⟩ := h
    rfl
  obtain ⟨p, xs, g, rfl, hp, hG, hd, hz, q⟩ := h
  refine ⟨_, (pss_cons (ps_set (i := 1) sc_l_words.nd rfl (Or.inl rfl) (pe_lst pa_nil))
    (pss_cons (ps_for PassesOwn.never rfl (pi_tup (pv 0)) (pg_tup rfl (pgs_cons (pg_name (i := 2) sc_l_words.nd rfl (Or.inl rfl)) (pgs_cons (pg_name (i := 3) sc_l_words.nd rfl (Or.inl rfl)) pgs_nil)))
      (pss_one (ps_set (i := 1) sc_l_words.nd rfl (Or.inl rfl) (pe_op op_cat (pe_op op_cat (pe_op op_cat (pv 1) (pe_lst (pa_cons (pv 2) pa_nil))) (pe_has g_l_words hr rfl (pa_cons (pv 3) pa_nil) (by (first | lia | omega)))) (pe_lst (pa_cons pe_str pa_nil))))))
    (pss_one (ps_ret (pv 1))))), ?_⟩
  refine ⟨by decide, fun L0 hL0 => ?_⟩
  have s0 := Same.new (o := .lst []) hL0
  refine ⟨_, rfl, p, rfl, ⟨_, SqT.of (s0 _ _ hp)⟩, for_tup (K := K) (a := p) (xs := xs) (fun i σ H1 => ∃ (v2 v3 : Option V) (L : Addr), σ = [some (.ref p), some (.ref L), v2, v3] ∧ Same H H1 ∧ H L = none ∧ H1 L = some (.lst ((words SL (takeG i g)).map V.str)))
    ⟨none, none, L0, rfl, s0, hL0, upd_same⟩ ?_ ?_ ?_⟩
  · rintro i σ H1 _ ⟨_, _, _, _, s1, _⟩
    exact SqT.of (s1 _ _ hp)
  · rintro i x σ H1 hx ⟨v2, v3, L, rfl, s1, hL0, hL⟩
    obtain ⟨pt, q', t, ys, w', rfl, e1, e2, e3, e4, e5⟩ := hG.tree i x hx
    have h1 := kid_dep e5
    have h2 := kid_sz e5
    have h3 := takeG_le (i + 1) g
    have h4 : (words SL (takeG (i + 1) g)).length = 2 * gsz (takeG (i + 1) g) := gsz_words _
    have hw : words SL (takeG (i + 1) g) = words SL (takeG i g) ++ (t :: (words SL w' ++ [SL])) := by
      rw [e4, words_gapp]
      simp [words]
    have hl := congrArg List.length hw
    rw [List.length_append, List.length_cons, List.length_append, List.length_singleton] at hl
    refine ⟨pt, _, rfl, SqT.of (s1 _ _ e1), rfl, _, _, rfl, _, _, rfl, rfl, ?_⟩
    refine ⟨_, rfl, _, rfl, (by show 1 ≤ sizeLine; decide), fun c1 hc1 => ?_⟩
    have z1 := Same.new (o := .lst [.str t]) hc1
    refine ⟨L, c1, _, _, rfl, rfl, z1 _ _ hL, upd_same, len1000 (by rw [List.length_map]; show _ + 1 ≤ _; (first | lia | omega)), fun c2 hc2 => ?_⟩
    have z2 := Same.new (o := .lst ((words SL (takeG i g)).map V.str ++ [.str t])) hc2
    have s2 := s1.trans (z1.trans z2)
    refine ⟨_, rfl, q', ys, w', rfl, s2 _ _ e2, e3.mono s2.tk, by (first | lia | omega), by (first | lia | omega), fun r H3 s3 _ hr3 => ?_⟩
    have hc23 := s3 _ _ (show (upd _ c2 _ : Hp) c2 = some (.lst ((words SL (takeG i g)).map V.str ++ [.str t])) from upd_same)
    refine ⟨c2, r, _, _, rfl, rfl, hc23, hr3, len1000 (by rw [List.length_append, List.length_map, List.length_map]; show _ + 1 + _ ≤ _; (first | lia | omega)), fun c3 hc3 => ?_⟩
    have z3 := Same.new (o := .lst ((words SL (takeG i g)).map V.str ++ [.str t] ++ (words SL w').map V.str)) hc3
    refine ⟨(by show 1 ≤ sizeLine; decide), fun c4 hc4 => ?_⟩
    have z4 := Same.new (o := .lst [.str "/"]) hc4
    refine ⟨c3, c4, _, _, rfl, rfl, z4 _ _ upd_same, upd_same, len1000 (by rw [List.length_append, List.length_append, List.length_map, List.length_map]; show _ + 1 + _ + 1 ≤ _; (first | lia | omega)), fun c5 hc5 => ?_⟩
    have z5 := Same.new (o := .lst ((words SL (takeG i g)).map V.str ++ [.str t] ++ (words SL w').map V.str ++ [.str "/"])) hc5
    have s5 := s2.trans (s3.trans (z3.trans z4))
    refine ⟨_, _, c5, rfl, s5.trans z5, s5.free hc5, ?_⟩
    rw [hw, upd_same]
    simp [SL]
  · rintro σ H1 ⟨v2, v3, L, rfl, s1, hL0, hL⟩
    rw [hG.take_all] at hL
    exact ⟨_, rfl, q L H1 s1 hL0 hL⟩
def spClose82 : Sp := fun vs H Q _ => ∃ (a : Addr) (G : Gr Str) (p e : Nat), vs = [.ref a, .int (p : Int)] ∧ H a = some (.lst ((words SL G).map V.str)) ∧ Clean SL G ∧ (p, e) ∈ prs 0 G ∧ Q (.int (e : Int)) H
set_option maxHeartbeats 1000000 in
theorem ok_l_close (B : ∀ x ∈ blts, mg x = none) (F : Fun K "_law_close" "_law_close" s_l_close f fd) : FnOk P w K mg base CX0 1 f fd ["_law_words_here", "_law_place"] spClose82 := by
  refine F.ok sc_l_close (fun vs H Q E h => ?_) (fun cdv A outer s H vs Q E hr h => ?_)
  · obtain ⟨a, G, p, e, rfl, _⟩ := h
    rfl
  obtain ⟨a, G, p, e, rfl, ha, hc, hpe, q⟩ := h
  obtain ⟨i, t, w', e1, e2, e3, e4⟩ := prs_words G 0 p e hpe hc
  rw [Nat.zero_add] at e1
  subst e1
  have lw : (words SL w').length = 2 * gsz w' := gsz_words w'
  have hat : ∀ j, j ≤ 2 * gsz w' → (words SL G)[p + 1 + j]? = (words SL w' ++ [SL])[j]? := fun j hj => by
    have := congrArg (fun l => l[1 + j]?) e4
    simp only [List.getElem?_drop] at this
    rw [show p + 1 + j = p + (1 + j) by (first | lia | omega), this, show words SL (.cons t w' .nil) = t :: (words SL w' ++ [SL]) by simp [words], List.cons_append, show 1 + j = j + 1 by (first | lia | omega), List.getElem?_cons_succ, List.getElem?_append_left (by rw [List.length_append, List.length_singleton]; (first | lia | omega))]
  have cw : Can SL 0 (words SL w') := can_all e3.2.1
  refine ⟨_, (pss_cons (ps_set (i := 2) sc_l_close.nd rfl (Or.inl rfl) pe_int)
    (pss_cons (ps_while PassesOwn.never (pt_cmpR op_gt (pv 2) pe_int (nomark _))
      (pss_cons (ps_set (i := 1) sc_l_close.nd rfl (Or.inl rfl) (pe_op op_add (pv 1) pe_int))
        (pss_one (ps_set (i := 2) sc_l_close.nd rfl (Or.inl rfl) (pe_op op_sub (pe_op op_add (pv 2) pe_int) (pe_op op_mul pe_int (pe_callTy call_intB rfl (B "int" (by decide)) bt_int (pa_cons (pe_cmpR op_eq (pe_ix ix_list (pv 0) (pv 1) (fun _ _ => rfl)) pe_str (nomark _)) pa_nil))))))))
    (pss_one (ps_ret (pv 1))))), ?_⟩
  let W : Nat → St → Hp → Prop := fun n σ H3 => ∃ (j o : Nat), σ = [some (.ref a), some (.int ((p + j : Nat) : Int)), some (.int (o : Int))] ∧ H3 = H ∧ n = 2 * gsz w' + 1 - j ∧ ((j ≤ 2 * gsz w' ∧ ∃ d, o = d + 1 ∧ Can SL d ((words SL w').drop j)) ∨ (j = 2 * gsz w' + 1 ∧ o = 0))
  refine ⟨W, ⟨_, 0, 1, rfl, rfl, rfl, .inl ⟨Nat.zero_le _, 0, rfl, cw⟩⟩, ?_⟩
  rintro n σ H3 ⟨j, o, rfl, rfl, rfl, hjo⟩
  refine ⟨_, rfl, _, _, rfl, rfl, _, rfl, ite2 (fun cc => ?_) (fun cc => ?_)⟩
  · rcases hjo with ⟨hj, d, rfl, hcan⟩ | ⟨_, rfl⟩
    rotate_left
    · exact absurd (of_decide_eq_true cc) (by decide)
    refine ⟨fun σ' H' => ∃ m', m' < 2 * gsz w' + 1 - j ∧ W m' σ' H', fun _ _ h => h, ?_⟩
    refine ⟨_, rfl, _, _, rfl, rfl, ?_⟩
    obtain ⟨x, hx⟩ : ∃ x, (words SL w' ++ [SL])[j]? = some x := ⟨_, List.getElem?_eq_getElem (by rw [List.length_append, List.length_singleton]; (first | lia | omega))⟩
    have hx2 : atI ((words SL G).map V.str) (((p + j : Nat) : Int) + 1) = some (.str x) := by
      rw [show ((p + j : Nat) : Int) + 1 = ((p + 1 + j : Nat) : Int) by (first | lia | omega)]
      exact atI_nat (by rw [List.getElem?_map, hat j hj, hx]; rfl)
    refine ⟨_, rfl, _, _, rfl, rfl, _, rfl, _, rfl, a, _, _, _, rfl, rfl, SqL.of ha, hx2, rfl, _, rfl, _, _, rfl, rfl, .inl ⟨by decide, ?_⟩, _, _, rfl, rfl, ?_⟩
    · decide
    by_cases hlt : j < 2 * gsz w'
    · rw [List.getElem?_append_left (by (first | lia | omega))] at hx
      have hdr : (words SL w').drop j = x :: (words SL w').drop (j + 1) := by
        obtain ⟨h1, h2⟩ := List.getElem?_eq_some_iff.mp hx
        rw [List.drop_eq_getElem_cons h1, h2]
      rw [hdr] at hcan
      by_cases hxs : x = SL
      · subst hxs
        rw [can_end] at hcan
        refine ⟨2 * gsz w' + 1 - (j + 1), by (first | lia | omega), j + 1, d, ?_, rfl, rfl, .inl ⟨by (first | lia | omega), d - 1, by (first | lia | omega), hcan.2⟩⟩
        rw [show decide (V.str SL = V.str "/") = true from decide_eq_true rfl]
        show [_, some (V.int (((p + j : Nat) : Int) + 1)), some (V.int (((d + 1 : Nat) : Int) + 1 - 2 * 1))] = _
        rw [show ((p + j : Nat) : Int) + 1 = ((p + (j + 1) : Nat) : Int) by (first | lia | omega), show ((d + 1 : Nat) : Int) + 1 - 2 * 1 = (d : Int) by (first | lia | omega)]
      · rw [can_tag hxs] at hcan
        refine ⟨2 * gsz w' + 1 - (j + 1), by (first | lia | omega), j + 1, d + 2, ?_, rfl, rfl, .inl ⟨by (first | lia | omega), d + 1, by (first | lia | omega), hcan⟩⟩
        rw [show decide (V.str x = V.str "/") = false from decide_eq_false (fun z => hxs (by injection z))]
        show [_, some (V.int (((p + j : Nat) : Int) + 1)), some (V.int (((d + 1 : Nat) : Int) + 1 - 2 * 0))] = _
        rw [show ((p + j : Nat) : Int) + 1 = ((p + (j + 1) : Nat) : Int) by (first | lia | omega), show ((d + 1 : Nat) : Int) + 1 - 2 * 0 = ((d + 2 : Nat) : Int) by (first | lia | omega)]
    · obtain rfl : j = 2 * gsz w' := by (first | lia | omega)
      rw [List.drop_of_length_le (by (first | lia | omega))] at hcan
      have hd0 : d = 0 := hcan
      subst hd0
      rw [List.getElem?_append_right (by (first | lia | omega)), lw, Nat.sub_self] at hx
      injection hx with hx
      subst hx
      refine ⟨0, by (first | lia | omega), 2 * gsz w' + 1, 0, ?_, rfl, by (first | lia | omega), .inr ⟨rfl, rfl⟩⟩
      rw [show decide (V.str SL = V.str "/") = true from decide_eq_true rfl]
      show [_, some (V.int (((p + 2 * gsz w' : Nat) : Int) + 1)), some (V.int (((0 + 1 : Nat) : Int) + 1 - 2 * 1))] = _
      rw [show ((p + 2 * gsz w' : Nat) : Int) + 1 = ((p + (2 * gsz w' + 1) : Nat) : Int) by (first | lia | omega)]
      rfl
  · rcases hjo with ⟨hj, d, rfl, hcan⟩ | ⟨rfl, rfl⟩
    · exact absurd (decide_eq_true (by show (0 : Int) < ((d + 1 : Nat) : Int); (first | lia | omega))) cc
    · refine ⟨_, rfl, ?_⟩
      rw [show ((p + (2 * gsz w' + 1) : Nat) : Int) = (e : Int) by (first | lia | omega)]
      exact q
theorem no_tag : ∀ (g : Gr Str) (i : Nat), i < 2 * gsz g → atG g i = .nil → (words SL g)[i]? = some SL
  | .nil, i, h, _ => by simp [gsz] at h
  | .cons t w o, 0, _, h => by cases h
  | .cons t w o, i + 1, h, e => by
    have hw := gsz_words w
    have hz : gsz (.cons t w o) = 1 + gsz w + gsz o := rfl
    have ew : words SL (.cons t w o) = t :: (words SL w ++ SL :: words SL o) := by simp [words]
    rw [ew, List.getElem?_cons_succ]
    have e' : (if i ≤ 2 * gsz w then atG w i else atG o (i - (2 * gsz w + 1))) = .nil := e
    by_cases c : i ≤ 2 * gsz w
    · rw [if_pos c] at e'
      rcases Nat.lt_or_ge i (2 * gsz w) with d | d
      · rw [List.getElem?_append_left (by (first | lia | omega))]
        exact no_tag w i d e'
      · rw [List.getElem?_append_right (by (first | lia | omega)), show i - (words SL w).length = 0 by (first | lia | omega)]
        rfl
    · rw [if_neg c] at e'
      rw [List.getElem?_append_right (by (first | lia | omega)), show i - (words SL w).length = (i - (2 * gsz w + 1)) + 1 by (first | lia | omega), List.getElem?_cons_succ]
      exact no_tag o _ (by (first | lia | omega)) e'
theorem clean_at : ∀ (g : Gr Str) (i : Nat), Clean SL g → Clean SL (atG g i)
  | .nil, _, h => h
  | .cons t w o, 0, h => h
  | .cons t w o, i + 1, h => by
    show Clean SL (if i ≤ 2 * gsz w then atG w i else atG o (i - (2 * gsz w + 1)))
    split
    · exact clean_at w i h.2.1
    · exact clean_at o _ h.2.2
theorem PR_put {fm : Fm} (ok : fm.Ok) {c : Cs} (res : fm.Res c) (R : Gr Str) {q : Rl} (hq : q ∈ alive c fm.rules) {x y u : Nat} (hx : at_ c q.i = some x) (hy : at_ (PR c (alive c fm.rules) R) q.r = some y) (hu : at_ (PR c (alive c fm.rules) R) q.k = some u) : u ≤ 1 + x + y := by
  cases R with
  | nil =>
    obtain ⟨v, h1, h2⟩ := res.rule (List.mem_filter.mp hq).1 hx hy
    have hu' : at_ c q.k = some u := hu
    rw [h1] at hu'
    injection hu' with e
    (first | lia | omega)
  | cons t w o => exact (PR_cons (alive_ok ok res) t w o).put q hq x y u hx hy hu
structure Sht (H : Hp) (fm : Fm) (g : Gr Str) (c : Cs) (lt la ld lw : Addr) (rs : List Addr) (kvs : List (Key × V)) : Prop where
  form : Form H la fm
  tb : TbC H lt rs (fun p => PR c (alive c fm.rules) (atG g p))
  rl : rs.length = 2 * gsz g + 1
  res : fm.Res c
  dd : H ld = some (.dK kvs)
  fc : FdC fm.n kvs c
  ww : H lw = some (.lst ((words SL g).map V.str))
  n24 : fm.n ≤ 24
  r40 : fm.rules.length ≤ 40
  cl : Clean SL g
  g30 : gsz g ≤ 30
theorem Sht.same {H H' : Hp} {fm : Fm} {g : Gr Str} {c : Cs} {lt la ld lw : Addr} {rs : List Addr} {kvs : List (Key × V)} (h : Sht H fm g c lt la ld lw rs kvs) (s : Same H H') : Sht H' fm g c lt la ld lw rs kvs :=
  ⟨h.form.same s, h.tb.same s, h.rl, h.res, s _ _ h.dd, h.fc, s _ _ h.ww, h.n24, h.r40, h.cl, h.g30⟩
def spWays (K : PySem.W.Frag) : Sp := fun vs H Q _ => ∃ (lt la ld lw : Addr) (p k u : Nat) (fm : Fm) (g : Gr Str) (c : Cs) (rs : List Addr) (kvs : List (Key × V)), vs = [.ref lt, .ref la, .ref ld, .ref lw, .int (p : Int), .int (k : Int)] ∧ Sht H fm g c lt la ld lw rs kvs ∧ p ≤ 2 * gsz g ∧ k < fm.n ∧ at_ (PR c (alive c fm.rules) (atG g p)) k = some u ∧
  ∀ (r : Addr) (ns : List Int) (H' : Hp), Same H H' → H' r = some (.lst (ns.map V.int)) → ns.length ≤ 1000 → (∀ x ∈ ns, (u : Int) ≤ x) → (u : Int) ∈ ns → Q (.ref r) H'
theorem mem_snoc {x y : Int} {ns : List Int} (h : x ∈ ns) : x ∈ ns ++ [y] := List.mem_append_left _ h
theorem mem_last {x : Int} {ns : List Int} : x ∈ ns ++ [x] := List.mem_append_right _ (List.mem_singleton.mpr rfl)
theorem le_snoc {u y : Int} {ns : List Int} (h : ∀ x ∈ ns, u ≤ x) (hy : u ≤ y) : ∀ x ∈ ns ++ [y], u ≤ x := fun x hx => by
  rcases List.mem_append.mp hx with hx | hx
  · exact h x hx
  · rw [List.mem_singleton.mp hx]
    exact hy
theorem flat_nats : ∀ l : List Nat, (l.map fun e : Nat => V.int (e : Int)).all flatV = true
  | [] => rfl
  | _ :: l => flat_nats l
theorem in_nats {k : Nat} (l : List Nat) : inV (V.int (k : Int)) (l.map fun e : Nat => V.int (e : Int)) = decide (k ∈ l) := by
  have e : (l.map fun e : Nat => V.int (e : Int)) = (l.map fun e : Nat => (e : Int)).map V.int := by
    rw [List.map_map]
    rfl
  rw [e, inV_ints]
  have : ((k : Int) ∈ l.map fun e : Nat => (e : Int)) ↔ k ∈ l := by
    rw [List.mem_map]
    constructor
    · rintro ⟨x, h1, h2⟩
      have : x = k := by (first | lia | omega)
      rw [← this]
      exact h1
    · exact fun h => ⟨k, h, rfl⟩
  simp only [this]
set_option maxHeartbeats 8000000 in
theorem ok_l_ways (B : ∀ x ∈ blts, mg x = none) (g_l_close : Has P w K mg base "_law_close" ["_law_words_here", "_law_place"] 1 spClose82) (F : Fun K "_law_ways" "_law_ways" s_l_ways f fd) : FnOk P w K mg base CX0 2 f fd ["_law_told", "_law_form_told", "_law_many", "_law_words_here", "_law_place", "_law_kind"] (spWays K) := by
  refine F.ok sc_l_ways (fun vs H Q E h => ?_) (fun cdv A outer s H vs Q E hr h => ?_)
  · obtain ⟨lt, la, ld, lw, p, k, u, fm, g, c, rs, kvs, rfl, _⟩ := h
    rfl
  obtain ⟨lt, la, ld, lw, p, k, u, fm, g, c, rs, kvs, rfl, hS, hp, hk, hu_, q⟩ := h
  have hu := hu_room hr
  have hu1 : (A.deeper (PyProof.Rows.envOfC (Str.ofString "_law_ways") (defScope s_l_ways) s.heap.objs.size f cdv)).units + 1 < cLine := by have := hr.un; (first | lia | omega)
  have ok := hS.form.ok
  have res := hS.res
  have alk := alive_ok ok res
  have gw := gsz_words g
  have g30 := hS.g30
  have r40 := hS.r40
  have rl := hS.rl
  have clen : c.length = fm.n := alk.len
  obtain ⟨f1, f2, f3, qs, ea, ee, hRq, hRl, hRt⟩ := hS.form.ex
  refine hideI ((defBody s_l_ways).drop 7) (pss_one (ps_ret (pv 6))) (fun u7 h7 e7 => ?_)
  refine hideI ((sBody ((defBody s_l_ways).getD 6 (.Pass ⟨0, 0, 0, 0⟩))).drop 1) (pss_one (ps_expr (pe_bm PySem.F.plainAttrs_list PySem.F.slot_list_append PySem.F.type_list_append mt_append (pv 6) (pa_cons (pe_op op_add (pe_callTy call_intB rfl (B "int" (by decide)) bt_int (pa_cons (pe_cmpR op_ne (pe_ix ix_tup (pv 8) pe_int (fun _ _ => rfl)) (pe_ix ix_list (pv 3) (pv 4) (fun _ _ => rfl)) (nomark _)) pa_nil)) (pv 10)) pa_nil)))) (fun u6_1 h6_1 e6_1 => ?_)
  refine hideI ((sBody ((defBody s_l_ways).getD 6 (.Pass ⟨0, 0, 0, 0⟩))).drop 0) (pss_cons (ps_set (i := 10) sc_l_ways.nd rfl (Or.inl rfl) (pe_op op_add (pe_ix ix_list (pe_ix ix_list (pv 0) (pe_op op_add (pv 4) pe_int) (fun _ _ => rfl)) (pe_ix ix_tup (pv 8) pe_int (fun _ _ => rfl)) (fun _ _ => rfl)) (pe_ix ix_list (pe_ix ix_list (pv 0) (pe_op op_add (pv 9) pe_int) (fun _ _ => rfl)) (pe_ix ix_tup (pv 8) pe_int (fun _ _ => rfl)) (fun _ _ => rfl)))) h6_1) (fun u6_0 h6_0 e6_0 => ?_)
  refine hideI ((defBody s_l_ways).drop 6) (pss_cons (ps_for PassesOwn.never rfl (pi_list (pv 7)) (pg_name (i := 8) sc_l_ways.nd rfl (Or.inl rfl))
      h6_0) h7) (fun u6 h6 e6 => ?_)
  refine hideI ((defBody s_l_ways).drop 5) (pss_cons (ps_expr (pe_bm PySem.F.plainAttrs_list PySem.F.slot_list_append PySem.F.type_list_append mt_append (pv 6) (pa_cons (pe_op op_add (pe_op op_fdiv (pe_op op_sub (pe_op op_add (pv 9) pe_int) (pv 4)) pe_int) (pe_ix ix_list (pe_ix ix_list (pv 0) (pe_op op_add (pv 9) pe_int) (fun _ _ => rfl)) (pv 5) (fun _ _ => rfl))) pa_nil))) h6) (fun u5 h5 e5 => ?_)
  refine hideI ((defBody s_l_ways).drop 4) (pss_cons (ps_set (i := 9) sc_l_ways.nd rfl (Or.inl rfl) (pe_has g_l_close hr rfl (pa_cons (pv 3) (pa_cons (pv 4) pa_nil)))) h5) (fun u4 h4 e4 => ?_)
  refine hideI ((sBody ((defBody s_l_ways).getD 3 (.Pass ⟨0, 0, 0, 0⟩))).drop 1) (pss_one (ps_ret (pv 6))) (fun u3t1 h3t1 e3t1 => ?_)
  refine hideI ((sBody ((defBody s_l_ways).getD 3 (.Pass ⟨0, 0, 0, 0⟩))).drop 0) (pss_cons (ps_if (pt_cmpR op_in_seq (pv 5) (pe_ix ix_tup (pv 1) pe_int (fun _ _ => rfl)) (by with_unfolding_all rfl))
      (pss_one (ps_expr (pe_bm PySem.F.plainAttrs_list PySem.F.slot_list_append PySem.F.type_list_append mt_append (pv 6) (pa_cons pe_int pa_nil))))
      pss_nil) h3t1) (fun u3t0 h3t0 e3t0 => ?_)
  refine hideI ((defBody s_l_ways).drop 3) (pss_cons (ps_if (PW.pt (pw_or (pt_cmpR op_eq (pv 4) (pe_callB call_len_seq rfl (B "len" (by decide)) PySem.boot_len (pa_cons (pv 3) pa_nil)) (nomark _)) (pw_or1 (pt_cmpR op_eq (pe_ix ix_list (pv 3) (pv 4) (fun _ _ => rfl)) pe_str (nomark _)))))
      h3t0
      pss_nil) h4) (fun u3 h3 e3 => ?_)
  refine hideI ((sBody ((defBody s_l_ways).getD 2 (.Pass ⟨0, 0, 0, 0⟩))).drop 0) (pss_one (ps_expr (pe_bm PySem.F.plainAttrs_list PySem.F.slot_list_append PySem.F.type_list_append mt_append (pv 6) (pa_cons (pe_op op_add (pe_op op_add pe_int (pe_dget hu1 (pv 2) (pe_ix ix_tup (pv 8) pe_int (fun _ _ => rfl)) (fun _ _ => rfl))) (pe_ix ix_list (pe_ix ix_list (pv 0) (pv 4) (fun _ _ => rfl)) (pe_ix ix_tup (pv 8) pe_int (fun _ _ => rfl)) (fun _ _ => rfl))) pa_nil)))) (fun u2_0 h2_0 e2_0 => ?_)
  refine hideI ((defBody s_l_ways).drop 2) (pss_cons (ps_for PassesOwn.never rfl (pi_list (pv 7)) (pg_name (i := 8) sc_l_ways.nd rfl (Or.inl rfl))
      h2_0) h3) (fun u2 h2 e2 => ?_)
  refine hideI ((defBody s_l_ways).drop 1) (pss_cons (ps_set_comp_if (cl := _) (n0 := 7) sc_l_ways.nd rfl (Or.inl rfl) ["_law_rule"] [("_law_many", 2), ("_law_kind", 5)] (pi_tup (pe_ix ix_tup (pv 1) pe_int (fun _ _ => rfl))) (fun _ _ _ _ => (pg_name (i := 0) (show List.Nodup (["_law_rule", "_law_many", "_law_kind"] : List Str) by decide) rfl (Or.inl rfl))) (fun _ _ _ _ => (PW.pt (pw_and (pt_cmpR op_eq (pe_ix (ix_tupK (K := K) rfl) (pv 0) pe_int (fun _ _ => rfl)) (pv 2) (nomark _)) (pw_and (pt_cmp (pc_din hu1 (pe_ix (ix_tupK (K := K) rfl) (pv 0) pe_int (fun _ _ => rfl)) (pv 1))) (pw_and1 (pt_cmp (pc_din hu1 (pe_ix (ix_tupK (K := K) rfl) (pv 0) pe_int (fun _ _ => rfl)) (pv 1)))))))) (fun _ _ _ _ => (pv 0)) rfl rfl (by decide) rfl (by decide) (cap_cl (by (repeat' first | exact List.forall_mem_nil _ | refine List.forall_mem_cons.mpr ⟨?_, ?_⟩) <;> rfl)) (cap_has (by (repeat' first | exact List.forall_mem_nil _ | refine List.forall_mem_cons.mpr ⟨?_, ?_⟩) <;> first | (intro h; exact ⟨_, rfl⟩) | (intro h; exact absurd h (by decide)))) (fun _ => by (repeat' first | exact List.forall_mem_nil _ | refine List.forall_mem_cons.mpr ⟨?_, ?_⟩) <;> exact ⟨rfl, rfl, Or.inl rfl⟩) (fun _ => rfl) rfl) h2) (fun u1 h1 e1 => ?_)
  refine hideI ((defBody s_l_ways).drop 0) (pss_cons (ps_set (i := 6) sc_l_ways.nd rfl (Or.inl rfl) (pe_lst pa_nil)) h1) (fun u0 h0 e0 => ?_)
  refine ⟨u0, h0, ?_⟩
  refine by_eq e0 ?_
  refine ⟨by decide, fun W hW => ?_⟩
  have k0 : Same H (upd H W (.lst [])) := Same.new hW
  have hW0 : (upd H W (.lst [])) W = some (.lst (([] : List Int).map V.int)) := upd_same
  show u1 _ _ _
  generalize upd H W (.lst []) = H1 at k0 hW0 ⊢
  refine by_eq e1 ?_
  refine ⟨_, rfl, la, _, 3, _, rfl, rfl, SqT.of (k0 _ _ ea), rfl, f3, rfl, ⟨_, SqT.of (k0 _ _ hRq)⟩, fun pr hpr => comp_tupT (K := K) (a := f3) (p := pr) (xs := qs.map V.ref) (fun i us σ H6 => ∃ (v0 : Option V) (as : List Addr), σ = [v0, some (.ref ld), some (.int (k : Int))] ∧ Same H1 H6 ∧ H6 pr = some (.lst us) ∧ us = as.map V.ref ∧ RlA H6 as ((fm.rules.take i).filter fun q => decide (q.k = k) && ((at_ c q.i).isSome && (at_ c q.r).isSome)))
    ⟨none, [], rfl, Same.new hpr, upd_same, rfl, rfl, fun i p q e => (by simp at e)⟩ ?_ ?_ ?_⟩
  · rintro i us σ H6 _ ⟨v0, as, _, sm, h, _⟩
    exact ⟨SqT.of (sm _ _ (k0 _ _ hRq)), h⟩
  · rintro i us x σ H6 hi hx ⟨v0, as, rfl, sm, h, rfl, hz⟩
    rw [List.getElem?_map] at hx
    obtain ⟨pq, hpq, rfl⟩ := Option.map_eq_some_iff.mp hx
    obtain ⟨q1, hq1⟩ : ∃ q1, fm.rules[i]? = some q1 := ⟨_, List.getElem?_eq_getElem (by have := (List.getElem?_eq_some_iff.mp hpq).1; (first | lia | omega))⟩
    obtain ⟨b1, b2, b3⟩ := ok.q q1 (List.mem_of_getElem? hq1)
    have s6 := k0.trans sm
    have e2' := s6 _ _ (hRt i pq q1 hpq hq1)
    have dd6 := s6 _ _ hS.dd
    have hfs := filt_succ (P := fun q : Rl => decide (q.k = k) && ((at_ c q.i).isSome && (at_ c q.r).isSome)) hq1
    have hzl : as.length ≤ 40 := by
      rw [hz.1]
      refine Nat.le_trans (List.length_filter_le ..) ?_
      rw [List.length_take]
      (first | lia | omega)
    have no : (decide (q1.k = k) && ((at_ c q1.i).isSome && (at_ c q1.r).isSome)) = false → RlA H6 as ((fm.rules.take (i + 1)).filter fun q => decide (q.k = k) && ((at_ c q.i).isSome && (at_ c q.r).isSome)) := fun hc => by
      rw [hfs, if_neg (by rw [hc]; decide), List.append_nil]
      exact hz
    refine ⟨_, rfl, pq, _, 0, _, rfl, rfl, SqT.of e2', rfl, _, rfl, rfl, _, rfl, ite2 (fun c0 => ?_) (fun c0 => ?_)⟩
    · have ck : q1.k = k := by
        have := of_decide_eq_true c0
        injection this with this
        (first | lia | omega)
      refine ⟨_, rfl, pq, _, 2, _, rfl, rfl, SqT.of e2', rfl, _, rfl, ld, _, rfl, hS.fc.get b2 dd6, _, rfl, ?_⟩
      cases k1 : at_ c q1.i with
      | none => exact iteF (iteF (CW.next hi ⟨_, as, rfl, sm, h, rfl, no (by rw [k1]; simp)⟩))
      | some x1 =>
        refine iteT ⟨_, rfl, pq, _, 3, _, rfl, rfl, SqT.of e2', rfl, _, rfl, ld, _, rfl, hS.fc.get b3 dd6, _, rfl, ?_⟩
        cases k2 : at_ c q1.r with
        | none => exact iteF (CW.next hi ⟨_, as, rfl, sm, h, rfl, no (by rw [k1, k2]; simp)⟩)
        | some y1 =>
          refine iteT ⟨_, rfl, h, len1000' (by rw [List.length_map]; (first | lia | omega)), CW.next hi ⟨_, as ++ [pq], rfl, sm.upd_new hpr, upd_same, by rw [List.map_append]; rfl, ?_⟩⟩
          rw [hfs, if_pos (by rw [k1, k2, ck]; simp)]
          exact (RlA.snoc hz e2').tk (tup_upd h)
    · have ck : ¬ q1.k = k := fun z => c0 (decide_eq_true (by rw [z]))
      exact iteF (CW.next hi ⟨_, as, rfl, sm, h, rfl, no (by rw [decide_eq_false ck, Bool.false_and])⟩)
  rintro us σ H6 ⟨v0, as, rfl, sm6, hpr6, rfl, hz6⟩
  rw [List.length_map, hRl, List.take_length] at hz6
  have s6 := k0.trans sm6
  have hS6 := hS.same s6
  have hW6 := sm6 _ _ hW0
  generalize hak : (fm.rules.filter fun q => decide (q.k = k) && ((at_ c q.i).isSome && (at_ c q.r).isSome)) = ak at hz6
  have akm : ∀ q, q ∈ ak ↔ q ∈ alive c fm.rules ∧ q.k = k := fun q => by
    rw [← hak]
    unfold alive
    rw [List.mem_filter, List.mem_filter]
    simp only [Bool.and_eq_true, decide_eq_true_eq]
    constructor
    · rintro ⟨h1, h2, h3⟩
      exact ⟨⟨h1, h3⟩, h2⟩
    · rintro ⟨⟨h1, h3⟩, h2⟩
      exact ⟨h1, h2, h3⟩
  have akl : ak.length ≤ 40 := by
    rw [← hak]
    exact Nat.le_trans (List.length_filter_le ..) r40
  clear hak
  have npW : pr ≠ W := (ne_of_none hW0 hpr).symm
  generalize hT : PR c (alive c fm.rules) (atG g p) = T at hu_
  obtain ⟨tl, td⟩ : T.length = fm.n ∧ ∀ k, (at_ T k).isSome = (at_ c k).isSome := by rw [← hT]; exact PR_dom alk _
  obtain ⟨rp, rp1, rp2, rp3⟩ := hS6.tb.at1 (i := p) (by (first | lia | omega))
  rw [hT] at rp3
  have nW : ∀ {b : Addr} {o : HO}, H b = some o → b ≠ W := fun h => ne_of_none h hW
  have upn : ∀ {b : Addr} {o : HO} (zs : List V), H6 b = some o → b ≠ W → (upd H6 W (.lst zs)) b = some o := fun zs h n => by
    rw [upd_ne n]
    exact h
  have tupn : ∀ {b : Addr} {ys : List V} (zs : List V), H6 b = some (.tup ys) → (upd H6 W (.lst zs)) b = some (.tup ys) := fun zs h => upn zs h (fun z => by rw [z, hW6] at h; cases h)
  have ltW : lt ≠ W := nW hS.tb.hL
  have ldW : ld ≠ W := nW hS.dd
  have lwW : lw ≠ W := nW hS.ww
  have rowW : ∀ {i : Nat} {r : Addr}, rs[i]? = some r → r ≠ W := fun h => nW (hS.tb.row _ _ h)
  show u2 _ _ _
  refine by_eq e2 ?_
  refine ⟨_, rfl, pr, rfl, ⟨_, SqL.of hpr6⟩, for_list (K := K) (a := pr) (xs := as.map V.ref) (fun j σ H7 => ∃ (v8 : Option V) (ns : List Int), σ = [some (.ref lt), some (.ref la), some (.ref ld), some (.ref lw), some (.int (p : Int)), some (.int (k : Int)), some (.ref W), some (.ref pr), v8, none, none] ∧ H7 = upd H6 W (.lst (ns.map V.int)) ∧ ns.length ≤ j ∧ (∀ x ∈ ns, (u : Int) ≤ x) ∧ ∀ q ∈ ak.take j, ∀ x y, at_ c q.i = some x → at_ T q.r = some y → ((1 + x + y : Nat) : Int) ∈ ns)
    ⟨none, [], rfl, (upd_id hW6).symm, Nat.le_refl _, fun x hx => (nomatch hx), fun q hq => by simp at hq⟩ ?_ ?_ ?_⟩
  · rintro j σ H7 _ ⟨_, _, _, rfl, _⟩
    exact SqL.of (upn _ hpr6 npW)
  · rintro j x σ H7 hx ⟨v8, ns, rfl, rfl, hnl, hle, hin⟩
    rw [List.getElem?_map] at hx
    obtain ⟨pq, hpq, rfl⟩ := Option.map_eq_some_iff.mp hx
    obtain ⟨q1, hq1⟩ : ∃ q1, ak[j]? = some q1 := ⟨_, List.getElem?_eq_getElem (by have := (List.getElem?_eq_some_iff.mp hpq).1; have := hz6.1; (first | lia | omega))⟩
    obtain ⟨qa, qk⟩ := (akm q1).mp (List.mem_of_getElem? hq1)
    obtain ⟨b1, b2, b3⟩ := alk.kd q1 qa
    obtain ⟨l1, l2, l3⟩ := alk.lv q1 qa
    obtain ⟨xc, hxc⟩ := Option.isSome_iff_exists.mp l2
    obtain ⟨yT, hyT⟩ := Option.isSome_iff_exists.mp ((td q1.r).trans l3)
    have hq4 := hz6.2 j pq q1 hpq hq1
    have jl := (List.getElem?_eq_some_iff.mp hq1).1
    have gc := hS.fc.get b2 (upn (ns.map V.int) hS6.dd ldW)
    rw [hxc] at gc
    refine by_eq e2_0 ?_
    refine ⟨_, rfl, .inl ⟨rfl, _, SqL.of upd_same⟩, _, rfl, _, rfl, pq, _, 2, _, rfl, rfl, SqT.of (tupn _ hq4), rfl, ld, _, rfl, gc, _, _, rfl, rfl, _, rfl, _, rfl, lt, _, _, _, rfl, rfl, SqL.of (upn _ hS6.tb.hL ltW), rp2, _, rfl, pq, _, 3, _, rfl, rfl, SqT.of (tupn _ hq4), rfl, rp, _, _, _, rfl, rfl, SqL.of (upn _ rp3 (rowW rp1)), at_some (by rw [tl]; exact b3) hyT, _, _, rfl, rfl, ?_⟩
    refine ⟨W, _, _, rfl, rfl, upd_same, len1000' (by rw [List.length_map]; (first | lia | omega)), ?_⟩
    have hv : (1 + (xc : Int) + (yT : Int)) = ((1 + xc + yT : Nat) : Int) := by (first | lia | omega)
    refine ⟨_, ns ++ [((1 + xc + yT : Nat) : Int)], rfl, by rw [upd_upd, List.map_append, ← hv]; rfl, by rw [List.length_append, List.length_singleton]; (first | lia | omega), le_snoc hle ?_, fun q hq x y h1 h2 => ?_⟩
    · have := PR_put ok res (atG g p) (q := q1) (u := u) qa hxc (by rw [hT]; exact hyT) (by rw [hT, qk]; exact hu_)
      (first | lia | omega)
    · rw [take_succ' hq1] at hq
      rcases List.mem_append.mp hq with hq | hq
      · exact mem_snoc (hin q hq x y h1 h2)
      · rw [List.mem_singleton.mp hq] at h1 h2
        rw [hxc] at h1
        rw [hyT] at h2
        injection h1 with h1
        injection h2 with h2
        subst h1 h2
        exact mem_last
  rintro σ H7 ⟨v8, ns, rfl, rfl, hnl, hle, hin⟩
  rw [List.length_map, hz6.1] at hnl
  rw [List.length_map, hz6.1, List.take_length] at hin
  show u3 _ _ _
  have lg : (((words SL g).map V.str).length : Int) = ((2 * gsz g : Nat) : Int) := by rw [List.length_map, gw]
  -- what is told at the end of a row
  have ends_ : atG g p = .nil → (at_ c k = some u ∧ T = c) := fun z => by
    rw [z] at hT
    have : c = T := hT
    rw [this]
    exact ⟨hu_, rfl⟩
  have fin0 : atG g p = .nil → u3t0 { nx := u4 { nx := fun x H' => Q V.non H', rt := Q }, rt := Q } [some (.ref lt), some (.ref la), some (.ref ld), some (.ref lw), some (.int (p : Int)), some (.int (k : Int)), some (.ref W), some (.ref pr), v8, none, none] (upd H6 W (.lst (ns.map V.int))) := fun z => by
    obtain ⟨hcu, hTc⟩ := ends_ z
    have ret : ∀ ms : List Int, ms.length ≤ 100 → (∀ x ∈ ms, (u : Int) ≤ x) → (u : Int) ∈ ms → u3t1 { nx := u4 { nx := fun x H' => Q V.non H', rt := Q }, rt := Q } [some (.ref lt), some (.ref la), some (.ref ld), some (.ref lw), some (.int (p : Int)), some (.int (k : Int)), some (.ref W), some (.ref pr), v8, none, none] (upd H6 W (.lst (ms.map V.int))) := fun ms ml m1 m2 => by
      refine by_eq e3t1 ?_
      exact ⟨_, rfl, q W ms _ (s6.upd_new hW) upd_same (by (first | lia | omega)) m1 m2⟩
    refine by_eq e3t0 ?_
    have got : k ∉ fm.ends → (u : Int) ∈ ns := fun hne => by
      rcases res.got ok hcu with h | ⟨q1, h1, h2, x, y, h3, h4, h5⟩
      · exact absurd h hne
      · rw [h5]
        refine hin q1 ((akm q1).mpr ⟨List.mem_filter.mpr ⟨h1, ?_⟩, h2⟩) x y h3 (by rw [hTc]; exact h4)
        show ((at_ c q1.i).isSome && (at_ c q1.r).isSome) = true
        rw [h3, h4]
        rfl
    refine ⟨_, rfl, _, rfl, la, _, 2, _, rfl, rfl, SqT.of (tupn _ (s6 _ _ ea)), rfl, f2, _, rfl, .inr (SqT.of (tupn _ (s6 _ _ ee))), rfl, flat_nats _, _, rfl, ?_⟩
    show if inV (V.int (k : Int)) (fm.ends.map fun e : Nat => V.int (e : Int)) = true then _ else _
    rw [in_nats]
    refine ite2 (fun c0 => ?_) (fun c0 => ?_)
    · have he : k ∈ fm.ends := of_decide_eq_true c0
      have u0 : u = 0 := by
        have := (res.inv ok).zero k he
        rw [hcu] at this
        injection this
      refine ⟨_, rfl, .inl ⟨rfl, _, SqL.of upd_same⟩, W, _, _, rfl, rfl, upd_same, len1000' (by rw [List.length_map]; (first | lia | omega)), ?_⟩
      rw [upd_upd, show ns.map V.int ++ [V.int 0] = (ns ++ [0]).map V.int by rw [List.map_append]; rfl]
      refine ret (ns ++ [0]) (by rw [List.length_append, List.length_singleton]; (first | lia | omega)) (le_snoc hle (by (first | lia | omega))) ?_
      rw [u0]
      exact mem_last
    · exact ret ns (by (first | lia | omega)) hle (got fun z => c0 (decide_eq_true z))
  by_cases hnil : atG g p = .nil
  · refine by_eq e3 ?_
    refine ⟨_, rfl, _, rfl, lw, _, rfl, .inl (SqL.of (upn _ hS6.ww lwW)), rfl, _, rfl, ite2 (fun c0 => ?_) (fun c0 => ?_)⟩
    · exact iteT (fin0 hnil)
    · have hlt : p < 2 * gsz g := by
        rcases Nat.lt_or_ge p (2 * gsz g) with z | z
        · exact z
        · refine absurd (decide_eq_true ?_) c0
          rw [lg, show p = 2 * gsz g by (first | lia | omega)]
      have hw0 := no_tag g p hlt hnil
      refine ⟨_, rfl, _, rfl, lw, _, _, _, rfl, rfl, SqL.of (upn _ hS6.ww lwW), atI_nat (by rw [List.getElem?_map, hw0]; rfl), rfl, _, rfl, ite2 (fun _ => fin0 hnil) (fun z => absurd (decide_eq_true rfl) z)⟩
  have hcg : Can SL 0 (words SL g) := by
    have := can_words (n := 0) (ws := []) hS.cl rfl
    rwa [List.append_nil] at this
  have hng : ((prs 0 g).map (·.1)).Nodup := by
    have := (cst_ok hcg _ (Nat.le_refl _)).nd
    rw [cst_all hS.cl] at this
    exact (List.nodup_append.mp this).2.1
  rcases cl_at hng hp with ⟨_, z⟩ | ⟨e, t, wg, og, _, hpe, a1, a2, a3, a4, a5, a6⟩
  · exact absurd z hnil
  clear fin0 ends_
  have tns : t ≠ SL := by
    have : Clean SL (atG g p) := clean_at g p hS.cl
    rw [a1] at this
    exact this.1
  have wat : atI ((words SL g).map V.str) (p : Int) = some (.str t) := atI_nat (by rw [List.getElem?_map, a5]; rfl)
  refine by_eq e3 ?_
  refine ⟨_, rfl, _, rfl, lw, _, rfl, .inl (SqL.of (upn _ hS6.ww lwW)), rfl, _, rfl, ite2 (fun c0 => ?_) (fun c0 => ?_)⟩
  · have := of_decide_eq_true c0
    injection this with this
    rw [lg] at this
    (first | lia | omega)
  refine ⟨_, rfl, _, rfl, lw, _, _, _, rfl, rfl, SqL.of (upn _ hS6.ww lwW), wat, rfl, _, rfl, ite2 (fun z => absurd (of_decide_eq_true z) (fun y => tns (by injection y))) (fun _ => ?_)⟩
  show u4 _ _ _
  refine by_eq e4 ?_
  refine ⟨_, rfl, _, rfl, lw, g, p, e, rfl, upn _ hS6.ww lwW, hS.cl, hpe, ?_⟩
  show u5 _ _ _
  obtain ⟨ro, ro1, ro2, ro3⟩ := hS6.tb.at1 (i := e + 1) (by (first | lia | omega))
  obtain ⟨rw_, rw1, rw2, rw3⟩ := hS6.tb.at1 (i := p + 1) (by (first | lia | omega))
  rw [a4] at ro3
  rw [a3] at rw3
  rw [a1] at hT
  obtain ⟨lw_, dw⟩ := PR_dom alk wg
  obtain ⟨lo, do_⟩ := PR_dom alk og
  obtain ⟨pcut, pkp, pput, pgot⟩ : (∀ k u v, at_ T k = some u → at_ (PR c (alive c fm.rules) og) k = some v → u ≤ 1 + gsz wg + v) ∧ (∀ q ∈ alive c fm.rules, ∀ u, at_ T q.k = some u → u ≤ keepV t (PR c (alive c fm.rules) wg) (PR c (alive c fm.rules) og) q) ∧ True ∧ (∀ k u, at_ T k = some u → (∃ v, at_ (PR c (alive c fm.rules) og) k = some v ∧ u = 1 + gsz wg + v) ∨ (∃ q ∈ alive c fm.rules, q.k = k ∧ u = keepV t (PR c (alive c fm.rules) wg) (PR c (alive c fm.rules) og) q) ∨ ∃ q ∈ alive c fm.rules, q.k = k ∧ ∃ x y, at_ c q.i = some x ∧ at_ T q.r = some y ∧ u = 1 + x + y) := by
    rw [← hT]
    have pc := PR_cons alk t wg og
    exact ⟨pc.cut, pc.kp, trivial, pc.got⟩
  obtain ⟨vo, hvo⟩ : ∃ v, at_ (PR c (alive c fm.rules) og) k = some v := Option.isSome_iff_exists.mp (by rw [do_, ← td, hu_]; rfl)
  have te : ((e : Int) + 1 - (p : Int)) / 2 = ((1 + gsz wg : Nat) : Int) := by (first | lia | omega)
  refine by_eq e5 ?_
  refine ⟨_, rfl, .inl ⟨rfl, _, SqL.of upd_same⟩, _, rfl, _, _, rfl, rfl, _, rfl, _, _, rfl, rfl, _, _, rfl, rfl, ⟨by decide, by decide⟩, _, rfl, _, rfl, _, _, rfl, rfl, lt, _, _, _, rfl, rfl, SqL.of (upn _ hS6.tb.hL ltW), ro2, _, rfl, ro, _, _, _, rfl, rfl, SqL.of (upn _ ro3 (rowW ro1)), at_some (by rw [lo]; exact hk) hvo, _, _, rfl, rfl, ?_⟩
  refine ⟨W, _, _, rfl, rfl, upd_same, len1000' (by rw [List.length_map]; (first | lia | omega)), ?_⟩
  show u6 _ _ _
  refine by_eq e6 ?_
  have hv0 : ((e : Int) + 1 - (p : Int)) / 2 + (vo : Int) = ((1 + gsz wg + vo : Nat) : Int) := by (first | lia | omega)
  have le1 := le_snoc (y := ((1 + gsz wg + vo : Nat) : Int)) hle (by have := pcut k u vo hu_ hvo; (first | lia | omega))
  have hW9 : (upd (upd H6 W (.lst (ns.map V.int))) W (.lst (ns.map V.int ++ [.int (((e : Int) + 1 - (p : Int)) / 2 + (vo : Int))]))) = upd H6 W (.lst ((ns ++ [((1 + gsz wg + vo : Nat) : Int)]).map V.int)) := by
    rw [upd_upd, hv0, List.map_append]
    rfl
  refine ⟨_, rfl, pr, rfl, ⟨_, SqL.of (by rw [upd_upd]; exact upn _ hpr6 npW)⟩, for_list (K := K) (a := pr) (xs := as.map V.ref) (fun j σ H7 => ∃ (v8 v10 : Option V) (ms : List Int), σ = [some (.ref lt), some (.ref la), some (.ref ld), some (.ref lw), some (.int (p : Int)), some (.int (k : Int)), some (.ref W), some (.ref pr), v8, some (.int (e : Int)), v10] ∧ H7 = upd H6 W (.lst (ms.map V.int)) ∧ ms.length ≤ 41 + j ∧ (∀ x ∈ ms, (u : Int) ≤ x) ∧ (∀ x ∈ ns ++ [((1 + gsz wg + vo : Nat) : Int)], x ∈ ms) ∧ ∀ q ∈ ak.take j, ((keepV t (PR c (alive c fm.rules) wg) (PR c (alive c fm.rules) og) q : Nat) : Int) ∈ ms)
    ⟨v8, none, _, rfl, hW9, by rw [List.length_append, List.length_singleton]; (first | lia | omega), le1, fun _ h => h, fun q hq => by simp at hq⟩ ?_ ?_ ?_⟩
  · rintro j σ H7 _ ⟨_, _, _, _, rfl, _⟩
    exact SqL.of (upn _ hpr6 npW)
  · rintro j x σ H7 hx ⟨v8, v10, ms, rfl, rfl, hml, hle2, hall, hin2⟩
    rw [List.getElem?_map] at hx
    obtain ⟨pq, hpq, rfl⟩ := Option.map_eq_some_iff.mp hx
    obtain ⟨q1, hq1⟩ : ∃ q1, ak[j]? = some q1 := ⟨_, List.getElem?_eq_getElem (by have := (List.getElem?_eq_some_iff.mp hpq).1; have := hz6.1; (first | lia | omega))⟩
    obtain ⟨qa, qk⟩ := (akm q1).mp (List.mem_of_getElem? hq1)
    obtain ⟨b1, b2, b3⟩ := alk.kd q1 qa
    obtain ⟨l1, l2, l3⟩ := alk.lv q1 qa
    obtain ⟨xw, hxw⟩ := Option.isSome_iff_exists.mp ((dw q1.i).trans l2)
    obtain ⟨yo, hyo⟩ := Option.isSome_iff_exists.mp ((do_ q1.r).trans l3)
    have hq4 := hz6.2 j pq q1 hpq hq1
    have jl := (List.getElem?_eq_some_iff.mp hq1).1
    refine by_eq e6_0 ?_
    refine ⟨_, rfl, _, rfl, _, _, rfl, rfl, lt, _, _, _, rfl, rfl, SqL.of (upn _ hS6.tb.hL ltW), rw2, _, rfl, pq, _, 2, _, rfl, rfl, SqT.of (tupn _ hq4), rfl, rw_, _, _, _, rfl, rfl, SqL.of (upn _ rw3 (rowW rw1)), at_some (by rw [lw_]; exact b2) hxw, ?_⟩
    refine ⟨_, rfl, _, rfl, _, _, rfl, rfl, lt, _, _, _, rfl, rfl, SqL.of (upn _ hS6.tb.hL ltW), ro2, _, rfl, pq, _, 3, _, rfl, rfl, SqT.of (tupn _ hq4), rfl, ro, _, _, _, rfl, rfl, SqL.of (upn _ ro3 (rowW ro1)), at_some (by rw [lo]; exact b3) hyo, _, _, rfl, rfl, ?_⟩
    show u6_1 _ _ _
    refine by_eq e6_1 ?_
    refine ⟨_, rfl, .inl ⟨rfl, _, SqL.of upd_same⟩, _, rfl, pq, _, 1, _, rfl, rfl, SqT.of (tupn _ hq4), rfl, _, rfl, _, rfl, lw, _, _, _, rfl, rfl, SqL.of (upn _ hS6.ww lwW), wat, rfl, _, rfl, _, rfl, _, _, rfl, rfl, ?_⟩
    refine ⟨W, _, _, rfl, rfl, upd_same, len1000' (by rw [List.length_map]; (first | lia | omega)), ?_⟩
    have ev : keepV t (PR c (alive c fm.rules) wg) (PR c (alive c fm.rules) og) q1 = (if t = q1.t then 0 else 1) + xw + yo := by
      unfold keepV
      rw [hxw, hyo]
      rfl
    have hv : ((if (!decide (V.str q1.t = V.str t)) = true then (1 : Int) else 0) + ((xw : Int) + (yo : Int))) = ((keepV t (PR c (alive c fm.rules) wg) (PR c (alive c fm.rules) og) q1 : Nat) : Int) := by
      rw [ev]
      by_cases ct : t = q1.t
      · rw [if_pos ct, ct]
        simp
      · rw [if_neg ct]
        have : ¬ (V.str q1.t = V.str t) := fun z => ct (by injection z with z; exact z.symm)
        rw [decide_eq_false this]
        simp only [Bool.not_false, if_true]
        (first | lia | omega)
    refine ⟨_, _, ms ++ [((keepV t (PR c (alive c fm.rules) wg) (PR c (alive c fm.rules) og) q1 : Nat) : Int)], rfl, by rw [upd_upd, List.map_append, ← hv]; rfl, by rw [List.length_append, List.length_singleton]; (first | lia | omega), le_snoc hle2 ?_, fun x hx => mem_snoc (hall x hx), fun q hq => ?_⟩
    · have := pkp q1 qa u (by rw [qk]; exact hu_)
      (first | lia | omega)
    · rw [take_succ' hq1] at hq
      rcases List.mem_append.mp hq with hq | hq
      · exact mem_snoc (hin2 q hq)
      · rw [List.mem_singleton.mp hq]
        exact mem_last
  rintro σ H7 ⟨v8, v10, ms, rfl, rfl, hml, hle2, hall, hin2⟩
  rw [List.length_map, hz6.1] at hml
  rw [List.length_map, hz6.1, List.take_length] at hin2
  refine by_eq e7 ?_
  refine ⟨_, rfl, q W ms _ (s6.upd_new hW) upd_same (by (first | lia | omega)) hle2 ?_⟩
  rcases pgot k u hu_ with ⟨v, h1, h2⟩ | ⟨q1, h1, h2, h3⟩ | ⟨q1, h1, h2, x, y, h3, h4, h5⟩
  · rw [hvo] at h1
    injection h1 with h1
    rw [h2, ← h1]
    exact hall _ mem_last
  · rw [h3]
    exact hin2 q1 ((akm q1).mpr ⟨h1, h2⟩)
  · rw [h5]
    exact hall _ (mem_snoc (hin q1 ((akm q1).mpr ⟨h1, h2⟩) x y h3 h4))
def spSheet (K : PySem.W.Frag) : Sp := fun vs H Q _ => ∃ (lt la ld lw : Addr) (fm : Fm) (g : Gr Str) (c : Cs) (rs : List Addr) (kvs : List (Key × V)), vs = [.ref lt, .ref lw, .ref la, .ref ld] ∧ Sht H fm g c lt la ld lw rs kvs ∧ ∀ H', Same H H' → Q (.bl true) H'
set_option maxHeartbeats 4000000 in
theorem ok_l_is_sheet (B : ∀ x ∈ blts, mg x = none) (F : Fun K "_law_is_sheet" "_law_is_sheet" s_l_is_sheet f fd) : FnOk P w K mg base CX0 1 f fd ["_law_told", "_law_words_here", "_law_form_told", "_law_many"] (spSheet K) := by
  refine F.ok sc_l_is_sheet (fun vs H Q E h => ?_) (fun cdv A outer s H vs Q E hr h => ?_)
  · obtain ⟨lt, la, ld, lw, fm, g, c, rs, kvs, rfl, _⟩ := h
    rfl
  obtain ⟨lt, la, ld, lw, fm, g, c, rs, kvs, rfl, hS, q⟩ := h
  have hu := hu_room hr
  have hu1 : (A.deeper (PyProof.Rows.envOfC (Str.ofString "_law_is_sheet") (defScope s_l_is_sheet) s.heap.objs.size f cdv)).units + 1 < cLine := by have := hr.un; (first | lia | omega)
  have gw := gsz_words g
  have rl := hS.rl
  have n24 := hS.n24
  have alk := alive_ok hS.form.ok hS.res
  obtain ⟨f1, f2, f3, qs, ea, ee, hRq, hRl, hRt⟩ := hS.form.ex
  have S0 : Same H H := fun _ _ e => e
  refine hideI ((defBody s_l_is_sheet).drop 2) (pss_one (ps_ret pe_bl)) (fun u2 h2 e2 => ?_)
  refine hideI ((sBody ((sBody ((sBody ((defBody s_l_is_sheet).getD 1 (.Pass ⟨0, 0, 0, 0⟩))).getD 1 (.Pass ⟨0, 0, 0, 0⟩))).getD 0 (.Pass ⟨0, 0, 0, 0⟩))).drop 0) (pss_one (ps_if (PW.pt (pw_or (pt_not (pt_truth (pe_callB call_isinst rfl (B "isinstance" (by decide)) bt_isinstance (pa_cons (pe_ix ix_list (pv 4) (pv 5) (fun _ _ => rfl)) (pa_cons (pe_ty rfl (B "int" (by decide)) bt_int) pa_nil))) (fun _ => rfl))) (pw_or1 (pt_truth (pe_callB call_isinst rfl (B "isinstance" (by decide)) bt_isinstance (pa_cons (pe_ix ix_list (pv 4) (pv 5) (fun _ _ => rfl)) (pa_cons (pe_ty rfl (B "bool" (by decide)) bt_bool) pa_nil))) (fun _ => rfl)))))
      (pss_one (ps_ret pe_bl))
      pss_nil)) (fun u1_1_0t0 h1_1_0t0 e1_1_0t0 => ?_)
  refine hideI ((sElse ((sBody ((sBody ((defBody s_l_is_sheet).getD 1 (.Pass ⟨0, 0, 0, 0⟩))).getD 1 (.Pass ⟨0, 0, 0, 0⟩))).getD 0 (.Pass ⟨0, 0, 0, 0⟩))).drop 0) (pss_one (ps_if (pt_cmpR op_notN (pe_ix ix_list (pv 4) (pv 5) (fun _ _ => rfl)) pe_non (nomark _))
      (pss_one (ps_ret pe_bl))
      pss_nil)) (fun u1_1_0e0 h1_1_0e0 e1_1_0e0 => ?_)
  refine hideI ((sBody ((sBody ((defBody s_l_is_sheet).getD 1 (.Pass ⟨0, 0, 0, 0⟩))).getD 1 (.Pass ⟨0, 0, 0, 0⟩))).drop 0) (pss_one (ps_if (pt_cmp (pc_din hu1 (pv 5) (pv 3)))
      h1_1_0t0
      h1_1_0e0)) (fun u1_1_0 h1_1_0 e1_1_0 => ?_)
  refine hideI ((sBody ((defBody s_l_is_sheet).getD 1 (.Pass ⟨0, 0, 0, 0⟩))).drop 1) (pss_one (ps_for PassesOwn.never rfl (pi_range1 rfl (B "range" (by decide)) (pa_cons (pe_ix ix_tup (pv 2) pe_int (fun _ _ => rfl)) pa_nil)) (pg_name (i := 5) sc_l_is_sheet.nd rfl (Or.inl rfl))
      h1_1_0)) (fun u1_1 h1_1 e1_1 => ?_)
  refine hideI ((sBody ((defBody s_l_is_sheet).getD 1 (.Pass ⟨0, 0, 0, 0⟩))).drop 0) (pss_cons (ps_if (PW.pt (pw_or (pt_not (pt_truth (pe_callB call_isinst rfl (B "isinstance" (by decide)) bt_isinstance (pa_cons (pv 4) (pa_cons (pe_ty rfl (B "list" (by decide)) bt_list) pa_nil))) (fun _ => rfl))) (pw_or1 (pt_cmpR op_ne (pe_callB call_len_seq rfl (B "len" (by decide)) PySem.boot_len (pa_cons (pv 4) pa_nil)) (pe_ix ix_tup (pv 2) pe_int (fun _ _ => rfl)) (nomark _)))))
      (pss_one (ps_ret pe_bl))
      pss_nil) h1_1) (fun u1_0 h1_0 e1_0 => ?_)
  refine hideI ((defBody s_l_is_sheet).drop 1) (pss_cons (ps_for PassesOwn.never rfl (pi_list (pv 0)) (pg_name (i := 4) sc_l_is_sheet.nd rfl (Or.inl rfl))
      h1_0) h2) (fun u1 h1 e1 => ?_)
  refine hideI ((defBody s_l_is_sheet).drop 0) (pss_cons (ps_if (PW.pt (pw_or (pt_not (pt_truth (pe_callB call_isinst rfl (B "isinstance" (by decide)) bt_isinstance (pa_cons (pv 0) (pa_cons (pe_ty rfl (B "list" (by decide)) bt_list) pa_nil))) (fun _ => rfl))) (pw_or1 (pt_cmpR op_ne (pe_callB call_len_seq rfl (B "len" (by decide)) PySem.boot_len (pa_cons (pv 0) pa_nil)) (pe_op op_add (pe_callB call_len_seq rfl (B "len" (by decide)) PySem.boot_len (pa_cons (pv 1) pa_nil)) pe_int) (nomark _)))))
      (pss_one (ps_ret pe_bl))
      pss_nil) h1) (fun u0 h0 e0 => ?_)
  refine ⟨u0, h0, ?_⟩
  refine by_eq e0 ?_
  refine ⟨_, rfl, .ref lt, "list", .type "list", true, rfl, .lst hS.tb.hL, rfl, true, rfl, iteF ?_⟩
  refine ⟨_, rfl, lt, _, rfl, .inl (SqL.of hS.tb.hL), _, rfl, lw, _, rfl, .inl (SqL.of hS.ww), _, _, rfl, rfl, rfl, _, rfl, ite2 (fun z => ?_) (fun _ => ?_)⟩
  · exfalso
    rw [decide_eq_true (by rw [List.length_map, List.length_map, rl, gw]; rfl)] at z
    exact absurd z (by decide)
  show u1 _ _ _
  refine by_eq e1 ?_
  refine ⟨_, rfl, lt, rfl, ⟨_, SqL.of hS.tb.hL⟩, for_list (K := K) (a := lt) (xs := rs.map V.ref) (fun i σ H1 => ∃ (v4 v5 : Option V), σ = [some (.ref lt), some (.ref lw), some (.ref la), some (.ref ld), v4, v5] ∧ H1 = H)
    ⟨none, none, rfl, rfl⟩ ?_ ?_ ?_⟩
  · rintro i σ H1 _ ⟨_, _, _, rfl⟩
    exact SqL.of hS.tb.hL
  · rintro i x σ H1 hx ⟨v4, v5, rfl, rfl⟩
    rw [List.getElem?_map] at hx
    obtain ⟨r, hr0, rfl⟩ := Option.map_eq_some_iff.mp hx
    have hrow := hS.tb.row i r hr0
    obtain ⟨tl, td⟩ := PR_dom alk (atG g i)
    have hrow : H1 r = some (.lst ((PR c (alive c fm.rules) (atG g i)).map cV)) := hrow
    generalize PR c (alive c fm.rules) (atG g i) = T at hrow tl td
    refine by_eq e1_0 ?_
    refine ⟨_, rfl, .ref r, "list", .type "list", true, rfl, .lst hrow, rfl, true, rfl, iteF ?_⟩
    refine ⟨_, rfl, r, _, rfl, .inl (SqL.of hrow), _, rfl, la, _, 0, _, rfl, rfl, SqT.of ea, rfl, rfl, _, rfl, ite2 (fun z => ?_) (fun _ => ?_)⟩
    · exfalso
      rw [decide_eq_true (by rw [List.length_map, tl])] at z
      exact absurd z (by decide)
    show u1_1 _ _ _
    refine by_eq e1_1 ?_
    refine ⟨_, rfl, la, _, 0, _, rfl, rfl, SqT.of ea, rfl, _, rfl, by (first | lia | omega), by (first | lia | omega), for_range (lo := 0) (n := (fm.n : Int).toNat) (fun k σ H2 => ∃ (v5 : Option V), σ = [some (.ref lt), some (.ref lw), some (.ref la), some (.ref ld), some (.ref r), v5] ∧ H2 = H1)
      ⟨_, rfl, rfl⟩ ?_ ?_⟩
    · rintro k σ H2 hk ⟨v5, rfl, rfl⟩
      have hkn : k < fm.n := by (first | lia | omega)
      have kz : V.int (0 + (k : Int)) = V.int (k : Int) := by rw [Int.zero_add]
      refine by_eq e1_1_0 ?_
      have gt := hS.fc.get hkn hS.dd
      rw [← Int.zero_add (k : Int)] at gt
      have at0 : atI (T.map cV) (0 + (k : Int)) = some (cV (at_ T k)) := by
        rw [Int.zero_add]
        exact cV_at (by rw [tl]; exact hkn)
      refine ⟨_, rfl, _, rfl, ld, _, rfl, gt, _, rfl, ?_⟩
      have tdk := td k
      cases hc : at_ c k with
      | none =>
        rw [hc] at tdk
        have hT : at_ T k = none := by
          cases e : at_ T k with
          | none => rfl
          | some z => rw [e] at tdk; cases tdk
        rw [hT] at at0
        refine iteF ?_
        refine by_eq e1_1_0e0 ?_
        refine ⟨_, rfl, _, rfl, r, _, _, _, rfl, rfl, SqL.of hrow, at0, rfl, _, rfl, iteF ?_⟩
        exact ⟨_, rfl, rfl⟩
      | some d =>
        rw [hc] at tdk
        obtain ⟨z, hz⟩ := Option.isSome_iff_exists.mp tdk
        rw [hz] at at0
        refine iteT ?_
        refine by_eq e1_1_0t0 ?_
        refine ⟨_, rfl, _, rfl, r, _, _, _, rfl, rfl, SqL.of hrow, at0, .int (z : Int), "int", .type "int", true, rfl, .int _, rfl, true, rfl, iteF ?_⟩
        refine ⟨_, rfl, _, rfl, r, _, _, _, rfl, rfl, SqL.of hrow, at0, .int (z : Int), "bool", .type "int", false, rfl, .int _, rfl, false, rfl, iteF ?_⟩
        exact ⟨_, rfl, rfl⟩
    · rintro σ H2 ⟨v5, rfl, rfl⟩
      exact ⟨_, _, rfl, rfl⟩
  · rintro σ H1 ⟨v4, v5, rfl, rfl⟩
    refine by_eq e2 ?_
    exact q _ S0
def spHolds (K : PySem.W.Frag) : Sp := fun vs H Q _ => ∃ (lt la ld lw : Addr) (fm : Fm) (g : Gr Str) (c : Cs) (rs : List Addr) (kvs : List (Key × V)), vs = [.ref lt, .ref lw, .ref la, .ref ld] ∧ Sht H fm g c lt la ld lw rs kvs ∧ ∀ H', Same H H' → Q (.bl true) H'
set_option maxHeartbeats 4000000 in
theorem ok_l_holds (B : ∀ x ∈ blts, mg x = none) (g_l_is_sheet : Has P w K mg base "_law_is_sheet" ["_law_told", "_law_words_here", "_law_form_told", "_law_many"] 1 (spSheet K)) (g_l_ways : Has P w K mg base "_law_ways" ["_law_told", "_law_form_told", "_law_many", "_law_words_here", "_law_place", "_law_kind"] 2 (spWays K)) (F : Fun K "_law_holds" "_law_holds" s_l_holds f fd) : FnOk P w K mg base CX0 3 f fd ["_law_told", "_law_words_here", "_law_form_told", "_law_many"] (spHolds K) := by
  refine F.ok sc_l_holds (fun vs H Q E h => ?_) (fun cdv A outer s H vs Q E hr h => ?_)
  · obtain ⟨lt, la, ld, lw, fm, g, c, rs, kvs, rfl, _⟩ := h
    rfl
  obtain ⟨lt, la, ld, lw, fm, g, c, rs, kvs, rfl, hS, q⟩ := h
  have hu := hu_room hr
  have gw := gsz_words g
  have rl := hS.rl
  have g30 := hS.g30
  have n24 := hS.n24
  have alk := alive_ok hS.form.ok hS.res
  have lg : (((words SL g).map V.str).length : Int) = ((2 * gsz g : Nat) : Int) := by rw [List.length_map, gw]
  refine hideI ((defBody s_l_holds).drop 2) (pss_one (ps_ret pe_bl)) (fun u2 h2 e2 => ?_)
  refine hideI ((sBody ((sBody ((defBody s_l_holds).getD 1 (.Pass ⟨0, 0, 0, 0⟩))).getD 0 (.Pass ⟨0, 0, 0, 0⟩))).drop 0) (pss_one (ps_if (pt_cmpR op_ne (pe_ix ix_list (pe_ix ix_list (pv 0) (pv 4) (fun _ _ => rfl)) (pv 5) (fun _ _ => rfl)) (pe_callB (call_minL rfl) rfl (B "min" (by decide)) bt_min (pa_cons (pe_has g_l_ways hr rfl (pa_cons (pv 0) (pa_cons (pv 2) (pa_cons (pv 3) (pa_cons (pv 1) (pa_cons (pv 4) (pa_cons (pv 5) pa_nil))))))) pa_nil)) (nomark _))
      (pss_one (ps_ret pe_bl))
      pss_nil)) (fun u1_0_0 h1_0_0 e1_0_0 => ?_)
  refine hideI ((sBody ((defBody s_l_holds).getD 1 (.Pass ⟨0, 0, 0, 0⟩))).drop 0) (pss_one (ps_for PassesOwn.never rfl (pi_list (pe_callB (call_sorted_dK rfl) rfl (B "sorted" (by decide)) bt_sorted (pa_cons (pv 3) pa_nil))) (pg_name (i := 5) sc_l_holds.nd rfl (Or.inl rfl))
      h1_0_0)) (fun u1_0 h1_0 e1_0 => ?_)
  refine hideI ((defBody s_l_holds).drop 1) (pss_cons (ps_for PassesOwn.never rfl (pi_range1 rfl (B "range" (by decide)) (pa_cons (pe_op op_add (pe_callB call_len_seq rfl (B "len" (by decide)) PySem.boot_len (pa_cons (pv 1) pa_nil)) pe_int) pa_nil)) (pg_name (i := 4) sc_l_holds.nd rfl (Or.inl rfl))
      h1_0) h2) (fun u1 h1 e1 => ?_)
  refine hideI ((defBody s_l_holds).drop 0) (pss_cons (ps_if (pt_not (pt_truth (pe_has g_l_is_sheet hr rfl (pa_cons (pv 0) (pa_cons (pv 1) (pa_cons (pv 2) (pa_cons (pv 3) pa_nil))))) (fun _ => rfl)))
      (pss_one (ps_ret pe_bl))
      pss_nil) h1) (fun u0 h0 e0 => ?_)
  refine ⟨u0, h0, ?_⟩
  refine by_eq e0 ?_
  refine ⟨_, rfl, _, rfl, _, rfl, _, rfl, lt, la, ld, lw, fm, g, c, rs, kvs, rfl, hS, fun H1 s1 => ⟨true, rfl, iteF ?_⟩⟩
  show u1 _ _ _
  refine by_eq e1 ?_
  have hS1 := hS.same s1
  refine ⟨_, rfl, lw, _, rfl, .inl (SqL.of hS1.ww), _, _, rfl, rfl, ((2 * gsz g + 1 : Nat) : Int), congrArg (fun z => [V.int z]) (by rw [lg]; rfl), by (first | lia | omega), by (first | lia | omega), for_range (lo := 0) (n := (((2 * gsz g + 1 : Nat) : Int)).toNat) (fun i σ H2 => ∃ (v4 v5 : Option V), σ = [some (.ref lt), some (.ref lw), some (.ref la), some (.ref ld), v4, v5] ∧ Same H H2)
    ⟨none, none, rfl, s1⟩ ?_ ?_⟩
  · rintro i σ H2 hi ⟨v4, v5, rfl, s2⟩
    have hS2 := hS.same s2
    have hip : i ≤ 2 * gsz g := by (first | lia | omega)
    refine by_eq e1_0 ?_
    obtain ⟨⟨ns, kn1, kn2, kn3⟩, _⟩ := hS.fc
    have kl := hS.fc.len
    refine ⟨_, rfl, ld, kvs, ns.map fun k : Nat => (k : Int), rfl, hS2.dd, by (first | lia | omega), by rw [kn1, List.map_map]; rfl, fun M ms hM hperm hpw => ?_⟩
    have k3 : Same H2 (upd H2 M (.lst (ms.map V.int))) := Same.new hM
    have hM3 : (upd H2 M (.lst (ms.map V.int))) M = some (.lst (ms.map V.int)) := upd_same
    generalize upd H2 M (.lst (ms.map V.int)) = H3 at k3 hM3 ⊢
    refine ⟨M, rfl, ⟨_, SqL.of hM3⟩, for_list (K := K) (a := M) (xs := ms.map V.int) (fun j σ H4 => ∃ (v5 : Option V), σ = [some (.ref lt), some (.ref lw), some (.ref la), some (.ref ld), some (.int (0 + (i : Int))), v5] ∧ Same H3 H4)
      ⟨_, rfl, fun _ _ e => e⟩ ?_ ?_ ?_⟩
    · rintro j σ H4 _ ⟨_, _, s4⟩
      exact SqL.of (s4 _ _ hM3)
    · rintro j x σ H4 hx ⟨v5, rfl, s4⟩
      rw [List.getElem?_map] at hx
      obtain ⟨xk, hxk, rfl⟩ := Option.map_eq_some_iff.mp hx
      obtain ⟨k, hk, rfl⟩ := List.mem_map.mp (hperm.mem_iff.mp (List.mem_of_getElem? hxk))
      have hkn := kn2 k hk
      have S4 := s2.trans (k3.trans s4)
      have hS4 := hS.same S4
      obtain ⟨rp, rp1, rp2, rp3⟩ := hS4.tb.at1 (i := i) (by (first | lia | omega))
      obtain ⟨tl, td⟩ := PR_dom alk (atG g i)
      have lv : (at_ c k).isSome = true := by
        have := hS.fc.2 k hkn
        cases e : at_ c k with
        | some z => rfl
        | none =>
          rw [e] at this
          have h2 := DI.has (m := kvs) (ns := ns.map fun k : Nat => (k : Int)) (by rw [kn1, List.map_map]; rfl) (k : Int)
          rw [this, decide_eq_true (List.mem_map.mpr ⟨k, hk, rfl⟩)] at h2
          cases h2
      obtain ⟨u, hu_⟩ := Option.isSome_iff_exists.mp ((td k).trans lv)
      have rp2 : atI (rs.map V.ref) (0 + (i : Int)) = some (.ref rp) := by rw [Int.zero_add]; exact rp2
      refine by_eq e1_0_0 ?_
      refine ⟨_, rfl, _, rfl, lt, _, _, _, rfl, rfl, SqL.of hS4.tb.hL, rp2, _, rfl, rp, _, _, _, rfl, rfl, SqL.of rp3, at_some (by rw [tl]; exact hkn) hu_, ?_⟩
      refine ⟨_, rfl, _, rfl, _, rfl, _, rfl, _, rfl, _, rfl, lt, la, ld, lw, i, k, u, fm, g, c, rs, kvs, congrArg (fun z => [V.ref lt, V.ref la, V.ref ld, V.ref lw, V.int z, V.int (k : Int)]) (Int.zero_add (i : Int)), hS4, hip, hkn, hu_, fun r ws H5 s5 hr5 hwl hle hin => ?_⟩
      refine ⟨r, ws, rfl, SqL.of hr5, List.length_pos_of_mem hin, fun m hm hmin => ?_⟩
      have em : m = (u : Int) := by
        have h1 := hle m hm
        have h2 := hmin _ hin
        (first | lia | omega)
      subst em
      refine ⟨rfl, _, rfl, ite2 (fun z => ?_) (fun _ => ?_)⟩
      · exfalso
        rw [decide_eq_true rfl] at z
        exact absurd z (by decide)
      · exact ⟨_, rfl, s4.trans s5⟩
    · rintro σ H4 ⟨v5, rfl, s4⟩
      exact ⟨_, _, rfl, s2.trans (k3.trans s4)⟩
  · rintro σ H2 ⟨v4, v5, rfl, s2⟩
    refine by_eq e2 ?_
    exact q _ s2
theorem cut_last (zs : List V) (b : V) : cutV (zs ++ [b]) none (some (-1)) = zs := by
  have e : HT.sIx (zs ++ [b]).length (zs ++ [b]).length (some (-1)) = zs.length := by
    show (if (-1 : Int) < 0 then ((-1 : Int) + ((zs ++ [b]).length : Int)).toNat else min (-1 : Int).toNat (zs ++ [b]).length) = _
    rw [if_pos (by decide), List.length_append, List.length_singleton]
    (first | lia | omega)
  unfold cutV
  rw [e, HT.sIx_none, List.drop_zero, Nat.sub_zero, List.take_append_of_le_length (Nat.le_refl _), List.take_length]
theorem Form.tk {H H' : Hp} {a : Addr} {f : Fm} (h : Form H a f) (s : TK H H') : Form H' a f := by
  obtain ⟨h1, h2, h3, qs, e1, e2, e3⟩ := h.ex
  exact ⟨h.ok, h1, h2, h3, qs, s _ _ e1, s _ _ e2, e3.keep fun b xs e => s _ _ e⟩
def oD : Option Nat → PyData
  | none => .none
  | some n => .int (n : Int)
theorem dp_cV {K : PySem.W.Frag} {H : Hp} : ∀ o, Dp K H (cV o) (oD o)
  | none => .non
  | some n => .int _
theorem dpAll_of {K : PySem.W.Frag} {H : Hp} : ∀ {vs : List V} {ds : List PyData}, vs.length = ds.length → (∀ (i : Nat) v d, vs[i]? = some v → ds[i]? = some d → Dp K H v d) → DpAll K H vs ds
  | [], [], _, _ => .nil
  | [], _ :: _, h, _ => nomatch h
  | _ :: _, [], h, _ => nomatch h
  | v :: vs, d :: ds, h, k => .cons (k 0 v d rfl rfl) (dpAll_of (Nat.succ.inj h) fun i v' d' h1 h2 => k (i + 1) v' d' h1 h2)
theorem dp_cs {K : PySem.W.Frag} {H : Hp} (cs : Cs) : DpAll K H (cs.map cV) (cs.map oD) := dpAll_of (by rw [List.length_map, List.length_map]) fun i v d h1 h2 => by
  rw [List.getElem?_map] at h1 h2
  obtain ⟨o, ho, rfl⟩ := Option.map_eq_some_iff.mp h1
  rw [ho] at h2
  injection h2 with h2
  subst h2
  exact dp_cV o
def rowD (cs : Cs) : PyData := .list (cs.map oD)
def tabD (f : Nat → Cs) (n : Nat) : PyData := .list ((List.range n).map fun i => rowD (f i))
theorem flatD : ∀ cs : Cs, PyData.canLayAll0 (cs.map oD) = true ∧ PyData.depthAll (cs.map oD) = 0
  | [] => ⟨rfl, rfl⟩
  | o :: cs => by
    obtain ⟨h1, h2⟩ := flatD cs
    refine ⟨?_, ?_⟩
    · show ((oD o).canLay0 && PyData.canLayAll0 (cs.map oD)) = true
      rw [h1]
      cases o <;> rfl
    · show max (oD o).depth (PyData.depthAll (cs.map oD)) = 0
      rw [h2]
      cases o <;> rfl
theorem rowsD (f : Nat → Cs) : ∀ l : List Nat, PyData.canLayAll0 (l.map fun i => rowD (f i)) = true ∧ PyData.depthAll (l.map fun i => rowD (f i)) ≤ 1
  | [] => ⟨rfl, Nat.zero_le _⟩
  | x :: l => by
    obtain ⟨h1, h2⟩ := rowsD f l
    obtain ⟨k1, k2⟩ := flatD (f x)
    refine ⟨?_, ?_⟩
    · show (PyData.canLayAll0 ((f x).map oD) && PyData.canLayAll0 (l.map fun i => rowD (f i))) = true
      rw [h1, k1]
      rfl
    · show max (PyData.depthAll ((f x).map oD) + 1) (PyData.depthAll (l.map fun i => rowD (f i))) ≤ 1
      rw [k2]
      (first | lia | omega)
theorem TbC.dp {K : PySem.W.Frag} {H : Hp} {L : Addr} {rs : List Addr} {f : Nat → Cs} (h : TbC H L rs f) : Dp K H (.ref L) (tabD f rs.length) := by
  refine .lst (SqL.of h.hL) (dpAll_of (by rw [List.length_map, List.length_map, List.length_range]) fun i v d h1 h2 => ?_)
  rw [List.getElem?_map] at h1 h2
  obtain ⟨r, hr, rfl⟩ := Option.map_eq_some_iff.mp h1
  have hi := (List.getElem?_eq_some_iff.mp hr).1
  rw [List.getElem?_range hi] at h2
  injection h2 with h2
  subst h2
  exact .lst (SqL.of (h.row i r hr)) (dp_cs _)
set_option maxHeartbeats 16000000 in
theorem ok_law (B : ∀ x ∈ blts, mg x = none) (g_l_pool : Has P w K mg base "_law_pool" ["_law_cell", "_law_many"] 2 spPoolV) (g_l_cell_at : Has P w K mg base "_law_cell_at" ["_law_script", "_law_k"] 1 (spCell K)) (g_l_form : Has P w K mg base "_law_form" ["_law_script", "_law_tags"] 2 (spForm85 K)) (g_l_grove : Has P w K mg base "_law_grove" ["_law_script", "_law_start", "_law_many", "_law_tags"] 2 (spGroveV K)) (g_l_words : Has P w K mg base "_law_words" ["_law_row"] 30 (spLWords 30)) (g_l_fewest : Has P w K mg base "_law_fewest" ["_law_form_told"] 1 (spLFew K)) (g_paper : Has P w K mg base "paper" ["form", "grove"] 4 (spPaper K)) (g_l_holds : Has P w K mg base "_law_holds" ["_law_told", "_law_words_here", "_law_form_told", "_law_many"] 3 (spHolds K)) (F : Fun K "law" "law" s_law f fd) : FnOk P w K mg base CX0 31 f fd ["_law_script"] (spLaw K) := by
  refine F.ok sc_law (fun vs H Q E h => ?_) (fun cdv A outer s H vs Q E hr h => ?_)
  · obtain ⟨a, ns, rfl, _⟩ := h
    rfl
  obtain ⟨a, ns, rfl, hS, h63, q⟩ := h
  have hu := hu_room hr
  refine hideI ((defBody s_law).drop 12) (pss_one (ps_ret (pe_cmpR (op_eqD hu) (pe_has g_paper hr rfl (pa_cons (pe_tup (pa_cons pe_int (pa_cons (pe_tup pa_nil) (pa_cons (pe_tup pa_nil) (pa_cons (pe_tup pa_nil) pa_nil))))) (pa_cons (pv 3) pa_nil))) (pe_comp (cl := []) ["_law_k"] [] (pi_range1 rfl (B "range" (by decide)) (pa_cons (pe_op op_add (pe_callB call_len_seq rfl (B "len" (by decide)) PySem.boot_len (pa_cons (pv 4) pa_nil)) pe_int) pa_nil)) (fun _ _ _ _ => (pg_name (i := 0) nd1 rfl (Or.inl rfl))) (fun _ _ _ _ => (pe_lst pa_nil)) rfl rfl (by decide) rfl (by decide) (fun _ _ h => nomatch h) (nofree (by decide)) (fun _ _ h => nomatch h) (fun _ => rfl)) (nomark _)))) (fun u12 h12 e12 => ?_)
  refine hideI ((defBody s_law).drop 11) (pss_cons (ps_if (PW.pt (pw_or (pt_cmpR (op_neD hu) (pv 8) (pv 7) (nomark _)) (pw_or1 (pt_cmpR (op_neD hu) (pe_slice sl_list (pv 6) po_none (po_some (pe_un un_neg pe_int))) (pe_op op_cat (pe_lst (pa_cons (pe_op op_cat (pe_ix ix_list (pv 7) pe_int (fun _ _ => rfl)) (pe_lst (pa_cons pe_int pa_nil))) pa_nil)) (pe_slice sl_list (pv 7) (po_some pe_int) po_none)) (nomark _)))))
      (pss_one (ps_ret pe_bl))
      pss_nil) h12) (fun u11 h11 e11 => ?_)
  refine hideI ((defBody s_law).drop 10) (pss_cons (ps_set (i := 8) sc_law.nd rfl (Or.inl rfl) (pe_has g_paper hr rfl (pa_cons (pv 2) (pa_cons (pv 3) pa_nil)))) h11) (fun u10 h10 e10 => ?_)
  refine hideI ((defBody s_law).drop 9) (pss_cons (ps_expr (pe_bm PySem.F.plainAttrs_list PySem.F.slot_list_append PySem.F.type_list_append mt_append (pv 6) (pa_cons (pe_lst pa_nil) pa_nil))) h10) (fun u9 h9 e9 => ?_)
  refine hideI ((defBody s_law).drop 8) (pss_cons (ps_expr (pe_bm PySem.F.plainAttrs_list PySem.F.slot_list_append PySem.F.type_list_append mt_append (pe_ix ix_list (pv 6) pe_int (fun _ _ => rfl)) (pa_cons pe_int pa_nil))) h9) (fun u8 h8 e8 => ?_)
  refine hideI ((defBody s_law).drop 7) (pss_cons (ps_set_comp (cl := []) (n0 := 7) sc_law.nd rfl (Or.inl rfl) ["_law_line"] [] (pi_list (pv 6)) (fun _ _ _ _ => (pg_name (i := 0) nd1 rfl (Or.inl rfl))) (fun _ _ _ _ => (pe_callTy (call_list_ofK (K := K) rfl) rfl (B "list" (by decide)) bt_list (pa_cons (pv 0) pa_nil))) rfl rfl (by decide) rfl (by decide) (fun _ _ h => nomatch h) (nofree (by decide)) (fun _ _ h => nomatch h) (fun _ => rfl) rfl) h8) (fun u7 h7 e7 => ?_)
  refine hideI ((defBody s_law).drop 6) (pss_cons (ps_if (pt_not (pt_truth (pe_has g_l_holds hr rfl (pa_cons (pv 6) (pa_cons (pv 4) (pa_cons (pv 2) (pa_cons (pv 5) pa_nil))))) (fun _ => rfl)))
      (pss_one (ps_ret pe_bl))
      pss_nil) h7) (fun u6 h6 e6 => ?_)
  refine hideI ((defBody s_law).drop 5) (pss_cons (ps_set (i := 6) sc_law.nd rfl (Or.inl rfl) (pe_has g_paper hr rfl (pa_cons (pv 2) (pa_cons (pv 3) pa_nil)))) h6) (fun u5 h5 e5 => ?_)
  refine hideI ((defBody s_law).drop 4) (pss_cons (ps_set (i := 5) sc_law.nd rfl (Or.inl rfl) (pe_has g_l_fewest hr rfl (pa_cons (pv 2) pa_nil))) h5) (fun u4 h4 e4 => ?_)
  refine hideI ((defBody s_law).drop 3) (pss_cons (ps_set (i := 4) sc_law.nd rfl (Or.inl rfl) (pe_has g_l_words hr rfl (pa_cons (pv 3) pa_nil))) h4) (fun u3 h3 e3 => ?_)
  refine hideI ((defBody s_law).drop 2) (pss_cons (ps_set (i := 3) sc_law.nd rfl (Or.inl rfl) (pe_has g_l_grove hr rfl (pa_cons (pv 0) (pa_cons pe_int (pa_cons (pe_op op_mod (pe_op op_fdiv (pe_has g_l_cell_at hr rfl (pa_cons (pv 0) (pa_cons pe_int pa_nil))) pe_int) pe_int) (pa_cons (pv 1) pa_nil)))))) h3) (fun u2 h2 e2 => ?_)
  refine hideI ((defBody s_law).drop 1) (pss_cons (ps_set (i := 2) sc_law.nd rfl (Or.inl rfl) (pe_has g_l_form hr rfl (pa_cons (pv 0) (pa_cons (pv 1) pa_nil)))) h2) (fun u1 h1 e1 => ?_)
  refine hideI ((defBody s_law).drop 0) (pss_cons (ps_set (i := 1) sc_law.nd rfl (Or.inl rfl) (pe_has g_l_pool hr rfl (pa_cons (pe_has g_l_cell_at hr rfl (pa_cons (pv 0) (pa_cons pe_int pa_nil))) (pa_cons pe_int pa_nil)))) h1) (fun u0 h0 e0 => ?_)
  refine ⟨u0, h0, ?_⟩
  refine by_eq e0 ?_
  refine ⟨_, rfl, a, ns, 1, rfl, hS, h63, by decide, fun v1 => ⟨v1, 4, rfl, by decide, by decide, fun tg ts H1 s1 htg0 htg htl htt => ?_⟩⟩
  have tsl : ∀ t ∈ ts, t ≠ SL := fun t ht => (htt t ht).1.ne
  have ht4 : ts.length = 4 := by (first | lia | omega)
  refine by_eq e1 ?_
  refine ⟨_, rfl, _, rfl, a, tg, ns, ts, rfl, s1.seq hS, h63, htg, ht4, fun fa fm H2 s2 hF n24 r40 => ?_⟩
  have s12 := s1.trans s2
  refine by_eq e2 ?_
  refine ⟨_, rfl, _, rfl, a, ns, 0, rfl, s12.seq hS, h63, by decide, fun v => ?_⟩
  have b0 := Int.emod_nonneg (v / 7000) (by decide : (10 : Int) ≠ 0)
  have b1 := Int.emod_lt_of_pos (v / 7000) (by decide : (0 : Int) < 10)
  refine ⟨_, _, rfl, rfl, ⟨by decide, by decide⟩, _, _, rfl, rfl, (by show (0 : Int) < 10; decide), _, rfl, a, tg, ns, 13, v / 7000 % 10, ts, rfl, s12.seq hS, h63, by decide, b0, by (first | lia | omega), s2 _ _ htg, by (first | lia | omega), tsl, fun ga xs g H3 s3 _ hga hG cg wg tgw => ?_⟩
  have gz : gsz g ≤ 9 := by
    rw [gsz_words] at wg
    (first | lia | omega)
  have gd := gdep_le g
  have gw := gsz_words g
  refine by_eq e3 ?_
  refine ⟨_, rfl, ga, xs, g, rfl, hga, hG, by (first | lia | omega), by (first | lia | omega), fun wa H4 s4 _ hwa => ?_⟩
  refine by_eq e4 ?_
  have hF4 := hF.same (s3.trans s4)
  refine ⟨_, rfl, fa, fm, rfl, hF4, n24, r40, fun da kvs c H5 s5 _ hda res fc => ?_⟩
  have hF5 := hF4.same s5
  refine by_eq e5 ?_
  have s45 := s4.trans s5
  refine ⟨_, rfl, _, rfl, fa, ga, fm, xs, g, rfl, hF5, by (first | lia | omega), by (first | lia | omega), s45 _ _ hga, hG.mono s45.tk, cg, by (first | lia | omega), fun L rs c' H6 s6 hfr6 res' rl tb => ?_⟩
  obtain rfl := res.one res'
  generalize hf : (fun p => PR c (alive c fm.rules) (atG g p)) = ff at tb
  have hSh : Sht H6 fm g c L fa da wa rs kvs := ⟨hF5.same s6, by rw [hf]; exact tb, rl, res, s6 _ _ hda, fc, s6 _ _ (s5 _ _ hwa), n24, r40, cg, by (first | lia | omega)⟩
  refine by_eq e6 ?_
  refine ⟨_, rfl, _, rfl, _, rfl, _, rfl, L, fa, da, wa, fm, g, c, rs, kvs, rfl, hSh, fun H7 s7 => ⟨true, rfl, iteF ?_⟩⟩
  show u7 _ _ _
  have tb7 := tb.same s7
  refine by_eq e7 ?_
  refine ⟨_, rfl, L, rfl, ⟨_, SqL.of tb7.hL⟩, fun Kt hKt => comp_list (K := K) (a := L) (p := Kt) (xs := rs.map V.ref) (fun i ys σ H8 => ∃ (v0 : Option V) (ks : List Addr), σ = [v0] ∧ Same H7 H8 ∧ H8 Kt = some (.lst ys) ∧ ys = ks.map V.ref ∧ ks.length = i ∧ (Kt :: ks).Nodup ∧ (∀ b ∈ ks, H7 b = none) ∧ ∀ (j : Nat) r, ks[j]? = some r → H8 r = some (.lst ((ff j).map cV)))
    ⟨none, [], rfl, Same.new hKt, upd_same, rfl, rfl, by simp, fun b hb => (nomatch hb), fun j r h => by simp at h⟩ ?_ ?_ ?_⟩
  · rintro i ys σ H8 _ ⟨v0, ks, _, sm, h, _⟩
    exact ⟨SqL.of (sm _ _ tb7.hL), h⟩
  · rintro i ys x σ H8 hi hx ⟨v0, ks, rfl, sm, hp, rfl, hkl, hnd, hfr, hrows⟩
    rw [List.getElem?_map] at hx
    obtain ⟨r, hr0, rfl⟩ := Option.map_eq_some_iff.mp hx
    rw [List.length_map] at hi
    refine ⟨_, rfl, r, _, rfl, .inl (SqL.of (sm _ _ (tb7.row i r hr0))), fun r2 hr2 => ?_⟩
    have k1 : Same H8 (upd H8 r2 (.lst ((ff i).map cV))) := Same.new hr2
    have nK : Kt ≠ r2 := ne_of_none hp hr2
    have nk2 : r2 ∉ ks := fun z => by
      obtain ⟨j, hj, e⟩ := List.getElem_of_mem z
      have := hrows j r2 (by rw [List.getElem?_eq_getElem hj, e])
      rw [hr2] at this
      cases this
    refine ⟨k1 _ _ hp, len1000' (by rw [List.length_map]; (first | lia | omega)), CW.next (by rw [List.length_map]; exact hi) ⟨_, ks ++ [r2], rfl, (sm.trans k1).upd_new hKt, upd_same, by rw [List.map_append]; rfl, by rw [List.length_append, List.length_singleton]; (first | lia | omega), nd_snoc hnd nK.symm nk2, fun b hb => ?_, fun j r3 h3 => ?_⟩⟩
    · rcases List.mem_append.mp hb with hb | hb
      · exact hfr b hb
      · rw [List.mem_singleton.mp hb]
        exact sm.free hr2
    · rcases Nat.lt_or_ge j ks.length with z | z
      · rw [List.getElem?_append_left z] at h3
        have e := k1 _ _ (hrows j r3 h3)
        rw [upd_ne (show r3 ≠ Kt from fun z => (List.nodup_cons.mp hnd).1 (by rw [← z]; exact List.mem_of_getElem? h3))]
        exact e
      · rw [List.getElem?_append_right z] at h3
        have e0 : j - ks.length = 0 := by
          have := (List.getElem?_eq_some_iff.mp h3).1
          simp at this
          (first | lia | omega)
        rw [e0] at h3
        injection h3 with h3
        subst h3
        rw [upd_ne nK.symm, upd_same, show j = i by (first | lia | omega)]
  rintro ys σ H8 ⟨v0, ks, rfl, s8, hKt8, rfl, hkl, hnd, hfr, hrows⟩
  rw [List.length_map] at hkl
  have tbK : TbC H8 Kt ks ff := ⟨hKt8, hnd, hrows⟩
  have tb8 := tb7.same s8
  show u8 _ _ _
  -- a row of the table told is changed, and a row is put behind
  obtain ⟨r0, r01, r02, r03⟩ := tb8.at1 (i := 0) (by (first | lia | omega))
  obtain ⟨k00, k01, k02, k03⟩ := tbK.at1 (i := 0) (by (first | lia | omega))
  have nrK : ∀ {b : Addr}, b ∈ L :: rs → b ∉ Kt :: ks := fun {b} hb z => by
    have hb7 : ∃ o, H7 b = some o := by
      rcases List.mem_cons.mp hb with rfl | hb
      · exact ⟨_, tb7.hL⟩
      · obtain ⟨j, hj, e⟩ := List.getElem_of_mem hb
        exact ⟨_, tb7.row j b (by rw [List.getElem?_eq_getElem hj, e])⟩
    obtain ⟨o, ho⟩ := hb7
    rcases List.mem_cons.mp z with rfl | z
    · rw [hKt] at ho
      cases ho
    · rw [hfr b z] at ho
      cases ho
  have mr0 : r0 ∈ rs := List.mem_of_getElem? r01
  have nr0L : r0 ≠ L := fun z => (List.nodup_cons.mp tb8.nd).1 (by rw [← z]; exact mr0)
  have len0 : (ff 0).length ≤ 24 := by
    rw [← hf]
    show (PR c (alive c fm.rules) (atG g 0)).length ≤ 24
    rw [(PR_dom (alive_ok hF5.ok res) _).1]
    exact n24
  have hS8 := hSh.same (s7.trans s8)
  refine by_eq e8 ?_
  refine ⟨_, rfl, L, _, 0, _, rfl, rfl, SqL.of tb8.hL, r02, .inl ⟨rfl, _, SqL.of r03⟩, r0, _, _, rfl, rfl, r03, len1000' (by rw [List.length_map]; (first | lia | omega)), ?_⟩
  have t9 : TK H8 (upd H8 r0 (.lst ((ff 0).map cV ++ [.int 5]))) := TK.lst r03
  have tbK9 : TbC (upd H8 r0 (.lst ((ff 0).map cV ++ [.int 5]))) Kt ks ff := tbK.keep fun b o hb h => by
    rw [upd_ne (fun z => nrK (List.mem_cons_of_mem _ mr0) (by rw [← z]; exact hb))]
    exact h
  have hL9 : (upd H8 r0 (.lst ((ff 0).map cV ++ [.int 5]))) L = some (.lst (rs.map V.ref)) := by
    rw [upd_ne nr0L.symm]
    exact tb8.hL
  have row9 : ∀ (j : Nat) r, rs[j]? = some r → (upd H8 r0 (.lst ((ff 0).map cV ++ [.int 5]))) r = some (.lst (if j = 0 then (ff 0).map cV ++ [.int 5] else (ff j).map cV)) := fun j r hj => by
    by_cases z : j = 0
    · subst z
      rw [r01] at hj
      injection hj with hj
      subst hj
      rw [upd_same, if_pos rfl]
    · rw [if_neg z, upd_ne (fun e => ?_)]
      · exact tb8.row j r hj
      · obtain ⟨n1, n2⟩ := List.nodup_cons.mp tb8.nd
        obtain ⟨h1, e1⟩ := List.getElem?_eq_some_iff.mp hj
        obtain ⟨h2, e2⟩ := List.getElem?_eq_some_iff.mp r01
        exact List.pairwise_iff_getElem.mp n2 0 j h2 h1 (by (first | lia | omega)) (by rw [e2, e1, e])
  have ww9 : (upd H8 r0 (.lst ((ff 0).map cV ++ [.int 5]))) wa = some (.lst ((words SL g).map V.str)) := by
    rw [upd_ne (fun z => ?_)]
    · exact hS8.ww
    · have := hfr6 r0 (List.mem_cons_of_mem _ mr0)
      rw [← z, s5 _ _ hwa] at this
      cases this
  have tga : TK H3 H8 := ((((s45.trans s6).trans s7).trans s8)).tk
  have hga8 := tga _ _ hga
  have hG8 := hG.mono tga
  show u9 _ _ _
  generalize upd H8 r0 (.lst ((ff 0).map cV ++ [.int 5])) = H9 at t9 tbK9 hL9 row9 ww9 ⊢
  refine by_eq e9 ?_
  refine ⟨_, rfl, .inl ⟨rfl, _, SqL.of hL9⟩, by decide, fun e0 he0 => ?_⟩
  have ke := Same.new (o := .lst []) he0
  refine ⟨L, _, _, rfl, rfl, ke _ _ hL9, len1000' (by rw [List.length_map]; (first | lia | omega)), ?_⟩
  have tA : TK H9 (upd (upd H9 e0 (.lst [])) L (.lst (rs.map V.ref ++ [.ref e0]))) := fun b ys e => TK.lst (ke _ _ hL9) _ _ (ke _ _ e)
  have upA : ∀ {b : Addr} {o : HO}, b ≠ L → H9 b = some o → (upd (upd H9 e0 (.lst [])) L (.lst (rs.map V.ref ++ [.ref e0]))) b = some o := fun n h => by
    rw [upd_ne n]
    exact ke _ _ h
  have tbKA : TbC (upd (upd H9 e0 (.lst [])) L (.lst (rs.map V.ref ++ [.ref e0]))) Kt ks ff := tbK9.keep fun b o hb h => upA (fun z => nrK (List.mem_cons_self ..) (by rw [← z]; exact hb)) h
  have hLA : (upd (upd H9 e0 (.lst [])) L (.lst (rs.map V.ref ++ [.ref e0]))) L = some (.lst (rs.map V.ref ++ [.ref e0])) := upd_same
  have nL : ∀ {r : Addr}, r ∈ rs → r ≠ L := fun h z => (List.nodup_cons.mp tb8.nd).1 (by rw [← z]; exact h)
  have rowA : ∀ (j : Nat) r, rs[j]? = some r → (upd (upd H9 e0 (.lst [])) L (.lst (rs.map V.ref ++ [.ref e0]))) r = some (.lst (if j = 0 then (ff 0).map cV ++ [.int 5] else (ff j).map cV)) := fun j r hj => upA (nL (List.mem_of_getElem? hj)) (row9 j r hj)
  have wwA : (upd (upd H9 e0 (.lst [])) L (.lst (rs.map V.ref ++ [.ref e0]))) wa = some (.lst ((words SL g).map V.str)) := upA (fun z => by
    have := hfr6 L (List.mem_cons_self ..)
    rw [← z, s5 _ _ hwa] at this
    cases this) ww9
  have tAll : TK H8 (upd (upd H9 e0 (.lst [])) L (.lst (rs.map V.ref ++ [.ref e0]))) := fun b ys e => tA _ _ (t9 _ _ e)
  have hFA := hS8.form.tk tAll
  have hgaA := tAll _ _ hga8
  have hGA := hG8.mono tAll
  show u10 _ _ _
  generalize upd (upd H9 e0 (.lst [])) L (.lst (rs.map V.ref ++ [.ref e0])) = HA at tbKA hLA rowA wwA hFA hgaA hGA ⊢
  clear tA upA tAll
  refine by_eq e10 ?_
  refine ⟨_, rfl, _, rfl, fa, ga, fm, xs, g, rfl, hFA, by (first | lia | omega), by (first | lia | omega), hgaA, hGA, cg, by (first | lia | omega), fun L2 rs2 c2 HB sB _ res2 rl2 tbB => ?_⟩
  obtain rfl := res.one res2
  rw [hf] at tbB
  have tbKB := tbKA.same sB
  have hgaB := sB _ _ hgaA
  have hGB := hGA.mono sB.tk
  show u11 _ _ _
  have lay := rowsD ff
  have tl : (tabD ff rs2.length).canLay0 = true := (lay (List.range rs2.length)).1
  have tdp : (tabD ff rs2.length).depth ≤ 200 := by
    have := (lay (List.range rs2.length)).2
    show PyData.depthAll _ + 1 ≤ 200
    (first | lia | omega)
  have ek : ks.length = rs2.length := by (first | lia | omega)
  refine by_eq e11 ?_
  refine ⟨_, rfl, _, rfl, eq_data (tbB.dp (K := K)) (by rw [← ek]; exact tbKB.dp) tl tdp ⟨_, rfl, iteF ?_⟩⟩
  refine ⟨_, rfl, 1, rfl, -1, rfl, L, _, rfl, SqL.of (sB _ _ hLA), fun ps hps => ?_⟩
  rw [cut_last]
  have kC : Same HB (upd HB ps (.lst (rs.map V.ref))) := Same.new hps
  have hps2 : (upd HB ps (.lst (rs.map V.ref))) ps = some (.lst (rs.map V.ref)) := upd_same
  generalize upd HB ps (.lst (rs.map V.ref)) = HC at kC hps2 ⊢
  have kAC := sB.trans kC
  have tbKC := tbKB.same kC
  obtain ⟨k0', k01', k02', k03'⟩ := tbKC.at1 (i := 0) (by (first | lia | omega))
  refine ⟨_, rfl, Kt, _, 0, _, rfl, rfl, SqL.of tbKC.hL, k02', (by show 1 ≤ sizeLine; decide), fun p5 hp5 => ?_⟩
  have k5 := Same.new (o := .lst [.int 5]) hp5
  refine ⟨k0', p5, _, _, rfl, rfl, k5 _ _ k03', upd_same, len1000 (by rw [List.length_map, List.length_singleton]; (first | lia | omega)), fun pa hpa => ⟨(by show 1 ≤ sizeLine; decide), fun pb hpb => ?_⟩⟩
  have k6 := Same.new (o := .lst ((ff 0).map cV ++ [.int 5])) hpa
  have k7 := Same.new (o := .lst [.ref pa]) hpb
  have kD : Same HC (upd (upd (upd HC p5 (.lst [.int 5])) pa (.lst ((ff 0).map cV ++ [.int 5]))) pb (.lst [.ref pa])) := k5.trans (k6.trans k7)
  have hpaD : (upd (upd (upd HC p5 (.lst [.int 5])) pa (.lst ((ff 0).map cV ++ [.int 5]))) pb (.lst [.ref pa])) pa = some (.lst ((ff 0).map cV ++ [.int 5])) := k7 _ _ upd_same
  have hpbD : (upd (upd (upd HC p5 (.lst [.int 5])) pa (.lst ((ff 0).map cV ++ [.int 5]))) pb (.lst [.ref pa])) pb = some (.lst [.ref pa]) := upd_same
  generalize upd (upd (upd HC p5 (.lst [.int 5])) pa (.lst ((ff 0).map cV ++ [.int 5]))) pb (.lst [.ref pa]) = HD at kD hpaD hpbD ⊢
  refine ⟨_, rfl, 1, rfl, Kt, _, rfl, SqL.of (kD _ _ tbKC.hL), fun pc hpc => ?_⟩
  rw [show cutV (ks.map V.ref) (some 1) none = (ks.map V.ref).drop 1 from cut_from _ 1]
  have k8 := Same.new (o := .lst ((ks.map V.ref).drop 1)) hpc
  refine ⟨pb, pc, _, _, rfl, rfl, k8 _ _ hpbD, upd_same, len1000 (by rw [List.length_singleton, List.length_drop, List.length_map]; (first | lia | omega)), fun pd hpd => ?_⟩
  have k9 := Same.new (o := .lst ([.ref pa] ++ (ks.map V.ref).drop 1)) hpd
  have kE := kD.trans (k8.trans k9)
  have hpdE : (upd (upd HD pc (.lst ((ks.map V.ref).drop 1))) pd (.lst ([.ref pa] ++ (ks.map V.ref).drop 1))) pd = some (.lst ([.ref pa] ++ (ks.map V.ref).drop 1)) := upd_same
  have hpaE := (k8.trans k9) _ _ hpaD
  generalize upd (upd HD pc (.lst ((ks.map V.ref).drop 1))) pd (.lst ([.ref pa] ++ (ks.map V.ref).drop 1)) = HE at kE hpdE hpaE ⊢
  have kAE := kAC.trans kE
  have tbKE := tbKC.same kE
  have f5 : DpAll K HE ((ff 0).map cV ++ [.int 5]) ((ff 0).map oD ++ [.int 5]) := dpAll_of (by simp) fun i v d h1 h2 => by
    rcases Nat.lt_or_ge i (ff 0).length with z | z
    · rw [List.getElem?_append_left (by rw [List.length_map]; exact z), List.getElem?_map] at h1 h2
      obtain ⟨o, ho, rfl⟩ := Option.map_eq_some_iff.mp h1
      rw [ho] at h2
      injection h2 with h2
      subst h2
      exact dp_cV o
    · rw [List.getElem?_append_right (by rw [List.length_map]; exact z), List.length_map] at h1 h2
      have e0 : i - (ff 0).length = 0 := by
        have := (List.getElem?_eq_some_iff.mp h1).1
        simp at this
        (first | lia | omega)
      rw [e0] at h1 h2
      injection h1 with h1
      injection h2 with h2
      subst h1 h2
      exact .int 5
  have dA : Dp K HE (.ref ps) (.list (.list ((ff 0).map oD ++ [.int 5]) :: ((List.range (2 * gsz g)).map fun i => rowD (ff (i + 1))))) := by
    refine .lst (SqL.of (kE _ _ hps2)) (dpAll_of (by simp [rl]) fun i v d h1 h2 => ?_)
    rw [List.getElem?_map] at h1
    obtain ⟨r, hr0, rfl⟩ := Option.map_eq_some_iff.mp h1
    have hrw := kAE _ _ (rowA i r hr0)
    cases i with
    | zero =>
      injection h2 with h2
      subst h2
      exact .lst (SqL.of hrw) f5
    | succ i =>
      rw [List.getElem?_cons_succ, List.getElem?_map] at h2
      have hi := (List.getElem?_eq_some_iff.mp hr0).1
      rw [List.getElem?_range (by (first | lia | omega))] at h2
      injection h2 with h2
      subst h2
      rw [if_neg (by (first | lia | omega))] at hrw
      exact .lst (SqL.of hrw) (dp_cs _)
  have dB : Dp K HE (.ref pd) (.list (.list ((ff 0).map oD ++ [.int 5]) :: ((List.range (2 * gsz g)).map fun i => rowD (ff (i + 1))))) := by
    refine .lst (SqL.of hpdE) (dpAll_of (by simp [hkl, rl]) fun i v d h1 h2 => ?_)
    cases i with
    | zero =>
      injection h1 with h1
      injection h2 with h2
      subst h1 h2
      exact .lst (SqL.of hpaE) f5
    | succ i =>
      rw [List.getElem?_cons_succ, List.getElem?_map] at h2
      have h1' : ((ks.map V.ref).drop 1)[i]? = some v := h1
      rw [List.getElem?_drop, List.getElem?_map] at h1'
      obtain ⟨r, hr0, rfl⟩ := Option.map_eq_some_iff.mp h1'
      have hi := (List.getElem?_eq_some_iff.mp hr0).1
      rw [List.getElem?_range (by (first | lia | omega))] at h2
      injection h2 with h2
      subst h2
      have hrw := tbKE.row _ r hr0
      rw [Nat.add_comm 1 i] at hrw
      exact .lst (SqL.of hrw) (dp_cs _)
  have l5 : PyData.canLayAll0 ((ff 0).map oD ++ [.int 5]) = true ∧ PyData.depthAll ((ff 0).map oD ++ [.int 5]) = 0 := by
    have : (ff 0).map oD ++ [.int 5] = (ff 0 ++ [some 5]).map oD := by rw [List.map_append]; rfl
    rw [this]
    exact flatD _
  obtain ⟨l6, l7⟩ := rowsD (fun i => ff (i + 1)) (List.range (2 * gsz g))
  refine eq_data dA dB ?_ ?_ ⟨_, rfl, iteF ?_⟩
  · show (PyData.canLayAll0 ((ff 0).map oD ++ [.int 5]) && PyData.canLayAll0 ((List.range (2 * gsz g)).map fun i => rowD (ff (i + 1)))) = true
    rw [l5.1, l6]
    rfl
  · show max (PyData.depthAll ((ff 0).map oD ++ [.int 5]) + 1) (PyData.depthAll ((List.range (2 * gsz g)).map fun i => rowD (ff (i + 1)))) + 1 ≤ 200
    rw [l5.2]
    (first | lia | omega)
  have hgaE := (kC.trans kE) _ _ hgaB
  have hGE := hGB.mono (kC.trans kE).tk
  have wwE := kAE _ _ wwA
  show u12 _ _ _
  refine by_eq e12 ?_
  refine ⟨by decide, fun q1 hq1 => ⟨by decide, fun q2 hq2 => ⟨by decide, fun q3 hq3 => ⟨(by show 4 ≤ sizeLine; decide), fun q4 hq4 => ?_⟩⟩⟩⟩
  have m1 := Same.new (o := .tup []) hq1
  have m2 := Same.new (o := .tup []) hq2
  have m3 := Same.new (o := .tup []) hq3
  have m4 := Same.new (o := .tup [.int 0, .ref q1, .ref q2, .ref q3]) hq4
  have mF : Same HE _ := m1.trans (m2.trans (m3.trans m4))
  have fm0 : Form (upd (upd (upd (upd HE q1 (.tup [])) q2 (.tup [])) q3 (.tup [])) q4 (.tup [.int 0, .ref q1, .ref q2, .ref q3])) q4 ⟨0, [], []⟩ := ⟨⟨fun x hx => (nomatch hx), fun q hq => (nomatch hq)⟩, q1, q2, q3, [], upd_same, m4 _ _ (m3 _ _ upd_same), m4 _ _ upd_same, rfl, fun i p q e => by simp at e⟩
  generalize upd (upd (upd (upd HE q1 (.tup [])) q2 (.tup [])) q3 (.tup [])) q4 (.tup [.int 0, .ref q1, .ref q2, .ref q3]) = HF at mF fm0 ⊢
  refine ⟨_, rfl, q4, ga, ⟨0, [], []⟩, xs, g, rfl, fm0, by decide, by decide, mF _ _ hgaE, hGE.mono mF.tk, cg, by (first | lia | omega), fun L3 rs3 c3 HG sG _ res3 rl3 tb3 => ?_⟩
  have lg : (((words SL g).map V.str).length : Int) = ((2 * gsz g : Nat) : Int) := by rw [List.length_map, gw]
  have wwG := sG _ _ (mF _ _ wwE)
  refine ⟨_, rfl, wa, _, rfl, .inl (SqL.of wwG), _, _, rfl, rfl, ((2 * gsz g + 1 : Nat) : Int), congrArg (fun z => [V.int z]) (by rw [lg]; rfl), by (first | lia | omega), by (first | lia | omega), fun pz hpz => ?_⟩
  refine comp_range (lo := 0) (n := 2 * gsz g + 1) (p := pz) (fun i ys σ HH => ∃ (v0 : Option V) (zs : List Addr), σ = [v0] ∧ Same HG HH ∧ HH pz = some (.lst ys) ∧ ys = zs.map V.ref ∧ zs.length = i ∧ pz ∉ zs ∧ ∀ r ∈ zs, HH r = some (.lst []))
    ⟨none, [], rfl, Same.new hpz, upd_same, rfl, rfl, by simp, fun r hr => (nomatch hr)⟩ ?_ ?_ ?_
  · rintro i ys σ HH _ ⟨v0, zs, _, _, h, _⟩
    exact h
  · rintro i ys σ HH hi ⟨v0, zs, rfl, sm, hp, rfl, hzl, hnz, hz⟩
    refine ⟨by decide, fun pn hpn => ?_⟩
    have k1 : Same HH (upd HH pn (.lst [])) := Same.new hpn
    have np : pz ≠ pn := ne_of_none hp hpn
    refine ⟨k1 _ _ hp, len1000' (by rw [List.length_map]; (first | lia | omega)), CW.next hi ⟨_, zs ++ [pn], rfl, (sm.trans k1).upd_new hpz, upd_same, by rw [List.map_append]; rfl, by rw [List.length_append, List.length_singleton]; (first | lia | omega), fun z => ?_, fun r hr => ?_⟩⟩
    · rcases List.mem_append.mp z with z | z
      · exact hnz z
      · exact np (List.mem_singleton.mp z)
    · rcases List.mem_append.mp hr with hr | hr
      · rw [upd_ne (fun z => hnz (by rw [← z]; exact hr))]
        exact k1 _ _ (hz r hr)
      · rw [List.mem_singleton.mp hr, upd_ne np.symm, upd_same]
  rintro ys σ HH ⟨v0, zs, rfl, sm, hp, rfl, hzl, hnz, hz⟩
  have emp : ∀ i, PR c3 (alive c3 []) (atG g i) = [] := fun i => by
    have := (PR_dom (alive_ok (f := ⟨0, [], []⟩) fm0.ok res3) (atG g i)).1
    exact List.eq_nil_of_length_eq_zero this
  have tb4 : TbC HG L3 rs3 (fun _ => []) := tb3.ext fun i _ => emp i
  have dz : Dp K HH (.ref pz) (tabD (fun _ => []) rs3.length) := by
    refine .lst (SqL.of hp) (dpAll_of (by simp [hzl, rl3]) fun i v d h1 h2 => ?_)
    rw [List.getElem?_map] at h1 h2
    obtain ⟨r, hr0, rfl⟩ := Option.map_eq_some_iff.mp h1
    have hi := (List.getElem?_eq_some_iff.mp hr0).1
    rw [List.getElem?_range (by (first | lia | omega))] at h2
    injection h2 with h2
    subst h2
    exact .lst (SqL.of (hz r (List.mem_of_getElem? hr0))) .nil
  refine eq_data ((tb4.same sm).dp (K := K)) dz (rowsD (fun _ => []) (List.range rs3.length)).1 ?_ (q _)
  exact Nat.le_trans (Nat.succ_le_succ (rowsD (fun _ => []) (List.range rs3.length)).2) (by decide)
end
theorem all_mk {l : PySem.W.OpenLaw} {w : World} {K : PySem.W.Frag} {h : Heap} {mg : Str → Option Value} {fa f1 f2 f3 f4 f5 f6 f7 f8 f9 f10 f11 f12 f13 f14 f15 f16 f17 f18 f19 f20 f21 : Addr} (X : K.In h) (G : h.Ns mainGlobals mg) (hfa : mg "law" = some (.ref fa))
    {od1 an1 od2 an2 od3 an3 od4 an4 od5 an5 od6 an6 od7 an7 od8 an8 od9 an9 od10 an10 od11 an11 od12 an12 od13 an13 od14 an14 od15 an15 od16 an16 od17 an17 od18 an18 od19 an19 od20 an20 od21 an21 : Option Addr} {sl1 sl2 sl3 sl4 sl5 sl6 sl7 sl8 sl9 sl10 sl11 sl12 sl13 sl14 sl15 sl16 sl17 sl18 sl19 sl20 sl21 : Array (Option Value)} {oc1 kV1 dc1 pm1 cd1 ct1 oc2 kV2 dc2 pm2 cd2 ct2 oc3 kV3 dc3 pm3 cd3 ct3 oc4 kV4 dc4 pm4 cd4 ct4 oc5 kV5 dc5 pm5 cd5 ct5 oc6 kV6 dc6 pm6 cd6 ct6 oc7 kV7 dc7 pm7 cd7 ct7 oc8 kV8 dc8 pm8 cd8 ct8 oc9 kV9 dc9 pm9 cd9 ct9 oc10 kV10 dc10 pm10 cd10 ct10 oc11 kV11 dc11 pm11 cd11 ct11 oc12 kV12 dc12 pm12 cd12 ct12 oc13 kV13 dc13 pm13 cd13 ct13 oc14 kV14 dc14 pm14 cd14 ct14 oc15 kV15 dc15 pm15 cd15 ct15 oc16 kV16 dc16 pm16 cd16 ct16 oc17 kV17 dc17 pm17 cd17 ct17 oc18 kV18 dc18 pm18 cd18 ct18 oc19 kV19 dc19 pm19 cd19 ct19 oc20 kV20 dc20 pm20 cd20 ct20 oc21 kV21 dc21 pm21 cd21 ct21 : Value}
    (a1 : PySem.W.nsIn K mainGlobals "_law_word" = some (some (.ref f1))) (l1 : K.lookup f1 = some ⟨oc1, od1, .func (PySem.W.fnOf "_law_word" "_law_word" (defArgs s_l_word) (defBody s_l_word) (defScope s_l_word) .none kV1 dc1 pm1 an1 cd1 ct1), sl1⟩) (c1 : PySem.W.codeIn K cd1 "_law_word" = true) (k1 : PySem.W.keepIn K (.ref f1) = true)
    (a2 : PySem.W.nsIn K mainGlobals "_law_pool" = some (some (.ref f2))) (l2 : K.lookup f2 = some ⟨oc2, od2, .func (PySem.W.fnOf "_law_pool" "_law_pool" (defArgs s_l_pool) (defBody s_l_pool) (defScope s_l_pool) .none kV2 dc2 pm2 an2 cd2 ct2), sl2⟩) (c2 : PySem.W.codeIn K cd2 "_law_pool" = true) (k2 : PySem.W.keepIn K (.ref f2) = true)
    (a3 : PySem.W.nsIn K mainGlobals "_law_cell_at" = some (some (.ref f3))) (l3 : K.lookup f3 = some ⟨oc3, od3, .func (PySem.W.fnOf "_law_cell_at" "_law_cell_at" (defArgs s_l_cell_at) (defBody s_l_cell_at) (defScope s_l_cell_at) .none kV3 dc3 pm3 an3 cd3 ct3), sl3⟩) (c3 : PySem.W.codeIn K cd3 "_law_cell_at" = true) (k3 : PySem.W.keepIn K (.ref f3) = true)
    (a4 : PySem.W.nsIn K mainGlobals "_law_form" = some (some (.ref f4))) (l4 : K.lookup f4 = some ⟨oc4, od4, .func (PySem.W.fnOf "_law_form" "_law_form" (defArgs s_l_form) (defBody s_l_form) (defScope s_l_form) .none kV4 dc4 pm4 an4 cd4 ct4), sl4⟩) (c4 : PySem.W.codeIn K cd4 "_law_form" = true) (k4 : PySem.W.keepIn K (.ref f4) = true)
    (a5 : PySem.W.nsIn K mainGlobals "_law_grove" = some (some (.ref f5))) (l5 : K.lookup f5 = some ⟨oc5, od5, .func (PySem.W.fnOf "_law_grove" "_law_grove" (defArgs s_l_grove) (defBody s_l_grove) (defScope s_l_grove) .none kV5 dc5 pm5 an5 cd5 ct5), sl5⟩) (c5 : PySem.W.codeIn K cd5 "_law_grove" = true) (k5 : PySem.W.keepIn K (.ref f5) = true)
    (a6 : PySem.W.nsIn K mainGlobals "_law_words" = some (some (.ref f6))) (l6 : K.lookup f6 = some ⟨oc6, od6, .func (PySem.W.fnOf "_law_words" "_law_words" (defArgs s_l_words) (defBody s_l_words) (defScope s_l_words) .none kV6 dc6 pm6 an6 cd6 ct6), sl6⟩) (c6 : PySem.W.codeIn K cd6 "_law_words" = true) (k6 : PySem.W.keepIn K (.ref f6) = true)
    (a7 : PySem.W.nsIn K mainGlobals "_law_fewest" = some (some (.ref f7))) (l7 : K.lookup f7 = some ⟨oc7, od7, .func (PySem.W.fnOf "_law_fewest" "_law_fewest" (defArgs s_l_fewest) (defBody s_l_fewest) (defScope s_l_fewest) .none kV7 dc7 pm7 an7 cd7 ct7), sl7⟩) (c7 : PySem.W.codeIn K cd7 "_law_fewest" = true) (k7 : PySem.W.keepIn K (.ref f7) = true)
    (a8 : PySem.W.nsIn K mainGlobals "words_of" = some (some (.ref f8))) (l8 : K.lookup f8 = some ⟨oc8, od8, .func (PySem.W.fnOf "words_of" "words_of" (defArgs s_words_of) (defBody s_words_of) (defScope s_words_of) .none kV8 dc8 pm8 an8 cd8 ct8), sl8⟩) (c8 : PySem.W.codeIn K cd8 "words_of" = true) (k8 : PySem.W.keepIn K (.ref f8) = true)
    (a9 : PySem.W.nsIn K mainGlobals "closings" = some (some (.ref f9))) (l9 : K.lookup f9 = some ⟨oc9, od9, .func (PySem.W.fnOf "closings" "closings" (defArgs s_closings) (defBody s_closings) (defScope s_closings) .none kV9 dc9 pm9 an9 cd9 ct9), sl9⟩) (c9 : PySem.W.codeIn K cd9 "closings" = true) (k9 : PySem.W.keepIn K (.ref f9) = true)
    (a10 : PySem.W.nsIn K mainGlobals "count_above" = some (some (.ref f10))) (l10 : K.lookup f10 = some ⟨oc10, od10, .func (PySem.W.fnOf "count_above" "count_above" (defArgs s_count_above) (defBody s_count_above) (defScope s_count_above) .none kV10 dc10 pm10 an10 cd10 ct10), sl10⟩) (c10 : PySem.W.codeIn K cd10 "count_above" = true) (k10 : PySem.W.keepIn K (.ref f10) = true)
    (a11 : PySem.W.nsIn K mainGlobals "lower" = some (some (.ref f11))) (l11 : K.lookup f11 = some ⟨oc11, od11, .func (PySem.W.fnOf "lower" "lower" (defArgs s_lower) (defBody s_lower) (defScope s_lower) .none kV11 dc11 pm11 an11 cd11 ct11), sl11⟩) (c11 : PySem.W.codeIn K cd11 "lower" = true) (k11 : PySem.W.keepIn K (.ref f11) = true)
    (a12 : PySem.W.nsIn K mainGlobals "fewest" = some (some (.ref f12))) (l12 : K.lookup f12 = some ⟨oc12, od12, .func (PySem.W.fnOf "fewest" "fewest" (defArgs s_fewest) (defBody s_fewest) (defScope s_fewest) .none kV12 dc12 pm12 an12 cd12 ct12), sl12⟩) (c12 : PySem.W.codeIn K cd12 "fewest" = true) (k12 : PySem.W.keepIn K (.ref f12) = true)
    (a13 : PySem.W.nsIn K mainGlobals "prices_of_cut" = some (some (.ref f13))) (l13 : K.lookup f13 = some ⟨oc13, od13, .func (PySem.W.fnOf "prices_of_cut" "prices_of_cut" (defArgs s_prices_of_cut) (defBody s_prices_of_cut) (defScope s_prices_of_cut) .none kV13 dc13 pm13 an13 cd13 ct13), sl13⟩) (c13 : PySem.W.codeIn K cd13 "prices_of_cut" = true) (k13 : PySem.W.keepIn K (.ref f13) = true)
    (a14 : PySem.W.nsIn K mainGlobals "tree_size" = some (some (.ref f14))) (l14 : K.lookup f14 = some ⟨oc14, od14, .func (PySem.W.fnOf "tree_size" "tree_size" (defArgs s_tree_size) (defBody s_tree_size) (defScope s_tree_size) .none kV14 dc14 pm14 an14 cd14 ct14), sl14⟩) (c14 : PySem.W.codeIn K cd14 "tree_size" = true) (k14 : PySem.W.keepIn K (.ref f14) = true)
    (a15 : PySem.W.nsIn K mainGlobals "keep_price" = some (some (.ref f15))) (l15 : K.lookup f15 = some ⟨oc15, od15, .func (PySem.W.fnOf "keep_price" "keep_price" (defArgs s_keep_price) (defBody s_keep_price) (defScope s_keep_price) .none kV15 dc15 pm15 an15 cd15 ct15), sl15⟩) (c15 : PySem.W.codeIn K cd15 "keep_price" = true) (k15 : PySem.W.keepIn K (.ref f15) = true)
    (a16 : PySem.W.nsIn K mainGlobals "paper" = some (some (.ref f16))) (l16 : K.lookup f16 = some ⟨oc16, od16, .func (PySem.W.fnOf "paper" "paper" (defArgs s_paper) (defBody s_paper) (defScope s_paper) .none kV16 dc16 pm16 an16 cd16 ct16), sl16⟩) (c16 : PySem.W.codeIn K cd16 "paper" = true) (k16 : PySem.W.keepIn K (.ref f16) = true)
    (a17 : PySem.W.nsIn K mainGlobals "_law_is_sheet" = some (some (.ref f17))) (l17 : K.lookup f17 = some ⟨oc17, od17, .func (PySem.W.fnOf "_law_is_sheet" "_law_is_sheet" (defArgs s_l_is_sheet) (defBody s_l_is_sheet) (defScope s_l_is_sheet) .none kV17 dc17 pm17 an17 cd17 ct17), sl17⟩) (c17 : PySem.W.codeIn K cd17 "_law_is_sheet" = true) (k17 : PySem.W.keepIn K (.ref f17) = true)
    (a18 : PySem.W.nsIn K mainGlobals "_law_close" = some (some (.ref f18))) (l18 : K.lookup f18 = some ⟨oc18, od18, .func (PySem.W.fnOf "_law_close" "_law_close" (defArgs s_l_close) (defBody s_l_close) (defScope s_l_close) .none kV18 dc18 pm18 an18 cd18 ct18), sl18⟩) (c18 : PySem.W.codeIn K cd18 "_law_close" = true) (k18 : PySem.W.keepIn K (.ref f18) = true)
    (a19 : PySem.W.nsIn K mainGlobals "_law_ways" = some (some (.ref f19))) (l19 : K.lookup f19 = some ⟨oc19, od19, .func (PySem.W.fnOf "_law_ways" "_law_ways" (defArgs s_l_ways) (defBody s_l_ways) (defScope s_l_ways) .none kV19 dc19 pm19 an19 cd19 ct19), sl19⟩) (c19 : PySem.W.codeIn K cd19 "_law_ways" = true) (k19 : PySem.W.keepIn K (.ref f19) = true)
    (a20 : PySem.W.nsIn K mainGlobals "_law_holds" = some (some (.ref f20))) (l20 : K.lookup f20 = some ⟨oc20, od20, .func (PySem.W.fnOf "_law_holds" "_law_holds" (defArgs s_l_holds) (defBody s_l_holds) (defScope s_l_holds) .none kV20 dc20 pm20 an20 cd20 ct20), sl20⟩) (c20 : PySem.W.codeIn K cd20 "_law_holds" = true) (k20 : PySem.W.keepIn K (.ref f20) = true)
    (a21 : PySem.W.nsIn K mainGlobals "law" = some (some (.ref f21))) (l21 : K.lookup f21 = some ⟨oc21, od21, .func (PySem.W.fnOf "law" "law" (defArgs s_law) (defBody s_law) (defScope s_law) .none kV21 dc21 pm21 an21 cd21 ct21), sl21⟩) (c21 : PySem.W.codeIn K cd21 "law" = true) (k21 : PySem.W.keepIn K (.ref f21) = true)
    (z0 : PySem.W.nsIn K mainGlobals "bool" = some none) (z1 : PySem.W.nsIn K mainGlobals "enumerate" = some none) (z2 : PySem.W.nsIn K mainGlobals "int" = some none) (z3 : PySem.W.nsIn K mainGlobals "isinstance" = some none) (z4 : PySem.W.nsIn K mainGlobals "len" = some none) (z5 : PySem.W.nsIn K mainGlobals "list" = some none) (z6 : PySem.W.nsIn K mainGlobals "max" = some none) (z7 : PySem.W.nsIn K mainGlobals "min" = some none) (z8 : PySem.W.nsIn K mainGlobals "range" = some none) (z9 : PySem.W.nsIn K mainGlobals "sorted" = some none) (z10 : PySem.W.nsIn K mainGlobals "tuple" = some none) :
    ∃ fd : FuncData, (∀ (s : Shared) (v : Value), BindsTo s fd ⟨[v], []⟩ [("_law_script", v)]) ∧ ∀ base : Heap, K.In base → base.Ns mainGlobals mg → FnOk l.prog w K mg base CX0 31 fa fd ["_law_script"] (Fg.spLaw K) := by
  have e := hfa.symm.trans (PySem.W.mg_of X G a21)
  cases e
  have B : ∀ x ∈ blts, mg x = none := List.forall_mem_cons.mpr ⟨PySem.W.mg_none_of X G z0, List.forall_mem_cons.mpr ⟨PySem.W.mg_none_of X G z1, List.forall_mem_cons.mpr ⟨PySem.W.mg_none_of X G z2, List.forall_mem_cons.mpr ⟨PySem.W.mg_none_of X G z3, List.forall_mem_cons.mpr ⟨PySem.W.mg_none_of X G z4, List.forall_mem_cons.mpr ⟨PySem.W.mg_none_of X G z5, List.forall_mem_cons.mpr ⟨PySem.W.mg_none_of X G z6, List.forall_mem_cons.mpr ⟨PySem.W.mg_none_of X G z7, List.forall_mem_cons.mpr ⟨PySem.W.mg_none_of X G z8, List.forall_mem_cons.mpr ⟨PySem.W.mg_none_of X G z9, List.forall_mem_cons.mpr ⟨PySem.W.mg_none_of X G z10, List.forall_mem_nil _⟩⟩⟩⟩⟩⟩⟩⟩⟩⟩⟩
  have F1 := fun_mk (st := s_l_word) l1 c1 k1
  have b1 := F1.binds (ps := ["_law_cell"]) fun _ _ _ _ _ _ us hl => by obtain ⟨_, rfl⟩ := len1 hl; rfl
  have F2 := fun_mk (st := s_l_pool) l2 c2 k2
  have b2 := F2.binds (ps := ["_law_cell", "_law_many"]) fun _ _ _ _ _ _ us hl => by obtain ⟨_, _, rfl⟩ := len2 hl; rfl
  have F3 := fun_mk (st := s_l_cell_at) l3 c3 k3
  have b3 := F3.binds (ps := ["_law_script", "_law_k"]) fun _ _ _ _ _ _ us hl => by obtain ⟨_, _, rfl⟩ := len2 hl; rfl
  have F4 := fun_mk (st := s_l_form) l4 c4 k4
  have b4 := F4.binds (ps := ["_law_script", "_law_tags"]) fun _ _ _ _ _ _ us hl => by obtain ⟨_, _, rfl⟩ := len2 hl; rfl
  have F5 := fun_mk (st := s_l_grove) l5 c5 k5
  have b5 := F5.binds (ps := ["_law_script", "_law_start", "_law_many", "_law_tags"]) fun _ _ _ _ _ _ us hl => by obtain ⟨_, _, _, _, rfl⟩ := len4 hl; rfl
  have F6 := fun_mk (st := s_l_words) l6 c6 k6
  have b6 := F6.binds (ps := ["_law_row"]) fun _ _ _ _ _ _ us hl => by obtain ⟨_, rfl⟩ := len1 hl; rfl
  have F7 := fun_mk (st := s_l_fewest) l7 c7 k7
  have b7 := F7.binds (ps := ["_law_form_told"]) fun _ _ _ _ _ _ us hl => by obtain ⟨_, rfl⟩ := len1 hl; rfl
  have F8 := fun_mk (st := s_words_of) l8 c8 k8
  have b8 := F8.binds (ps := ["grove"]) fun _ _ _ _ _ _ us hl => by obtain ⟨_, rfl⟩ := len1 hl; rfl
  have F9 := fun_mk (st := s_closings) l9 c9 k9
  have b9 := F9.binds (ps := ["words"]) fun _ _ _ _ _ _ us hl => by obtain ⟨_, rfl⟩ := len1 hl; rfl
  have F10 := fun_mk (st := s_count_above) l10 c10 k10
  have b10 := F10.binds (ps := ["inner", "rest"]) fun _ _ _ _ _ _ us hl => by obtain ⟨_, _, rfl⟩ := len2 hl; rfl
  have F11 := fun_mk (st := s_lower) l11 c11 k11
  have b11 := F11.binds (ps := ["rules", "inners", "counts"]) fun _ _ _ _ _ _ us hl => by obtain ⟨_, _, _, rfl⟩ := len3 hl; rfl
  have F12 := fun_mk (st := s_fewest) l12 c12 k12
  have b12 := F12.binds (ps := ["form"]) fun _ _ _ _ _ _ us hl => by obtain ⟨_, rfl⟩ := len1 hl; rfl
  have F13 := fun_mk (st := s_prices_of_cut) l13 c13 k13
  have b13 := F13.binds (ps := ["tags", "others"]) fun _ _ _ _ _ _ us hl => by obtain ⟨_, _, rfl⟩ := len2 hl; rfl
  have F14 := fun_mk (st := s_tree_size) l14 c14 k14
  have b14 := F14.binds (ps := ["ended_at", "place"]) fun _ _ _ _ _ _ us hl => by obtain ⟨_, _, rfl⟩ := len2 hl; rfl
  have F15 := fun_mk (st := s_keep_price) l15 c15 k15
  have b15 := F15.binds (ps := ["word", "tag"]) fun _ _ _ _ _ _ us hl => by obtain ⟨_, _, rfl⟩ := len2 hl; rfl
  have F16 := fun_mk (st := s_paper) l16 c16 k16
  have b16 := F16.binds (ps := ["form", "grove"]) fun _ _ _ _ _ _ us hl => by obtain ⟨_, _, rfl⟩ := len2 hl; rfl
  have F17 := fun_mk (st := s_l_is_sheet) l17 c17 k17
  have b17 := F17.binds (ps := ["_law_told", "_law_words_here", "_law_form_told", "_law_many"]) fun _ _ _ _ _ _ us hl => by obtain ⟨_, _, _, _, rfl⟩ := len4 hl; rfl
  have F18 := fun_mk (st := s_l_close) l18 c18 k18
  have b18 := F18.binds (ps := ["_law_words_here", "_law_place"]) fun _ _ _ _ _ _ us hl => by obtain ⟨_, _, rfl⟩ := len2 hl; rfl
  have F19 := fun_mk (st := s_l_ways) l19 c19 k19
  have b19 := F19.binds (ps := ["_law_told", "_law_form_told", "_law_many", "_law_words_here", "_law_place", "_law_kind"]) fun _ _ _ _ _ _ us hl => by obtain ⟨_, _, _, _, _, _, rfl⟩ := len6 hl; rfl
  have F20 := fun_mk (st := s_l_holds) l20 c20 k20
  have b20 := F20.binds (ps := ["_law_told", "_law_words_here", "_law_form_told", "_law_many"]) fun _ _ _ _ _ _ us hl => by obtain ⟨_, _, _, _, rfl⟩ := len4 hl; rfl
  have F21 := fun_mk (st := s_law) l21 c21 k21
  refine ⟨PySem.W.fnOf "law" "law" (defArgs s_law) (defBody s_law) (defScope s_law) .none kV21 dc21 pm21 an21 cd21 ct21, fun s v => .of_eq rfl, fun base _ _ => ?_⟩
  have g_l_word : Has l.prog w K mg base "_law_word" ["_law_cell"] 1 (K85.spWordV) := ⟨⟨f1, _, ok_l_word B  F1, b1, k1, PySem.W.mg_of X G a1⟩⟩
  have g_l_pool : Has l.prog w K mg base "_law_pool" ["_law_cell", "_law_many"] 2 (K85.spPoolV) := ⟨⟨f2, _, ok_l_pool B g_l_word F2, b2, k2, PySem.W.mg_of X G a2⟩⟩
  have g_l_cell_at : Has l.prog w K mg base "_law_cell_at" ["_law_script", "_law_k"] 1 (Fg.spCell K) := ⟨⟨f3, _, ok_l_cell_at B  F3, b3, k3, PySem.W.mg_of X G a3⟩⟩
  have g_l_form : Has l.prog w K mg base "_law_form" ["_law_script", "_law_tags"] 2 (K85.spForm85 K) := ⟨⟨f4, _, ok_l_form B g_l_cell_at F4, b4, k4, PySem.W.mg_of X G a4⟩⟩
  have g_l_grove : Has l.prog w K mg base "_law_grove" ["_law_script", "_law_start", "_law_many", "_law_tags"] 2 (K85.spGroveV K) := ⟨⟨f5, _, ok_l_grove B g_l_cell_at F5, b5, k5, PySem.W.mg_of X G a5⟩⟩
  have r_lw : ∀ d : Nat, Has l.prog w K mg base "_law_words" ["_law_row"] d (K85.spLWords d) := by
    intro d
    induction d with
    | zero => exact ⟨⟨f6, _, FnOk.none (fun vs H Q E z => by obtain ⟨p, xs, g, _, _, _, hd, _⟩ := z; exact absurd hd (Nat.not_lt_zero _)), b6, k6, PySem.W.mg_of X G a6⟩⟩
    | succ d ih => exact ⟨⟨f6, _, ok_l_words d B ih F6, b6, k6, PySem.W.mg_of X G a6⟩⟩
  have g_l_words := r_lw 30
  have g_l_fewest : Has l.prog w K mg base "_law_fewest" ["_law_form_told"] 1 (K85.spLFew K) := ⟨⟨f7, _, ok_l_fewest B  F7, b7, k7, PySem.W.mg_of X G a7⟩⟩
  have g_words_of : Has l.prog w K mg base "words_of" ["grove"] 1 (Fg.spWords K) := ⟨⟨f8, _, ok_words_of B  F8, b8, k8, PySem.W.mg_of X G a8⟩⟩
  have g_closings : Has l.prog w K mg base "closings" ["words"] 1 (K85.spClosK K) := ⟨⟨f9, _, ok_closings B  F9, b9, k9, PySem.W.mg_of X G a9⟩⟩
  have g_count_above : Has l.prog w K mg base "count_above" ["inner", "rest"] 1 (K85.spAbove) := ⟨⟨f10, _, ok_count_above B  F10, b10, k10, PySem.W.mg_of X G a10⟩⟩
  have g_lower : Has l.prog w K mg base "lower" ["rules", "inners", "counts"] 2 (K85.spLower K) := ⟨⟨f11, _, ok_lower B g_count_above F11, b11, k11, PySem.W.mg_of X G a11⟩⟩
  have g_fewest : Has l.prog w K mg base "fewest" ["form"] 3 (K85.spFewest K) := ⟨⟨f12, _, ok_fewest B g_lower F12, b12, k12, PySem.W.mg_of X G a12⟩⟩
  have g_prices_of_cut : Has l.prog w K mg base "prices_of_cut" ["tags", "others"] 1 (K85.spCut K) := ⟨⟨f13, _, ok_prices_of_cut B  F13, b13, k13, PySem.W.mg_of X G a13⟩⟩
  have g_tree_size : Has l.prog w K mg base "tree_size" ["ended_at", "place"] 1 (K85.spTreeV) := ⟨⟨f14, _, ok_tree_size B  F14, b14, k14, PySem.W.mg_of X G a14⟩⟩
  have g_keep_price : Has l.prog w K mg base "keep_price" ["word", "tag"] 1 (K85.spKeep) := ⟨⟨f15, _, ok_keep_price B  F15, b15, k15, PySem.W.mg_of X G a15⟩⟩
  have g_paper : Has l.prog w K mg base "paper" ["form", "grove"] 4 (K85.spPaper K) := ⟨⟨f16, _, ok_paper B g_words_of g_closings g_fewest g_prices_of_cut g_tree_size g_keep_price g_lower F16, b16, k16, PySem.W.mg_of X G a16⟩⟩
  have g_l_is_sheet : Has l.prog w K mg base "_law_is_sheet" ["_law_told", "_law_words_here", "_law_form_told", "_law_many"] 1 (K85.spSheet K) := ⟨⟨f17, _, ok_l_is_sheet B  F17, b17, k17, PySem.W.mg_of X G a17⟩⟩
  have g_l_close : Has l.prog w K mg base "_law_close" ["_law_words_here", "_law_place"] 1 (K85.spClose82) := ⟨⟨f18, _, ok_l_close B  F18, b18, k18, PySem.W.mg_of X G a18⟩⟩
  have g_l_ways : Has l.prog w K mg base "_law_ways" ["_law_told", "_law_form_told", "_law_many", "_law_words_here", "_law_place", "_law_kind"] 2 (K85.spWays K) := ⟨⟨f19, _, ok_l_ways B g_l_close F19, b19, k19, PySem.W.mg_of X G a19⟩⟩
  have g_l_holds : Has l.prog w K mg base "_law_holds" ["_law_told", "_law_words_here", "_law_form_told", "_law_many"] 3 (K85.spHolds K) := ⟨⟨f20, _, ok_l_holds B g_l_is_sheet g_l_ways F20, b20, k20, PySem.W.mg_of X G a20⟩⟩
  exact ok_law B g_l_pool g_l_cell_at g_l_form g_l_grove g_l_words g_l_fewest g_paper g_l_holds F21
theorem walk {l : PySem.W.OpenLaw} {q : Program} {loose : List Str} {XP : (Str → Option Value) → Heap → Prop} {YP : World → Heap → Prop} {d : DefRec} {K : Params → PySem.W.Frag} (hn : l.most = some 63) (hdf : d.params.defaults = [])
    (hY : ∀ (w : World) (h : Heap), YP w h → (K w.params).In h)
    (F : ∀ (w : World) (mg : Str → Option Value) (fa : Addr) (h : Heap), (K w.params).In h → h.Ns mainGlobals mg → mg d.name = some (.ref fa) →
      ∃ fd : FuncData, (∀ (s : Shared) (u : Value), BindsTo s fd ⟨[u], []⟩ [("_law_script", u)]) ∧ ∀ base : Heap, (K w.params).In base → base.Ns mainGlobals mg → FnOk l.prog w (K w.params) mg base CX0 31 fa fd ["_law_script"] (Fg.spLaw (K w.params))) :
    PySem.W.WalkO q loose XP YP l.row.toRowW d [] (fun f vs => PySem.call f vs) :=
  L2.walk_of (n := 63) (k := 31) (x := "_law_script") (CX := fun _ => CX0) (sp := fun w => Fg.spLaw (K w.params)) hn (by decide) hdf ⟨rfl, by decide, by decide, rfl⟩ hY F (fun _ _ a ns hl _ hS => ⟨a, ns, rfl, hS, hl, fun _ => rfl⟩) fun _ _ _ _ _ z => z
end K85
def PySem.W.Fast.tw6541958851911816325 := 0
def PySem.W.Fast.tw2657541537992710631 := 0
def PySem.W.Fast.tw7260022103549568463 := 0
def PySem.W.Fast.tw14369246505984406610 := 0
def PySem.W.Fast.tw9978522764550772676 := 0
def PySem.W.Fast.tw5860822521500416403 := 0
def PySem.W.Fast.tw8770198209377883632 := 0
def PySem.W.Fast.tw620540498926457831 := 0
def PySem.W.Fast.tw2665067038864203787 := 0
def PySem.W.Fast.tw12902896751665457953 := 0
def PySem.W.Fast.tw9142156041338267103 := 0
def PySem.W.Fast.tw4040210105016786722 := 0
def PySem.W.Fast.tw4704151833709532347 := 0
def PySem.W.Fast.tw17970486288651406988 := 0
def PySem.W.Fast.tw5879979371809603455 := 0
def PySem.W.Fast.tw7618488434310697456 := 0
def PySem.W.Fast.tw17219678262707486650 := 0
def PySem.W.Fast.tw17216605316837310567 := 0
def PySem.W.Fast.tw581641568398396778 := 0
def PySem.W.Fast.tw10951942174959370172 := 0
def PySem.W.Fast.tw4738009155252290983 := 0
def PySem.W.Fast.tw11582651801231872501 := 0
def PySem.W.Fast.tw8124560920108043469 := 0
def PySem.W.Fast.tw17442779125213181068 := 0
def PySem.W.Fast.tw6168191379424547342 := 0
def PySem.W.Fast.tw13359446374920755618 := 0
def PySem.W.Fast.tw8806185168800617115 := 0
def PySem.W.Fast.tw4386629196996848105 := 0
def PySem.W.Fast.tw14703274834660167673 := 0
def PySem.W.Fast.tw17453809618720913251 := 0
def PySem.W.Fast.tw2185338976677146962 := 0
def PySem.W.Fast.tw7857506429436825568 := 0
def PySem.W.Fast.tw622496014621502549 := 0
def PySem.W.Fast.tw16879050211669467610 := 0
def PySem.W.Fast.tw2401260070632559372 := 0
def PySem.W.Fast.tw6529563706032994038 := 0
def PySem.W.Fast.tw16729992434084936129 := 0
def PySem.W.Fast.tw8712289407071679847 := 0
def PySem.W.Fast.tw9513222266354561036 := 0
def PySem.W.Fast.tw182601369879427411 := 0
def PySem.W.Fast.tw8471048043749061518 := 0
def PySem.W.Fast.tw7174941301805738268 := 0
def PySem.W.Fast.tw15283394644643630785 := 0
def PySem.W.Fast.tw17546489199083320575 := 0
def PySem.W.Fast.tw15592541472842041846 := 0
def PySem.W.Fast.tw11474473141629449467 := 0
def PySem.W.Fast.tw16084171184301033498 := 0
def PySem.W.Fast.tw3907098048348491922 := 0
def PySem.W.Fast.tw1756468277966589516 := 0
def PySem.W.Fast.tw11947194382331218707 := 0
def PySem.W.Fast.tw17286702652443081811 := 0
def PySem.W.Fast.tw3699611009120486769 := 0
def PySem.W.Fast.tw7425845432452957723 := 0
def PySem.W.Fast.tw8071059659024970282 := 0
def PySem.W.Fast.tw6724047272704453836 := 0
def PySem.W.Fast.tw18229899089517208446 := 0
def PySem.W.Fast.tw13923206167372638266 := 0
def PySem.W.Fast.tw14218491615833095963 := 0
def PySem.W.Fast.tw8191020176813774871 := 0
def PySem.W.Fast.tw672131102895491846 := 0
def PySem.W.Fast.tw11533264841495899049 := 0
def PySem.W.Fast.tw8427370968865020851 := 0
def PySem.W.Fast.tw12610698799293150756 := 0
def PySem.W.Fast.tw1853345391190318341 := 0
def PySem.W.Fast.tw2751898891456532812 := 0
def PySem.W.Fast.tw4667774363551828407 := 0
def PySem.W.Fast.tw7702855504683522819 := 0
def PySem.W.Fast.tw11934015364741402226 := 0
def PySem.W.Fast.tw16247967352341487824 := 0
def PySem.W.Fast.tw13601429025599125795 := 0
def PySem.W.Fast.tw13850876372125070129 := 0
def PySem.W.Fast.tw13695367943383774356 := 0
def PySem.W.Fast.tw5558052420543781435 := 0
def PySem.W.Fast.tw9084113277236246059 := 0
def PySem.W.Fast.tw5544394064567560023 := 0
def PySem.W.Fast.tw7998409647946090032 := 0
def PySem.W.Fast.tw1858859674898930377 := 0
def PySem.W.Fast.tw13328466173632367999 := 0
def PySem.W.Fast.tw872145220652207946 := 0
def PySem.W.Fast.tw1493961427044997715 := 0
def PySem.W.Fast.tw4569228427638634738 := 0
def PySem.W.Fast.tw2130927899377046362 := 0
def PySem.W.Fast.tw14290452261263301212 := 0
def PySem.W.Fast.tw693029544349318138 := 0
def PySem.W.Fast.tw15368240761494791087 := 0
def PySem.W.Fast.tw10858577121216009740 := 0
def PySem.W.Fast.tw10153039384590258666 := 0
def PySem.W.Fast.tw9301483787316785909 := 0
def PySem.W.Fast.tw6425066551896305617 := 0
def PySem.W.Fast.tw13372532673343037874 := 0
def PySem.W.Fast.tw1992078936633547616 := 0
def PySem.W.Fast.tw14339381895843038775 := 0
def PySem.W.Fast.tw3200560048820854633 := 0
def PySem.W.Fast.tw5387484870675480106 := 0
def PySem.W.Fast.tw5292709788978227927 := 0
def PySem.W.Fast.tw9097751563943435058 := 0
def PySem.W.Fast.tw14953165146118899281 := 0
def PySem.W.Fast.tw9954921009708363397 := 0
def PySem.W.Fast.tw6930768469209977333 := 0
def PySem.W.Fast.tw1406288839893540618 := 0
def PySem.W.Fast.tw3235482774885342584 := 0
def PySem.W.Fast.tw18333271568674568255 := 0
def PySem.W.Fast.tw12685819758499888088 := 0
def PySem.W.Fast.tw8893998266270498736 := 0
def PySem.W.Fast.tw1934909609099769687 := 0
def PySem.W.Fast.tw14594003771083121631 := 0
def PySem.W.Fast.tw10318857400405857455 := 0
def PySem.W.Fast.tw1724932598653813475 := 0
def PySem.W.Fast.tw2214421409027860047 := 0
def PySem.W.Fast.tw10954091187570309682 := 0
def PySem.W.Fast.tw2430196000800773954 := 0
def PySem.W.Fast.tw4614444961173264463 := 0
def PySem.W.Fast.tw15831597858203762026 := 0
def PySem.W.Fast.tw9430981087002650197 := 0
def PySem.W.Fast.tw15133193797698862993 := 0
def PySem.W.Fast.tw3692553240047789978 := 0
def PySem.W.Fast.tw15949405590860728062 := 0
def PySem.W.Fast.tw5266040375091128033 := 0
def PySem.W.Fast.tw17145493295094551386 := 0
def PySem.W.Fast.tw6286988102748751711 := 0
def PySem.W.Fast.tw10137653079651600211 := 0
def PySem.W.Fast.tw13715551261092979996 := 0
def PySem.W.Fast.tw8109592050821489697 := 0
def PySem.W.Fast.tw8597893471570943678 := 0
def PySem.W.Fast.tw12666824814725299373 := 0
def PySem.W.Fast.tw10548974841761373954 := 0
def PySem.W.Fast.tw18187958883140814612 := 0
def PySem.W.Fast.tw4313973158061283150 := 0
def PySem.W.Fast.tw7933855713779122512 := 0
def PySem.W.Fast.tw15719961465544572933 := 0
def PySem.W.Fast.tw2079824203822267644 := 0
def PySem.W.Fast.tw15319053764019149161 := 0
def PySem.W.Fast.tw116695379939021860 := 0
def PySem.W.Fast.tw7796756092545608248 := 0
def PySem.W.Fast.tw5332630944771231020 := 0
def PySem.W.Fast.tw14276157271826905142 := 0
def PySem.W.Fast.tw15035056705230883159 := 0
def PySem.W.Fast.tw9563835845934330436 := 0
def PySem.W.Fast.tw13768538169524425286 := 0
def PySem.W.Fast.tw11432141216327027397 := 0
def PySem.W.Fast.tw8218924642533458601 := 0
def PySem.W.Fast.tw15546819589778160293 := 0
def PySem.W.Fast.tw7030518930176646294 := 0
def PySem.W.Fast.tw5318117401916262950 := 0
def PySem.W.Fast.tw2692335485440363907 := 0
def PySem.W.Fast.tw12830088689442707069 := 0
def PySem.W.Fast.tw6780110820260789990 := 0
def PySem.W.Fast.tw6213048899711676326 := 0
def PySem.W.Fast.tw1553999227469868989 := 0
def PySem.W.Fast.tw4911151011713593373 := 0
def PySem.W.Fast.tw10143840661814618115 := 0
def PySem.W.Fast.tw2825820733350904147 := 0
def PySem.W.Fast.tw8619911858809631554 := 0
open PySem PySem.W PyProof.Rows
set_option maxRecDepth 100000 in
set_option maxHeartbeats 0 in
theorem PySem.Challenge.cw_formgrove_k85_paper_of_prices_holds : PySem.Challenge.rw_formgrove_k85_paper_of_prices.Holds := by
  w_on; o_law; k_head; (case hw => w_witness2)
  k_fill
  refine K85.walk (l := PySem.Challenge.rw_formgrove_k85_paper_of_prices) rfl rfl (fun w h Y => PySem.W.kIn_of Y) ?F
  case F =>
    intro w mg fa h KX G hmg
    refine' K85.all_mk KX G hmg ?a1 ?l1 ?c1 ?k1 ?a2 ?l2 ?c2 ?k2 ?a3 ?l3 ?c3 ?k3 ?a4 ?l4 ?c4 ?k4 ?a5 ?l5 ?c5 ?k5 ?a6 ?l6 ?c6 ?k6 ?a7 ?l7 ?c7 ?k7 ?a8 ?l8 ?c8 ?k8 ?a9 ?l9 ?c9 ?k9 ?a10 ?l10 ?c10 ?k10 ?a11 ?l11 ?c11 ?k11 ?a12 ?l12 ?c12 ?k12 ?a13 ?l13 ?c13 ?k13 ?a14 ?l14 ?c14 ?k14 ?a15 ?l15 ?c15 ?k15 ?a16 ?l16 ?c16 ?k16 ?a17 ?l17 ?c17 ?k17 ?a18 ?l18 ?c18 ?k18 ?a19 ?l19 ?c19 ?k19 ?a20 ?l20 ?c20 ?k20 ?a21 ?l21 ?c21 ?k21 ?z0 ?z1 ?z2 ?z3 ?z4 ?z5 ?z6 ?z7 ?z8 ?z9 ?z10
    (case a1 => k_is)
    (case l1 => k_is)
    (case c1 => k_is)
    (case k1 => k_is)
    (case a2 => k_is)
    (case l2 => k_is)
    (case c2 => k_is)
    (case k2 => k_is)
    (case a3 => k_is)
    (case l3 => k_is)
    (case c3 => k_is)
    (case k3 => k_is)
    (case a4 => k_is)
    (case l4 => k_is)
    (case c4 => k_is)
    (case k4 => k_is)
    (case a5 => k_is)
    (case l5 => k_is)
    (case c5 => k_is)
    (case k5 => k_is)
    (case a6 => k_is)
    (case l6 => k_is)
    (case c6 => k_is)
    (case k6 => k_is)
    (case a7 => k_is)
    (case l7 => k_is)
    (case c7 => k_is)
    (case k7 => k_is)
    (case a8 => k_is)
    (case l8 => k_is)
    (case c8 => k_is)
    (case k8 => k_is)
    (case a9 => k_is)
    (case l9 => k_is)
    (case c9 => k_is)
    (case k9 => k_is)
    (case a10 => k_is)
    (case l10 => k_is)
    (case c10 => k_is)
    (case k10 => k_is)
    (case a11 => k_is)
    (case l11 => k_is)
    (case c11 => k_is)
    (case k11 => k_is)
    (case a12 => k_is)
    (case l12 => k_is)
    (case c12 => k_is)
    (case k12 => k_is)
    (case a13 => k_is)
    (case l13 => k_is)
    (case c13 => k_is)
    (case k13 => k_is)
    (case a14 => k_is)
    (case l14 => k_is)
    (case c14 => k_is)
    (case k14 => k_is)
    (case a15 => k_is)
    (case l15 => k_is)
    (case c15 => k_is)
    (case k15 => k_is)
    (case a16 => k_is)
    (case l16 => k_is)
    (case c16 => k_is)
    (case k16 => k_is)
    (case a17 => k_is)
    (case l17 => k_is)
    (case c17 => k_is)
    (case k17 => k_is)
    (case a18 => k_is)
    (case l18 => k_is)
    (case c18 => k_is)
    (case k18 => k_is)
    (case a19 => k_is)
    (case l19 => k_is)
    (case c19 => k_is)
    (case k19 => k_is)
    (case a20 => k_is)
    (case l20 => k_is)
    (case c20 => k_is)
    (case k20 => k_is)
    (case a21 => k_is)
    (case l21 => k_is)
    (case c21 => k_is)
    (case k21 => k_is)
    (case z0 => k_is)
    (case z1 => k_is)
    (case z2 => k_is)
    (case z3 => k_is)
    (case z4 => k_is)
    (case z5 => k_is)
    (case z6 => k_is)
    (case z7 => k_is)
    (case z8 => k_is)
    (case z9 => k_is)
    (case z10 => k_is)
