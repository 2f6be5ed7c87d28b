import PyProof.Rows.All
import Wide.All
import OpenK.AllK
import Wide.FinOn
import Lean
import PyProof.EqAt
import PyProof.EqKinds
import PyProof.TupleCall
import PySem.Challenge.RW_formgrove_k94_whole_no_word_too_late
set_option Elab.async false
set_option linter.all false
set_option maxRecDepth 100000
/-! THE HAND LAYER, for ints, bools, texts, own classes, LISTS and tuples (index, slices, in, append, pop ..), calls, loops. Paste it whole ahead of your own text; what your proof does not reach may be deleted. -/
namespace L2
open PySem PySem.Spec PyProof.Rows

/-- a key: an int or a str -/
abbrev Key := Sum Int Str
def keyIs : Key → Value → Bool
  | .inl k, v => Value.isInt k v
  | .inr x, v => Value.isStrOf x v
def keyH (w : World) : Key → Int
  | .inl k => hashInt k
  | .inr x => hashStr w x
theorem keyIs_shape : ∀ {k : Key} {v : Value}, keyIs k v = true → (∃ i t, k = Sum.inl i ∧ v = Value.int i t) ∨ (∃ x t, k = Sum.inr x ∧ v = Value.str x t)
  | .inl i, v, h => by
    obtain ⟨t, e⟩ := Value.isInt_shape (k := i) (v := v) h
    exact .inl ⟨i, t, rfl, e⟩
  | .inr x, v, h => by
    obtain ⟨t, e⟩ := Value.isStrOf_shape (x := x) (v := v) h
    exact .inr ⟨x, t, rfl, e⟩
theorem keyIs_int (i : Int) (t : Tok) : keyIs (.inl i) (.int i t) = true := by simp [keyIs, Value.isInt]
theorem keyIs_str (x : Str) (t : Tok) : keyIs (.inr x) (.str x t) = true := by simp [keyIs, Value.isStrOf]
theorem key_ll (a b : Int) : decide ((Sum.inl a : Key) = Sum.inl b) = (a == b) := by
  by_cases e : a = b
  · subst e; simp
  · have h : ¬ (Sum.inl a : Key) = Sum.inl b := fun q => e (Sum.inl.inj q)
    rw [decide_eq_false h]
    exact (beq_eq_false_iff_ne.mpr e).symm
theorem key_rr (a b : Str) : decide ((Sum.inr a : Key) = Sum.inr b) = decide (a = b) := by
  by_cases e : a = b
  · subst e; simp
  · have h : ¬ (Sum.inr a : Key) = Sum.inr b := fun q => e (Sum.inr.inj q)
    rw [decide_eq_false h, decide_eq_false e]
theorem key_lr (a : Int) (b : Str) : decide ((Sum.inl a : Key) = Sum.inr b) = false := decide_eq_false (fun q => nomatch q)
theorem key_rl (a : Str) (b : Int) : decide ((Sum.inr a : Key) = Sum.inl b) = false := decide_eq_false (fun q => nomatch q)

def mixKind (prog : Program) (w : World) : PySem.KeyKind prog w Key where
  is := keyIs
  hash := keyH w
  inj := fun v a b ha hb => by
    rcases keyIs_shape ha with ⟨i, t, rfl, rfl⟩ | ⟨x, t, rfl, rfl⟩
    · rcases keyIs_shape hb with ⟨j, u, rfl, e⟩ | ⟨y, u, rfl, e⟩
      · injection e with e1 _; rw [e1]
      · exact nomatch e
    · rcases keyIs_shape hb with ⟨j, u, rfl, e⟩ | ⟨y, u, rfl, e⟩
      · exact nomatch e
      · injection e with e1 _; rw [e1]
  byValue := fun k v h => by
    rcases keyIs_shape h with ⟨i, t, rfl, rfl⟩ | ⟨x, t, rfl, rfl⟩ <;> rfl
  pyHash := fun hv h => by
    rcases keyIs_shape hv with ⟨i, t, rfl, rfl⟩ | ⟨x, t, rfl, rfl⟩
    · exact wpAny_pyHash_int h
    · exact wpAny_pyHash_str h
  eqBool := fun hu hv h => by
    rcases keyIs_shape hu with ⟨i, t, rfl, rfl⟩ | ⟨x, t, rfl, rfl⟩
    · rcases keyIs_shape hv with ⟨j, u, rfl, rfl⟩ | ⟨y, u, rfl, rfl⟩
      · rw [key_ll] at h; exact wpAny_eqBool_int h
      · rw [key_lr] at h; exact SeqAt.EqAt.int_str i t y u _ _ _ _ h
    · rcases keyIs_shape hv with ⟨j, u, rfl, rfl⟩ | ⟨y, u, rfl, rfl⟩
      · rw [key_rl] at h; exact SeqAt.EqAt.str_int x t j u _ _ _ _ h
      · rw [key_rr] at h; exact wpAny_eqBool_str h
  «strs» := fun k x t v h => by
    rcases keyIs_shape h with ⟨i, u, rfl, e⟩ | ⟨y, u, rfl, e⟩
    · exact nomatch e
    · injection e with e1 _
      subst e1
      cases v <;> rfl

theorem mixKind_int (prog : Program) (w : World) (i : Int) (t : Tok) : (mixKind prog w).is (.inl i) (.int i t) = true := keyIs_int i t
theorem mixKind_str (prog : Program) (w : World) (x : Str) (t : Tok) : (mixKind prog w).is (.inr x) (.str x t) = true := keyIs_str x t
end L2

namespace L2
open PySem PySem.Spec PyProof.Rows

/-- a value, without the heap -/
inductive V where
  | non | bl (b : Bool) | int (i : Int) | str (x : Str) | byt (b : Array UInt8) | flt (b : UInt64) | ref (a : Addr) | ty (n : String)
  deriving DecidableEq

def RelV : V → Value → Prop
  | .non, u => u = Value.none
  | .bl b, u => u = Value.bool b
  | .int i, u => ∃ t, u = Value.int i t
  | .str x, u => ∃ t, u = Value.str x t
  | .byt b, u => ∃ t, u = Value.bytes b t
  | .flt b, u => ∃ t, u = Value.float b t
  | .ref a, u => u = Value.ref a
  | .ty n, u => u = Value.type n

abbrev Vals : List V → List Value → Prop := Paired RelV
theorem Vals.length {xs : List V} {us : List Value} (r : Vals xs us) : xs.length = us.length := Paired.length r
theorem Vals.get : ∀ {xs : List V} {us : List Value} {i : Nat} {x : V}, Vals xs us → xs[i]? = some x → ∃ u, us[i]? = some u ∧ RelV x u
  | _, _, _, _, .nil, e => by simp at e
  | _, _, 0, _, .cons r _, e => by simp at e; subst e; exact ⟨_, rfl, r⟩
  | _, _, i + 1, x, .cons _ t, e => by
    obtain ⟨u, h1, h2⟩ := Vals.get (i := i) (x := x) t (by simpa using e)
    exact ⟨u, by simpa using h1, h2⟩
theorem Vals.set {x : V} {u : Value} (r : RelV x u) : ∀ {xs : List V} {us : List Value} (i : Nat), Vals xs us → Vals (xs.set i x) (us.set i u)
  | _, _, _, .nil => .nil
  | _, _, 0, .cons _ t => .cons r t
  | _, _, i + 1, .cons q t => .cons q (Vals.set r i t)
theorem Vals.append : ∀ {xs ys : List V} {us ws : List Value}, Vals xs us → Vals ys ws → Vals (xs ++ ys) (us ++ ws)
  | _, _, _, _, .nil, s => s
  | _, _, _, _, .cons r t, s => .cons r (Vals.append t s)
theorem Vals.take : ∀ {xs : List V} {us : List Value} (n : Nat), Vals xs us → Vals (xs.take n) (us.take n)
  | _, _, 0, _ => .nil
  | _, _, _ + 1, .nil => .nil
  | _, _, n + 1, .cons r t => .cons r (Vals.take n t)
theorem Vals.drop : ∀ {xs : List V} {us : List Value} (n : Nat), Vals xs us → Vals (xs.drop n) (us.drop n)
  | _, _, 0, r => r
  | _, _, _ + 1, .nil => .nil
  | _, _, n + 1, .cons _ t => Vals.drop n t
def RelO : Option V → Option Value → Prop
  | some v, some u => RelV v u
  | none, none => True
  | _, _ => False
def KV {κ : Type} : List (κ × V) → List (κ × Value) → Prop := Paired fun (p : κ × V) (q : κ × Value) => p.1 = q.1 ∧ RelV p.2 q.2

/-- a key of a dict (00_mix): an int or a text -/
def kV : Key → V
  | .inl i => .int i
  | .inr x => .str x

/-- what stands at a tracked address -/
inductive HO where
  /-- a list -/
  | lst (xs : List V)
  /-- a tuple (never changes) -/
  | tup (xs : List V)
  /-- a dict whose keys are ints and texts; one whose keys are tuples of ints and texts (the empty one is both) -/
  | dK (kvs : List (Key × V)) | dT (kvs : List (List Key × V))
  /-- a set of ints: its members, its size -/
  | set (S : Int → Bool) (n : Nat)
  /-- an instance of the class at C, its dict at dx, its attributes -/
  | ins (C dx : Addr) (fs : List (Str × V))
  /-- the dict of the instance at x -/
  | own (x : Addr)
  /-- the dict of an exception -/
  | xd (fs : List (Str × V))
  /-- a bound method, f of x -/
  | met (f x : Addr)
  /-- a range object lo, lo + 1, .. below hi -/
  | rng (lo hi : Int)
  /-- a thing that is known to the object (the script; a dict while a loop walks it): read, never written while it is so -/
  | frz (o : Obj) (u : HO)
  /-- a code object's table -/
  | tbl (ps : Array Value)
  /-- any other thing, by what is true of its one object (a def of one's own: SetO a S n := HO.ext fun h => ..) -/
  | ext (φ : Heap → Prop)

abbrev Hp := Addr → Option HO
def upd (H : Hp) (a : Addr) (o : HO) : Hp := fun b => if b = a then some o else H b
theorem upd_same {H : Hp} {a : Addr} {o : HO} : upd H a o a = some o := by unfold upd; rw [if_pos rfl]
theorem upd_ne {H : Hp} {a b : Addr} {o : HO} (h : b ≠ a) : upd H a o b = H b := by unfold upd; rw [if_neg h]
theorem upd_upd {H : Hp} {a : Addr} {o u : HO} : upd (upd H a o) a u = upd H a u := by
  funext b; unfold upd; split <;> rfl
/-- two objects of different content stand apart -/
theorem ne_of {H : Hp} {a b : Addr} {o u : HO} (h : H a = some o) (h' : H b = some u) (d : o ≠ u) : a ≠ b := by
  intro e; subst e; rw [h] at h'; exact d (Option.some.inj h')
theorem ne_of_none {H : Hp} {a b : Addr} {o : HO} (h : H a = some o) (h' : H b = none) : a ≠ b := by
  intro e; subst e; rw [h] at h'; cases h'

section
variable (P : Program) (w : World)
def ObjOk (H : Hp) (h : Heap) (a : Addr) : HO → Prop
  | .lst xs => xs.length ≤ sizeLine ∧ ∃ (its : List Value) (n : Nat), Vals xs its ∧ h.get? a = some { cls := .type "list", data := .seq its.toArray n }
  | .tup xs => xs.length ≤ sizeLine ∧ ∃ its : List Value, Vals xs its ∧ IsTup h a its.toArray
  | .dK kvs => kvs.length ≤ sizeLine ∧ (a == sysModules) = false ∧ ∃ vs, KV kvs vs ∧ h.DictOf (mixKind P w) a vs
  | .dT kvs => kvs.length ≤ sizeLine ∧ (a == sysModules) = false ∧ ∃ xs : List (List Key × Addr × Value),
      Paired (fun (p : List Key × V) (q : List Key × Addr × Value) => p.1 = q.1 ∧ H q.2.1 = some (.tup (p.1.map kV)) ∧ RelV p.2 q.2.2) kvs xs ∧
      ∃ o es ep, h.get? a = some o ∧ o.ExactDict ∧ o.data = .dict es ep ∧ es.toList = xs.map (entryOfKey (tupleKind (mixKind P w))) ∧ (xs.map (·.1)).Nodup
  | .set S n => h.SetOf (intKind P w) a S n
  | .ins C dx fs => H dx = some (.own a) ∧ fs.length ≤ 1000 ∧ dx ≠ a ∧ h.get? a = some (PySem.W.instObj C dx) ∧
      ∃ mA, h.Ns1 dx mA ∧ (∀ f, RelO (fs.lookup f) (mA f)) ∧ PySem.Within mA (fs.map (·.1))
  | .own _ => ∃ o, h.get? a = some o
  | .xd fs => ∃ mA, h.Ns1 a mA ∧ ∀ f, RelO (fs.lookup f) (mA f)
  | .rng lo hi => ∃ t u v, h.get? a = some { cls := .type "range", data := .fields #[.int lo t, .int hi u, .int 1 v] }
  | .frz o u => h.get? a = some o ∧ ObjOk H h a u
  | .tbl ps => h.get? a = some { cls := .none, data := .fields ps }
  | .met f x => h.get? a = some (PySem.W.methodObj (.ref f) (.ref x))
  | .ext φ => φ h ∧ (∃ o, h.get? a = some o) ∧ ∀ h1 h2 : Heap, φ h1 → (∀ o, h1.get? a = some o → h2.get? a = some o) → φ h2
/-- the abstract heap is held -/
def HOk (H : Hp) (h : Heap) : Prop := ∀ a o, H a = some o → ObjOk P w H h a o
end

section
variable {P : Program} {w : World} {H H' : Hp} {h h' : Heap} {a : Addr} {o : HO}
theorem ObjOk.lt (x : ObjOk P w H h a o) : a < h.objs.size := by
  cases o with
  | lst xs => obtain ⟨_, _, _, _, e⟩ := x; exact Heap.lt_size e
  | tup xs => obtain ⟨_, _, _, p⟩ := x; exact p.lt
  | dK kvs => obtain ⟨_, _, _, _, o, _, _, e, _⟩ := x; exact Heap.lt_size e
  | dT kvs => obtain ⟨_, _, _, _, o, _, _, e, _⟩ := x; exact Heap.lt_size e
  | set S n => obtain ⟨o, _, _, _, e, _⟩ := x; exact Heap.lt_size e
  | ins C dx fs => obtain ⟨_, _, _, e, _⟩ := x; exact Heap.lt_size e
  | own y => obtain ⟨_, e⟩ := x; exact Heap.lt_size e
  | xd fs => obtain ⟨_, ⟨_, _, _, e, _⟩, _⟩ := x; exact Heap.lt_size e
  | rng lo hi => obtain ⟨_, _, _, e⟩ := x; exact Heap.lt_size e
  | frz ob u => obtain ⟨e, _⟩ := x; exact Heap.lt_size e
  | tbl ps => exact Heap.lt_size (show h.get? a = some _ from x)
  | met f y => exact Heap.lt_size (show h.get? a = some _ from x)
  | ext φ => obtain ⟨_, ⟨_, e⟩, _⟩ := x; exact Heap.lt_size e
theorem Paired.mapP {α β : Type} {F G : α → β → Prop} : ∀ {l₁ : List α} {l₂ : List β}, Paired F l₁ l₂ → (∀ a b, F a b → G a b) → Paired G l₁ l₂
  | _, _, .nil, _ => .nil
  | _, _, .cons r t, f => .cons (f _ _ r) (Paired.mapP t f)
/-- what an object's description leans on: its own object, its own dict, the tuples -/
theorem ObjOk.stay (x : ObjOk P w H h a o) (k : ∀ b u, (b = a ∨ H b = some (.own a)) → h.get? b = some u → h'.get? b = some u)
    (ho : ∀ b, H b = some (.own a) → H' b = some (.own a)) (ht : ∀ b xs, H b = some (.tup xs) → H' b = some (.tup xs)) : ObjOk P w H' h' a o := by
  induction o with
  | lst xs => obtain ⟨z, its, n, r, e⟩ := x; exact ⟨z, its, n, r, k _ _ (.inl rfl) e⟩
  | tup xs => obtain ⟨z, its, r, ob, e, c⟩ := x; exact ⟨z, its, r, ob, k _ _ (.inl rfl) e, c⟩
  | dK kvs => obtain ⟨z, y, vs, r, ob, es, ep, e, c⟩ := x; exact ⟨z, y, vs, r, ob, es, ep, k _ _ (.inl rfl) e, c⟩
  | dT kvs =>
    obtain ⟨z, y, xs, r, ob, es, ep, e, c⟩ := x
    exact ⟨z, y, xs, Paired.mapP r fun p q z => ⟨z.1, ht _ _ z.2.1, z.2.2⟩, ob, es, ep, k _ _ (.inl rfl) e, c⟩
  | set S n => obtain ⟨ob, es, ep, t, e, c⟩ := x; exact ⟨ob, es, ep, t, k _ _ (.inl rfl) e, c⟩
  | ins C dx fs =>
    obtain ⟨d, z, ne, e, mA, ⟨od, es, ep, e2, c⟩, r⟩ := x
    exact ⟨ho _ d, z, ne, k _ _ (.inl rfl) e, mA, ⟨od, es, ep, k _ _ (.inr d) e2, c⟩, r⟩
  | own y => obtain ⟨ob, e⟩ := x; exact ⟨ob, k _ _ (.inl rfl) e⟩
  | xd fs => obtain ⟨mA, ⟨od, es, ep, e, c⟩, r⟩ := x; exact ⟨mA, ⟨od, es, ep, k _ _ (.inl rfl) e, c⟩, r⟩
  | rng lo hi => obtain ⟨t, u, v, e⟩ := x; exact ⟨t, u, v, k _ _ (.inl rfl) e⟩
  | frz ob u ih => obtain ⟨e, q⟩ := x; exact ⟨k _ _ (.inl rfl) e, ih q⟩
  | tbl ps =>
    have e : h.get? a = some { cls := .none, data := .fields ps } := x
    show h'.get? a = some { cls := .none, data := .fields ps }
    exact k a _ (.inl rfl) e
  | met f y =>
    have e : h.get? a = some (PySem.W.methodObj (.ref f) (.ref y)) := x
    show h'.get? a = some (PySem.W.methodObj (.ref f) (.ref y))
    exact k a _ (.inl rfl) e
  | ext φ => obtain ⟨p, ⟨o, e⟩, st⟩ := x; exact ⟨st _ _ p fun o q => k _ _ (.inl rfl) q, ⟨o, k _ _ (.inl rfl) e⟩, st⟩
theorem HOk.lt (x : HOk P w H h) (e : H a = some o) : a < h.objs.size := (x a o e).lt
theorem HOk.fresh (x : HOk P w H h) (e : h.objs.size ≤ a) : H a = none := by
  cases q : H a with
  | none => rfl
  | some u => exact absurd (Nat.lt_of_lt_of_le (x.lt q) e) (Nat.lt_irrefl _)
/-- every object of the heap is kept -/
theorem HOk.kept (x : HOk P w H h) (k : ∀ b u, h.get? b = some u → h'.get? b = some u) : HOk P w H h' := fun a o e =>
  (x a o e).stay (fun b u _ q => k b u q) (fun _ q => q) fun _ _ q => q
/-- a new object is laid and tracked -/
theorem HOk.laid (x : HOk P w H h) (k : ∀ b u, h.get? b = some u → h'.get? b = some u) (hp : h.objs.size ≤ a) (new : ObjOk P w (upd H a o) h' a o) : HOk P w (upd H a o) h' := fun b u e => by
  have hn := x.fresh hp
  by_cases hb : b = a
  · subst hb; rw [upd_same] at e; cases e; exact new
  · rw [upd_ne hb] at e
    exact (x b u e).stay (fun c v _ q => k c v q) (fun c q => by rw [upd_ne (ne_of_none q hn)]; exact q) fun c xs q => by rw [upd_ne (ne_of_none q hn)]; exact q
end

/-- what may be read as u: it is u, or a known u -/
def Rd (H : Hp) (a : Addr) (u : HO) : Prop := H a = some u ∨ ∃ o, H a = some (.frz o u)
theorem Rd.ok {P : Program} {w : World} {H : Hp} {h : Heap} {a : Addr} {u : HO} (r : Rd H a u) (x : HOk P w H h) : ObjOk P w H h a u := by
  rcases r with r | ⟨o, r⟩
  · exact x a u r
  · obtain ⟨_, q⟩ := x a _ r
    exact q
/-- what may be written -/
def Mut : Option HO → Prop
  | some (.lst _) => True
  | some (.dK _) => True
  | some (.dT _) => True
  | some (.set _ _) => True
  | some (.ins _ _ _) => True
  | some (.ext _) => True
  | _ => False
section
variable {P : Program} {w : World} {H : Hp} {h h' : Heap} {x e : Addr} {o' : HO}
/-- the object at e is changed: x itself, or the dict of the instance x -/
theorem HOk.write (ok : HOk P w H h) (mu : Mut (H x)) (he : e = x ∨ H e = some (.own x)) (k : ∀ b u, b ≠ e → h.get? b = some u → h'.get? b = some u) (heo : ∃ u, h'.get? e = some u)
    (new : ObjOk P w (upd H x o') h' x o') : HOk P w (upd H x o') h' := fun b u q => by
  have nown : ∀ c y, H c = some (.own y) → c ≠ x := fun c y r z => by subst z; rw [r] at mu; exact mu
  have ntup : ∀ c xs, H c = some (.tup xs) → c ≠ x := fun c xs r z => by subst z; rw [r] at mu; exact mu
  by_cases hb : b = x
  · subst hb; rw [upd_same] at q; cases q; exact new
  · rw [upd_ne hb] at q
    by_cases hbe : b = e
    · have q' : H b = some (.own x) := by
        rcases he with z | z
        · exact absurd (hbe.trans z) hb
        · rw [hbe]; exact z
      rw [q] at q'; cases q'
      obtain ⟨v, hv⟩ := heo
      exact ⟨v, by rw [hbe]; exact hv⟩
    · refine (ok b u q).stay (fun c v hc r => k c v ?_ r) (fun c r => by rw [upd_ne (nown c b r)]; exact r) fun c xs r => by rw [upd_ne (ntup c xs r)]; exact r
      rcases hc with rfl | hc
      · exact hbe
      · rintro rfl
        rcases he with z | z
        · exact nown c b hc z
        · rw [hc] at z; cases z; exact hb rfl
end

/-! ### kept unless tracked; of the frames at fs (the callers') the slots may change (an exception that passes writes there); of the records at ex (iterators) nothing is said -/
structure Un (fs ex : List Addr) (H H' : Hp) (h h' : Heap) : Prop where
  keep : ∀ b o, h.get? b = some o → H b = none → b ∉ fs → b ∉ ex → h'.get? b = some o
  slot : ∀ b o, h.get? b = some o → H b = none → b ∈ fs → b ∉ ex → ∃ sl, h'.get? b = some { o with slots := sl }
  free : ∀ b o, h.get? b = some o → H b = none → b ∉ ex → H' b = none
  there : ∀ b o, h.get? b = some o → b ∉ ex → ∃ o', h'.get? b = some o'
  tups : ∀ b xs, H b = some (.tup xs) → H' b = some (.tup xs)
  frzs : ∀ b o u, H b = some (.frz o u) → H' b = some (.frz o u)
  tbls : ∀ b ps, H b = some (.tbl ps) → ∃ more, H' b = some (.tbl (ps ++ more))
section
variable {fs fs' ex ex' : List Addr} {H H1 H2 : Hp} {h h1 h2 h' : Heap} {a x e : Addr} {o : HO}
theorem Un.any (u : Un fs ex H H1 h h1) {b : Addr} {ob : Obj} (q : h.get? b = some ob) (n : H b = none) (hx : b ∉ ex) : ∃ sl, h1.get? b = some { ob with slots := sl } := by
  by_cases hb : b ∈ fs
  · exact u.slot b ob q n hb hx
  · exact ⟨ob.slots, u.keep b ob q n hb hx⟩
theorem Un.kept (k : ∀ b u, h.get? b = some u → h'.get? b = some u) : Un fs ex H H h h' :=
  ⟨fun b ob q _ _ _ => k b ob q, fun b ob q _ _ _ => ⟨ob.slots, k b ob q⟩, fun _ _ _ n _ => n, fun b ob q _ => ⟨ob, k b ob q⟩, fun _ _ q => q, fun _ _ _ q => q, fun _ ps q => ⟨#[], by rw [q]; simp⟩⟩
theorem Un.refl : Un fs ex H H h h := Un.kept fun _ _ q => q
theorem Un.laid (k : ∀ b u, h.get? b = some u → h'.get? b = some u) (hp : h.objs.size ≤ a) (hn : H a = none) : Un fs ex H (upd H a o) h h' where
  keep := fun b u q _ _ _ => k b u q
  slot := fun b u q _ _ _ => ⟨u.slots, k b u q⟩
  free := fun b u q n _ => by rw [upd_ne (Nat.ne_of_lt (Nat.lt_of_lt_of_le (Heap.lt_size q) hp))]; exact n
  there := fun b u q _ => ⟨u, k b u q⟩
  tups := fun b xs q => by rw [upd_ne (ne_of_none q hn)]; exact q
  frzs := fun b u xs q => by rw [upd_ne (ne_of_none q hn)]; exact q
  tbls := fun b ps q => ⟨#[], by rw [upd_ne (ne_of_none q hn), q]; simp⟩
theorem Un.write (mu : Mut (H x)) (he : e = x ∨ H e = some (.own x)) (k : ∀ b u, b ≠ e → h.get? b = some u → h'.get? b = some u) (heo : ∃ u, h'.get? e = some u) : Un fs ex H (upd H x o) h h' := by
  have hx : ∀ b, H b = none → b ≠ x := fun b n z => by subst z; rw [n] at mu; exact mu
  have hb : ∀ b, H b = none → b ≠ e := fun b n z => by
    subst z
    rcases he with r | r
    · exact hx b n r
    · rw [n] at r; cases r
  have hm : ∀ b u, H b = some u → ¬ Mut (some u) → b ≠ x := fun b u q nm z => by subst z; rw [q] at mu; exact nm mu
  refine ⟨fun b u q n _ _ => k b u (hb b n) q, fun b u q n _ _ => ⟨u.slots, k b u (hb b n) q⟩, fun b u q n _ => by rw [upd_ne (hx b n)]; exact n, fun b u q _ => ?_,
    fun b xs q => by rw [upd_ne (hm b _ q fun z => z)]; exact q, fun b u xs q => by rw [upd_ne (hm b _ q fun z => z)]; exact q, fun b ps q => ⟨#[], by rw [upd_ne (hm b _ q fun z => z), q]; simp⟩⟩
  by_cases hbe : b = e
  · subst hbe; exact heo
  · exact ⟨u, k b u hbe q⟩
end

/-! ### the heap without what is tracked -/
def trk (h : Heap) (H : Hp) : List Addr := (List.range h.objs.size).filter fun a => (H a).isSome
def hidT (h : Heap) (H : Hp) : Heap := PySem.W.hideAll h (trk h H)
theorem hidT_size (h : Heap) (H : Hp) : (hidT h H).objs.size = h.objs.size := PySem.W.hideAll_size _ _
theorem hidT_get {h : Heap} {H : Hp} {b : Addr} {o : Obj} (e : h.get? b = some o) (n : H b = none) : (hidT h H).get? b = some o :=
  PySem.W.hideAll_get _ e fun hm => by
    have q : (H b).isSome = true := (List.mem_filter.mp hm).2
    rw [n] at q; simp at q
theorem of_hidT {h : Heap} {H : Hp} {b : Addr} {o : Obj} (e : (hidT h H).get? b = some o) : h.get? b = some o ∧ H b = none := by
  have e' : h.get? b = some o := PySem.W.of_hideAll (trk h H) e
  refine ⟨e', ?_⟩
  cases q : H b with
  | none => rfl
  | some x =>
    have hm : b ∈ trk h H := List.mem_filter.mpr ⟨List.mem_range.mpr (Heap.lt_size e'), by simp [q]⟩
    have z : (hidT h H).get? b = none := PySem.W.hideAll_none (trk h H) hm
    rw [z] at e; cases e

/-! ### OpenK's ledger, filled with every new object but one -/
end L2

namespace L2
open PySem PySem.Spec PyProof.Rows

/-- the module's facts, over the base: the heap at the law's entry without what is tracked there -/
structure Mod (K : PySem.W.Frag) (mg : Str → Option Value) (base : Heap) : Prop where
  kin : K.In base
  glob : base.Ns mainGlobals mg
  blt : ∃ mb, base.Ns builtinsNs mb ∧ ∀ x : Str, x ≠ "__name__" → mb x = bootBuiltins x
  nolimit : base.NoLimit

/-- the context: a def's body (or a comprehension's block) running. base: fixed through the whole law; s₀, H₀: the entry; outer: the frames whose slots others may change (a def's callers); stack: all frames that run;
   ex: iterators that were made ahead of the entry and are walked here (a comprehension's); fn: the names whose cells were made at the entry (a def: all; a comprehension's block: its own); calm: not within an except suite; pn: pins that every state bears; xe: what is wanted of an exception that leaves the code -/
structure Cx where
  prog : Program
  w : World
  K : PySem.W.Frag
  mg : Str → Option Value
  base : Heap
  A : Around
  N : List Str
  s₀ : Shared
  H₀ : Hp
  env : Env
  outer : List Env
  stack : List Env
  ex : List Addr
  fn : Str → Bool
  calm : Bool
  pn : List (Addr × Obj)
  xe : Value → Shared → Prop
/-- the callers' frames -/
def frs (l : List Env) : List Addr := l.filterMap (·.frame)
abbrev Cx.fs (X : Cx) : List Addr := frs X.outer

def Vis (sc : Scope) (x : Str) : Prop := sc.names.lookup x = some .local ∨ sc.names.lookup x = some .cell ∨ sc.names.lookup x = some .free
def Loc (sc : Scope) (x : Str) : Prop := sc.names.lookup x = some .local ∨ sc.names.lookup x = some .cell
def Look (env : Env) (h : Heap) (m : Str → Option Value) (x : Str) (u : Value) : Prop :=
  (env.kindOf x = some .local ∧ m x = some u) ∨ ((env.kindOf x = some .cell ∨ env.kindOf x = some .free) ∧ ∃ c, env.cells.lookup x = some c ∧ h.IsCell c (some u))

structure Cx.Ok (X : Cx) : Prop where
  mod : Mod X.K X.mg X.base
  kind : X.env.scope.kind = .function
  glob : X.env.globals = mainGlobals
  blt : X.env.builtins = builtinsNs
  above : X.s₀.heap.objs.size ≤ X.env.locals
  inj : ∀ x y c, X.env.cells.lookup x = some c → X.env.cells.lookup y = some c → x = y
  has : ∀ x, (X.env.kindOf x = some .cell ∨ X.env.kindOf x = some .free) → ∃ c, X.env.cells.lookup x = some c
  cab : ∀ x c, X.fn x = true → X.env.cells.lookup x = some c → X.s₀.heap.objs.size ≤ c
  hd : X.calm = true → X.A.handled = none
  frames : X.A.frames = some X.stack
  stk : X.stack = X.outer ∨ (X.stack = X.env :: X.outer ∧ X.env.frame = some X.env.locals)
  exf : ∀ b ∈ X.ex, b ≠ X.env.locals ∧ ∀ x c, X.env.cells.lookup x = some c → c ≠ b
  bs : ∀ b o, X.base.get? b = some o → X.s₀.heap.get? b = some o ∧ X.H₀ b = none
  bsz : X.base.objs.size ≤ X.s₀.heap.objs.size
  noex : ∀ b o, X.base.get? b = some o → b ∉ X.ex
  exfs : ∀ b ∈ X.ex, b ∉ X.fs
  funs : X.s₀.heap.FunFrames X.base X.outer
  frf : ∀ b ∈ X.fs, X.H₀ b = none

structure Inv (X : Cx) (pins : List (Addr × Obj)) (σ : List (Option V)) (H : Hp) (s : Shared) : Prop where
  ok : X.Ok
  os : s.os = X.s₀.os
  bare : AllBare s.gens
  base : Un X.fs X.ex X.H₀ H X.s₀.heap s.heap
  loc : ∃ m, s.heap.Ns X.env.locals m ∧ ∀ (i : Nat) (x : Str) (v : V), X.N[i]? = some x → σ[i]? = some (some v) → Vis X.env.scope x → ∃ u, RelV v u ∧ Look X.env s.heap m x u
  cell : ∀ x c, X.env.cells.lookup x = some c → ∃ v, s.heap.IsCell c v
  free : H X.env.locals = none
  freeC : ∀ x c, X.env.cells.lookup x = some c → H c = none
  pin : ∀ p ∈ X.pn ++ pins, s.heap.get? p.1 = some p.2 ∧ H p.1 = none ∧ p.1 ≠ X.env.locals ∧ p.1 ∉ X.fs ∧ ∀ v, p.2.data ≠ .cell v
  hok : HOk X.prog X.w H s.heap
  len : σ.length = X.N.length

section
variable {X : Cx} {pins : List (Addr × Obj)} {σ : List (Option V)} {H H' : Hp} {s : Shared} {h' : Heap}

theorem Cx.Ok.nofr (ok : X.Ok) {b : Addr} {o : Obj} (e : X.base.get? b = some o) : b ∉ X.fs := fun hb => by
  have := (ok.funs.mem hb).1
  rw [e] at this; cases this
theorem Inv.bs (I : Inv X pins σ H s) : ∀ b o, X.base.get? b = some o → s.heap.get? b = some o ∧ H b = none := fun b o e =>
  ⟨I.base.keep b o (I.ok.bs b o e).1 (I.ok.bs b o e).2 (I.ok.nofr e) (I.ok.noex b o e), I.base.free b o (I.ok.bs b o e).1 (I.ok.bs b o e).2 (I.ok.noex b o e)⟩
theorem Inv.bk (I : Inv X pins σ H s) : ∀ b o, X.base.get? b = some o → s.heap.get? b = some o := fun b o e => (I.bs b o e).1
theorem Inv.mod (I : Inv X pins σ H s) : Mod X.K X.mg X.base := I.ok.mod
theorem Inv.kIn (I : Inv X pins σ H s) : X.K.In s.heap := I.ok.mod.kin.keeps I.bk
theorem Inv.lt (I : Inv X pins σ H s) : X.env.locals < s.heap.objs.size := let ⟨_, hn, _⟩ := I.loc; hn.lt
theorem Inv.sz (I : Inv X pins σ H s) : X.s₀.heap.objs.size ≤ s.heap.objs.size := Nat.le_trans I.ok.above (Nat.le_of_lt I.lt)
theorem Inv.nofs (I : Inv X pins σ H s) {a : Addr} (h : s.heap.objs.size ≤ a) : a ∉ X.fs := fun hb => by
  obtain ⟨_, o, ho, _⟩ := I.ok.funs.mem hb
  exact absurd (Nat.lt_of_lt_of_le (Heap.lt_size ho) (Nat.le_trans I.sz h)) (Nat.lt_irrefl _)
theorem Inv.cne (I : Inv X pins σ H s) : ∀ x c, X.env.cells.lookup x = some c → c ≠ X.env.locals := fun x c e z => by
  obtain ⟨v, o, ho, hd⟩ := I.cell x c e
  obtain ⟨m, ⟨o', es, ep, ho', hd', _⟩, _⟩ := I.loc
  rw [z, ho'] at ho; cases ho; rw [hd'] at hd; cases hd
theorem Inv.funs (I : Inv X pins σ H s) : s.heap.FunFrames X.base X.outer := by
  have all : ∀ (l : List Env), (∀ b ∈ frs l, b ∈ X.fs) → X.s₀.heap.FunFrames X.base l → s.heap.FunFrames X.base l := by
    intro l
    induction l with
    | nil => intro _ _; trivial
    | cons env r ih =>
      intro hs hl
      obtain ⟨hk, ⟨L, o, hf, hn, ho, hd⟩, hr⟩ := hl
      have hL : L ∈ X.fs := hs L (by unfold frs; rw [List.filterMap_cons, hf]; exact List.mem_cons_self)
      obtain ⟨sl, e⟩ := I.base.slot L o ho (I.ok.frf L hL) hL fun z => I.ok.exfs L z hL
      exact ⟨hk, ⟨L, _, hf, hn, e, hd⟩, ih (fun b hb => hs b (by unfold frs; rw [List.filterMap_cons, hf]; exact List.mem_cons_of_mem _ hb)) hr⟩
  exact all X.outer (fun _ hb => hb) I.ok.funs

/-- the frames that run, for a call -/
theorem Inv.stack (I : Inv X pins σ H s) : s.heap.FunFrames X.base X.stack := by
  rcases I.ok.stk with e | ⟨e, hf⟩
  · rw [e]; exact I.funs
  · rw [e]
    obtain ⟨m, hn, _⟩ := I.loc
    refine .cons (by rw [I.ok.kind]; decide) hf hn ?_ I.funs
    exact Heap.get?_none_of_le (Nat.le_trans I.ok.bsz I.ok.above)
theorem Inv.stkSub (I : Inv X pins σ H s) : ∀ b ∈ frs X.stack, b ∈ X.env.locals :: X.fs := fun b hb => by
  rcases I.ok.stk with e | ⟨e, hf⟩
  · rw [e] at hb; exact List.mem_cons_of_mem _ hb
  · rw [e] at hb
    unfold frs at hb
    rw [List.filterMap_cons, hf] at hb
    exact hb
theorem Inv.stkFree (I : Inv X pins σ H s) : ∀ b ∈ frs X.stack, H b = none := fun b hb => by
  rcases List.mem_cons.mp (I.stkSub b hb) with e | hb
  · rw [e]; exact I.free
  · obtain ⟨_, o, ho, _⟩ := I.ok.funs.mem hb
    exact I.base.free b o ho (I.ok.frf b hb) fun z => I.ok.exfs b z hb

/-- THE STEP: the untracked objects but the frame and the records at ch are kept (the callers' frames up to slots), the frame's map is kept, the new abstract heap is held -/
theorem Inv.step {g' : Array GenState} {t' : Nat} {d' : Drawn} {ch : List Addr} (I : Inv X pins σ H s)
    (hch : ∀ b ∈ ch, (b ∈ X.ex ∨ X.s₀.heap.objs.size ≤ b) ∧ b ≠ X.env.locals ∧ (∀ x c, X.env.cells.lookup x = some c → c ≠ b) ∧ ∀ p ∈ X.pn ++ pins, p.1 ≠ b)
    (keep : ∀ b o, b ≠ X.env.locals → b ∉ X.fs → b ∉ ch → s.heap.get? b = some o → H b = none → h'.get? b = some o)
    (slot : ∀ b o, b ≠ X.env.locals → b ∈ X.fs → b ∉ ch → s.heap.get? b = some o → H b = none → ∃ sl, h'.get? b = some { o with slots := sl }) (free : ∀ b o, b ∉ ch → s.heap.get? b = some o → H b = none → H' b = none)
    (there : ∀ b o, b ∉ ch → s.heap.get? b = some o → ∃ o', h'.get? b = some o')
    (tups : ∀ b xs, H b = some (.tup xs) → H' b = some (.tup xs)) (frzs : ∀ b o u, H b = some (.frz o u) → H' b = some (.frz o u)) (tbls : ∀ b ps, H b = some (.tbl ps) → ∃ more, H' b = some (.tbl (ps ++ more)))
    (ns : ∀ m, s.heap.Ns X.env.locals m → h'.Ns X.env.locals m) (hok : HOk X.prog X.w H' h') (hg : AllBare g') :
    Inv X pins σ H' { s with heap := h', gens := g', drawn := d', toks := t' } := by
  have neL : ∀ b o, X.s₀.heap.get? b = some o → b ≠ X.env.locals := fun b o e => Nat.ne_of_lt (Nat.lt_of_lt_of_le (Heap.lt_size e) I.ok.above)
  have neC : ∀ b o, X.s₀.heap.get? b = some o → b ∉ X.ex → b ∉ ch := fun b o e hx hb => by
    rcases (hch b hb).1 with z | z
    · exact hx z
    · exact absurd (Nat.lt_of_lt_of_le (Heap.lt_size e) z) (Nat.lt_irrefl _)
  have cellK : ∀ x c, X.env.cells.lookup x = some c → ∀ v, s.heap.IsCell c v → h'.IsCell c v := fun x c e v ⟨o, ho, hd⟩ => by
    have nch : c ∉ ch := fun z => (hch c z).2.2.1 x c e rfl
    by_cases hc : c ∈ X.fs
    · obtain ⟨sl, q⟩ := slot c o (I.cne x c e) hc nch ho (I.freeC x c e)
      exact ⟨_, q, hd⟩
    · exact ⟨o, keep c o (I.cne x c e) hc nch ho (I.freeC x c e), hd⟩
  refine ⟨I.ok, I.os, hg, ⟨fun b o e n hb hx => ?_, fun b o e n hb hx => ?_, fun b o e n hx => ?_, fun b o e hx => ?_, fun b xs e => tups b xs (I.base.tups b xs e), fun b o xs e => frzs b o xs (I.base.frzs b o xs e), fun b ps e => ?_⟩, ?_, fun x c e => ?_, ?_, fun x c e => ?_, fun p hp => ?_, hok, I.len⟩
  · exact keep b o (neL b o e) hb (neC b o e hx) (I.base.keep b o e n hb hx) (I.base.free b o e n hx)
  · obtain ⟨sl, e1⟩ := I.base.slot b o e n hb hx
    obtain ⟨sl', e2⟩ := slot b _ (neL b o e) hb (neC b o e hx) e1 (I.base.free b o e n hx)
    exact ⟨sl', e2⟩
  · obtain ⟨o', e1⟩ := I.base.there b o e hx
    exact free b o' (neC b o e hx) e1 (I.base.free b o e n hx)
  · obtain ⟨o', e1⟩ := I.base.there b o e hx
    exact there b o' (neC b o e hx) e1
  · obtain ⟨m1, e1⟩ := I.base.tbls b ps e
    obtain ⟨m2, e2⟩ := tbls b _ e1
    exact ⟨m1 ++ m2, by rw [e2, Array.append_assoc]⟩
  · obtain ⟨m, hn, hl⟩ := I.loc
    refine ⟨m, ns m hn, fun i x v e1 e2 e3 => ?_⟩
    obtain ⟨u, r, l⟩ := hl i x v e1 e2 e3
    refine ⟨u, r, ?_⟩
    rcases l with l | ⟨k, c, e, z⟩
    · exact .inl l
    · exact .inr ⟨k, c, e, cellK x c e _ z⟩
  · obtain ⟨v, z⟩ := I.cell x c e
    exact ⟨v, cellK x c e v z⟩
  · obtain ⟨m, ⟨o, _, _, ho, _⟩, _⟩ := I.loc
    exact free _ o (fun z => (hch _ z).2.1 rfl) ho I.free
  · obtain ⟨v, o, ho, hd⟩ := I.cell x c e
    exact free c o (fun z => (hch c z).2.2.1 x c e rfl) ho (I.freeC x c e)
  · obtain ⟨e, n, ne, nf, d⟩ := I.pin p hp
    have nch : p.1 ∉ ch := fun z => (hch p.1 z).2.2.2 p hp rfl
    exact ⟨keep p.1 p.2 ne nf nch e n, free p.1 p.2 nch e n, ne, nf, d⟩
/-- .. where the frame's own object is kept too -/
theorem Inv.un {t' : Nat} (I : Inv X pins σ H s) (u : Un X.fs [] H H' s.heap h') (hok : HOk X.prog X.w H' h') : Inv X pins σ H' { s with heap := h', toks := t' } := by
  obtain ⟨m, ⟨o, es, ep, ho, r⟩, _⟩ := id I.loc
  obtain ⟨sl, hL⟩ := u.any ho I.free (by simp)
  exact I.step (g' := s.gens) (d' := s.drawn) (ch := []) (fun _ z => nomatch z) (fun b o _ hb _ e n => u.keep b o e n hb (by simp)) (fun b o _ hb _ e n => u.slot b o e n hb (by simp)) (fun b o _ e n => u.free b o e n (by simp)) (fun b o _ e => u.there b o e (by simp)) u.tups u.frzs u.tbls (fun m' hm => by
    obtain ⟨o', es', ep', ho', r'⟩ := hm
    rw [ho] at ho'; cases ho'
    exact ⟨_, es', ep', hL, r'⟩) hok I.bare
/-- behind a call (or a comprehension's block): the slots of this frame may have changed too, the records at ch may have turned -/
theorem Inv.call {g' : Array GenState} {t' : Nat} {d' : Drawn} {ch : List Addr} (I : Inv X pins σ H s) (u : Un (frs X.stack) ch H H' s.heap h') (hok : HOk X.prog X.w H' h') (hg : AllBare g')
    (hch : ∀ b ∈ ch, (b ∈ X.ex ∨ X.s₀.heap.objs.size ≤ b) ∧ b ≠ X.env.locals ∧ (∀ x c, X.env.cells.lookup x = some c → c ≠ b) ∧ ∀ p ∈ X.pn ++ pins, p.1 ≠ b) :
    Inv X pins σ H' { s with heap := h', gens := g', drawn := d', toks := t' } := by
  obtain ⟨m, ⟨o, es, ep, ho, r⟩, _⟩ := id I.loc
  obtain ⟨sl, hL⟩ := u.any ho I.free fun z => (hch _ z).2.1 rfl
  exact I.step (ch := ch) hch (fun b o hL hb hc e n => u.keep b o e n (fun z => (List.mem_cons.mp (I.stkSub b z)).elim hL hb) hc) (fun b o _ _ hc e n => u.any e n hc) (fun b o hc e n => u.free b o e n hc) (fun b o hc e => u.there b o e hc) u.tups u.frzs u.tbls (fun m' hm => by
    obtain ⟨o', es', ep', ho', r'⟩ := hm
    rw [ho] at ho'; cases ho'
    exact ⟨_, es', ep', hL, r'⟩) hok hg
/-- an untracked record of ours (an iterator) has turned -/
theorem Inv.turned {t' : Nat} {it : Addr} (I : Inv X pins σ H s) (k : ∀ b o, b ≠ it → s.heap.get? b = some o → h'.get? b = some o) (hn : H it = none) (hL : it ≠ X.env.locals)
    (h1 : it ∈ X.ex ∨ X.s₀.heap.objs.size ≤ it) (h2 : ∀ x c, X.env.cells.lookup x = some c → c ≠ it) (h3 : ∀ p ∈ X.pn ++ pins, p.1 ≠ it) : Inv X pins σ H { s with heap := h', toks := t' } := by
  have nit : ∀ b u, H b = some u → b ≠ it := fun b u e z => by rw [z, hn] at e; cases e
  refine I.step (g' := s.gens) (d' := s.drawn) (ch := [it]) (fun b hb => ?_) (fun b o _ _ hc e _ => k b o (fun z => hc (by simp [z])) e) (fun b o _ _ hc e _ => ⟨o.slots, k b o (fun z => hc (by simp [z])) e⟩) (fun _ _ _ _ n => n)
    (fun b o hc e => ⟨o, k b o (fun z => hc (by simp [z])) e⟩) (fun _ _ e => e) (fun _ _ _ e => e) (fun b ps e => ⟨#[], by rw [e]; simp⟩) (fun m hm => ?_) (fun b u e => ?_) I.bare
  · have e : b = it := by simpa using hb
    subst e
    exact ⟨h1, hL, h2, h3⟩
  · obtain ⟨o, es, ep, ho, r⟩ := hm
    exact ⟨o, es, ep, k _ o (Ne.symm hL) ho, r⟩
  · refine (I.hok b u e).stay (fun c v hc q => k c v ?_ q) (fun _ q => q) fun _ _ q => q
    rcases hc with z | z
    · rw [z]; exact nit b u e
    · exact nit c _ z
theorem Inv.tok (I : Inv X pins σ H s) (t : Nat) : Inv X pins σ H { s with toks := t } := I.un (h' := s.heap) (t' := t) Un.refl I.hok
/-- all objects kept -/
theorem Inv.kept {t' : Nat} (I : Inv X pins σ H s) (k : ∀ b u, s.heap.get? b = some u → h'.get? b = some u) : Inv X pins σ H { s with heap := h', toks := t' } := I.un (Un.kept k) (I.hok.kept k)
/-- a new object laid and tracked -/
theorem Inv.laid {a : Addr} {o : HO} {t' : Nat} (I : Inv X pins σ H s) (k : ∀ b u, s.heap.get? b = some u → h'.get? b = some u) (hp : s.heap.objs.size ≤ a) (new : ObjOk X.prog X.w (upd H a o) h' a o) :
    Inv X pins σ (upd H a o) { s with heap := h', toks := t' } := I.un (Un.laid k hp (I.hok.fresh hp)) (I.hok.laid k hp new)
/-- an object written -/
theorem Inv.write {x e : Addr} {o : HO} {t' : Nat} (I : Inv X pins σ H s) (mu : Mut (H x)) (he : e = x ∨ H e = some (.own x)) (k : ∀ b u, b ≠ e → s.heap.get? b = some u → h'.get? b = some u) (heo : ∃ u, h'.get? e = some u)
    (new : ObjOk X.prog X.w (upd H x o) h' x o) : Inv X pins σ (upd H x o) { s with heap := h', toks := t' } := I.un (Un.write mu he k heo) (I.hok.write mu he k heo new)
theorem Inv.pins_of {pins' : List (Addr × Obj)} (I : Inv X pins σ H s) (h : ∀ p ∈ pins', s.heap.get? p.1 = some p.2 ∧ H p.1 = none ∧ p.1 ≠ X.env.locals ∧ p.1 ∉ X.fs ∧ ∀ v, p.2.data ≠ .cell v) : Inv X pins' σ H s :=
  ⟨I.ok, I.os, I.bare, I.base, I.loc, I.cell, I.free, I.freeC, fun p hp => (List.mem_append.mp hp).elim (fun z => I.pin p (List.mem_append_left _ z)) (h p), I.hok, I.len⟩

theorem nodup_ix {N : List Str} (hN : N.Nodup) {i j : Nat} {x : Str} (a : N[i]? = some x) (b : N[j]? = some x) : i = j := by
  obtain ⟨h1, e1⟩ := List.getElem?_eq_some_iff.mp a
  obtain ⟨h2, e2⟩ := List.getElem?_eq_some_iff.mp b
  exact (List.getElem_inj hN).mp (e1.trans e2.symm)

/-- a name is stored; what changed -/
theorem store_ok2 {M : Model} {A : Around} {E : Value → Shared → Prop} {i : Nat} {x : Str} {v : V} {u : Value} {Q : Unit → Shared → Prop} (I : Inv X pins σ H s) (hN : X.N.Nodup) (hi : X.N[i]? = some x) (hx : Loc X.env.scope x) (r : RelV v u)
    (h : ∀ s', Inv X pins (σ.set i (some v)) H s' → (∃ a, Heap.SameBut a s.heap s'.heap ∧ (a = X.env.locals ∨ X.env.cells.lookup x = some a)) → Q () s') (hf : X.fn x = true ∨ X.env.scope.names.lookup x = some .local := by first | exact .inl rfl | exact .inr rfl | assumption) : wpAny M A (storeName X.env x u) Q E s := by
  obtain ⟨m, hn, hl⟩ := id I.loc
  have hcls : (X.env.scope.kind == .class || (X.env.scope.kind == .module && X.env.locals != X.env.globals)) = false := by rw [I.ok.kind]; rfl
  have hiσ : i < σ.length := by rw [I.len]; exact (List.getElem?_eq_some_iff.mp hi).1
  have cne := I.cne
  have tracked : ∀ {a : Addr} {h' : Heap}, (∃ o, s.heap.get? a = some o ∧ H a = none) → Heap.SameBut a s.heap h' → HOk X.prog X.w H h' := fun {a h'} ha hs b ob e => by
    obtain ⟨_, _, hfree⟩ := ha
    refine (I.hok b ob e).stay (fun c w' hc q => (hs.2 c ?_).trans q) (fun _ q => q) fun _ _ q => q
    rintro rfl
    rcases hc with rfl | hc
    · rw [hfree] at e; cases e
    · rw [hfree] at hc; cases hc
  rcases hx with hk | hk
  · refine wpAny_storeName_local hk hn (fun h' hn' hs => ?_) hcls
    obtain ⟨oL, _, _, hoL, _⟩ := id hn
    refine h _ ⟨I.ok, I.os, I.bare, ⟨fun b o e n hb hx => ?_, fun b o e n hb hx => ?_, I.base.free, fun b o e hx => ?_, I.base.tups, I.base.frzs, I.base.tbls⟩, ⟨_, hn', fun j y v' e1 e2 e3 => ?_⟩, fun y c e => ?_, I.free, I.freeC, fun p hp => ?_, tracked ⟨oL, hoL, I.free⟩ hs, by simpa using I.len⟩ ⟨_, hs, .inl rfl⟩
    · exact (hs.2 b (Nat.ne_of_lt (Nat.lt_of_lt_of_le (Heap.lt_size e) I.ok.above))).trans (I.base.keep b o e n hb hx)
    · obtain ⟨sl, e1⟩ := I.base.slot b o e n hb hx
      exact ⟨sl, (hs.2 b (Nat.ne_of_lt (Nat.lt_of_lt_of_le (Heap.lt_size e) I.ok.above))).trans e1⟩
    · obtain ⟨o', e1⟩ := I.base.there b o e hx
      exact ⟨o', (hs.2 b (Nat.ne_of_lt (Nat.lt_of_lt_of_le (Heap.lt_size e) I.ok.above))).trans e1⟩
    · by_cases hj : j = i
      · subst hj
        rw [hi] at e1; cases e1
        rw [List.getElem?_set_self hiσ] at e2
        cases e2
        exact ⟨u, r, .inl ⟨hk, by simp⟩⟩
      · rw [List.getElem?_set_ne (Ne.symm hj)] at e2
        obtain ⟨u', r', q⟩ := hl j y v' e1 e2 e3
        refine ⟨u', r', ?_⟩
        rcases q with ⟨k, e⟩ | ⟨k, c, e, z⟩
        · refine .inl ⟨k, ?_⟩
          have : y ≠ x := fun e => hj (nodup_ix hN e1 (e ▸ hi))
          simp [this, e]
        · exact .inr ⟨k, c, e, z.sameBut hs (cne y c e)⟩
    · obtain ⟨w', z⟩ := I.cell y c e
      exact ⟨w', z.sameBut hs (cne y c e)⟩
    · obtain ⟨e, n, ne, nf, d⟩ := I.pin p hp
      exact ⟨(hs.2 p.1 ne).trans e, n, ne, nf, d⟩
  · have hfn : X.fn x = true := by
      rcases hf with z | z
      · exact z
      · rw [z] at hk; cases hk
    obtain ⟨c, hc⟩ := I.ok.has x (.inl hk)
    obtain ⟨w', z⟩ := I.cell x c hc
    refine wpAny_storeName_cell I.ok.kind hk hc z (fun h' hc' hs => ?_)
    obtain ⟨oc, hoc, hocd⟩ := id z
    refine h { s with heap := h' } ⟨I.ok, I.os, I.bare, ⟨fun b o e n hb hx => ?_, fun b o e n hb hx => ?_, I.base.free, fun b o e hx => ?_, I.base.tups, I.base.frzs, I.base.tbls⟩, ⟨m, hn.sameBut hs (Ne.symm (cne x c hc)), fun j y v' e1 e2 e3 => ?_⟩, fun y c' e => ?_, I.free, I.freeC, fun p hp => ?_, tracked ⟨oc, hoc, I.freeC x c hc⟩ hs, by simpa using I.len⟩ ⟨c, hs, .inr hc⟩
    · exact (hs.2 b (Nat.ne_of_lt (Nat.lt_of_lt_of_le (Heap.lt_size e) (I.ok.cab x c hfn hc)))).trans (I.base.keep b o e n hb hx)
    · obtain ⟨sl, e1⟩ := I.base.slot b o e n hb hx
      exact ⟨sl, (hs.2 b (Nat.ne_of_lt (Nat.lt_of_lt_of_le (Heap.lt_size e) (I.ok.cab x c hfn hc)))).trans e1⟩
    · obtain ⟨o', e1⟩ := I.base.there b o e hx
      exact ⟨o', (hs.2 b (Nat.ne_of_lt (Nat.lt_of_lt_of_le (Heap.lt_size e) (I.ok.cab x c hfn hc)))).trans e1⟩
    · by_cases hj : j = i
      · subst hj
        rw [hi] at e1; cases e1
        rw [List.getElem?_set_self hiσ] at e2
        cases e2
        exact ⟨u, r, .inr ⟨.inl hk, c, hc, hc'⟩⟩
      · rw [List.getElem?_set_ne (Ne.symm hj)] at e2
        obtain ⟨u', r', q⟩ := hl j y v' e1 e2 e3
        refine ⟨u', r', ?_⟩
        rcases q with q | ⟨k, c', e, z'⟩
        · exact .inl q
        · refine .inr ⟨k, c', e, z'.sameBut hs ?_⟩
          rintro rfl
          exact hj (nodup_ix hN e1 (I.ok.inj _ _ _ e hc ▸ hi))
    · by_cases hcc : c' = c
      · subst hcc; exact ⟨_, hc'⟩
      · obtain ⟨w2, z2⟩ := I.cell y c' e
        exact ⟨w2, z2.sameBut hs hcc⟩
    · obtain ⟨e, n, ne, nf, d⟩ := I.pin p hp
      refine ⟨(hs.2 p.1 ?_).trans e, n, ne, nf, d⟩
      intro q
      rw [q, hoc] at e
      have q' : oc = p.2 := Option.some.inj e
      exact d w' (by rw [← q']; exact hocd)
theorem store_ok {M : Model} {A : Around} {E : Value → Shared → Prop} {i : Nat} {x : Str} {v : V} {u : Value} {Q : Unit → Shared → Prop} (I : Inv X pins σ H s) (hN : X.N.Nodup) (hi : X.N[i]? = some x) (hx : Loc X.env.scope x) (r : RelV v u)
    (h : ∀ s', Inv X pins (σ.set i (some v)) H s' → Q () s') (hf : X.fn x = true ∨ X.env.scope.names.lookup x = some .local := by first | exact .inl rfl | exact .inr rfl | assumption) : wpAny M A (storeName X.env x u) Q E s :=
  store_ok2 I hN hi hx r (fun s' I' _ => h s' I') hf
end

/-! ### the judgements -/
/-- an exception: its class, its own dict's address (where it has one), the abstract heap behind it -/
abbrev XK := Value → Option Addr → Hp → Prop
abbrev St := List (Option V)
abbrev VK := V → Hp → Prop
/-- an expression's reading; a test's; an argument list's -/
abbrev TE := St → Hp → VK → Prop
abbrev TT := St → Hp → (Bool → Hp → Prop) → Prop
abbrev TA := St → Hp → (List V → Hp → Prop) → Prop
/-- what is wanted behind a statement -/
structure Ends where
  nx : St → Hp → Prop
  rt : VK
  bk : St → Hp → Prop := fun _ _ => False
  ct : St → Hp → Prop := fun _ _ => False
abbrev TS := Ends → St → Hp → Prop

def EP (X : Cx) (pins : List (Addr × Obj)) (σ : St) (Q : VK) (u : Value) (s' : Shared) : Prop := ∃ v H', Inv X pins σ H' s' ∧ RelV v u ∧ Q v H'
def TP (X : Cx) (pins : List (Addr × Obj)) (σ : St) (Q : Bool → Hp → Prop) (b : Bool) (s' : Shared) : Prop := ∃ H', Inv X pins σ H' s' ∧ Q b H'
def AP (X : Cx) (pins : List (Addr × Obj)) (σ : St) (Q : List V → Hp → Prop) (us : List Value) (s' : Shared) : Prop := ∃ vs H', Inv X pins σ H' s' ∧ Vals vs us ∧ Q vs H'
def SP (X : Cx) (pins : List (Addr × Obj)) (D : Ends) (f : Flow) (s' : Shared) : Prop :=
  match f with
  | .next => ∃ σ' H', Inv X pins σ' H' s' ∧ D.nx σ' H'
  | .brk => ∃ σ' H', Inv X pins σ' H' s' ∧ D.bk σ' H'
  | .cont => ∃ σ' H', Inv X pins σ' H' s' ∧ D.ct σ' H'
  | .ret u => ∃ v σ' H', Inv X pins σ' H' s' ∧ RelV v u ∧ D.rt v H'

def PE (X : Cx) (e : Expr) (t : TE) : Prop :=
  ∀ (pins : List (Addr × Obj)) (s : Shared) (σ : St) (H : Hp) (Q : VK), Inv X pins σ H s → t σ H Q → wpAny (model X.prog X.w) X.A (eval e X.env) (EP X pins σ Q) X.xe s
def PT (X : Cx) (e : Expr) (t : TT) : Prop :=
  ∀ (pins : List (Addr × Obj)) (s : Shared) (σ : St) (H : Hp) (Q : Bool → Hp → Prop), Inv X pins σ H s → t σ H Q → wpAny (model X.prog X.w) X.A (isTrue e X.env (eval e X.env)) (TP X pins σ Q) X.xe s
/-- a test whatever its 'whole' is (and, or) -/
def PW (X : Cx) (e : Expr) (t : TT) : Prop :=
  ∀ (whole : Sem Value) (pins : List (Addr × Obj)) (s : Shared) (σ : St) (H : Hp) (Q : Bool → Hp → Prop), Inv X pins σ H s → t σ H Q → wpAny (model X.prog X.w) X.A (isTrue e X.env whole) (TP X pins σ Q) X.xe s
theorem PW.pt {X : Cx} {e : Expr} {t : TT} (h : PW X e t) : PT X e t := h _
/-- an argument list (no star), from the left -/
def PA (X : Cx) (es : List Expr) (t : TA) : Prop :=
  ∀ (pos : Pos) (pins : List (Addr × Obj)) (s : Shared) (σ : St) (H : Hp) (Q : List V → Hp → Prop), Inv X pins σ H s → t σ H Q → wpAny (model X.prog X.w) X.A (spliced (backTo pos (starEach es X.env))) (AP X pins σ Q) X.xe s
def PS (X : Cx) (st : Stmt) (t : TS) : Prop :=
  ∀ (pins : List (Addr × Obj)) (s : Shared) (σ : St) (H : Hp) (D : Ends), Inv X pins σ H s → t D σ H → wpAny (model X.prog X.w) X.A (exec st X.env) (SP X pins D) X.xe s
def PSs (X : Cx) (st : List Stmt) (t : TS) : Prop :=
  ∀ (pins : List (Addr × Obj)) (s : Shared) (σ : St) (H : Hp) (D : Ends), Inv X pins σ H s → t D σ H → wpAny (model X.prog X.w) X.A (execs st X.env) (SP X pins D) X.xe s
/-- weaken the end -/
theorem thn {α : Type} {t : Sem α} {Q Q' : α → Shared → Prop} {M : Model} {A : Around} {E : Value → Shared → Prop} {s : Shared} (h : wpAny M A t Q E s) (hQ : ∀ a s, Q a s → Q' a s) : wpAny M A t Q' E s := wpAny_mono h hQ fun _ _ x => x
end L2

namespace L2
open PySem PySem.Spec PyProof.Rows
section
variable {X : Cx}

/-! ### names and constants -/
def tVar (i : Nat) : TE := fun σ H Q => ∃ v, σ[i]? = some (some v) ∧ Q v H
def tC (v : V) : TE := fun _ H Q => Q v H
theorem pe_var {i : Nat} {x : Str} {pos : Pos} (hN : X.N[i]? = some x) (hv : Vis X.env.scope x) (hd : (x == ("__debug__" : Str)) = false := by decide) (hcd : (x == ("__classdict__" : Str)) = false := by decide) : PE X (.Name x pos) (tVar i) := by
  intro pins s σ H Q I h
  obtain ⟨v, e, h⟩ := h
  obtain ⟨m, hn, hl⟩ := I.loc
  obtain ⟨u, r, l⟩ := hl i x v hN e hv
  have fin : EP X pins σ Q u s := ⟨v, H, I, r, h⟩
  rcases l with ⟨hk, hm⟩ | ⟨hk, c, hc, hcell⟩
  · exact wpAny_Name (wpAny_loadName_local I.ok.kind hk hn hm fin) hd
  · rcases hk with hk | hk
    · exact wpAny_Name (wpAny_loadName_cell I.ok.kind hk hc hcell fin) hd
    · exact wpAny_Name (wpAny_loadName_free I.ok.kind hk hc hcell fin hcd) hd
theorem pe_int {i j pos} : PE X (.Constant (.int i) j pos) (tC (.int i)) := fun _ _ _ H _ I h => wpAny_Constant_int ⟨.int i, H, I.tok _, ⟨_, rfl⟩, h⟩
theorem pe_bl {b j pos} : PE X (.Constant (.bool b) j pos) (tC (.bl b)) := fun _ _ _ H _ I h => Constant_bool ⟨.bl b, H, I, rfl, h⟩
theorem pe_non {j pos} : PE X (.Constant .none j pos) (tC .non) := fun _ _ _ H _ I h => Constant_none ⟨.non, H, I, rfl, h⟩
theorem pe_str {x j pos} : PE X (.Constant (.str x) j pos) (tC (.str x)) := fun _ _ _ H _ I h => Calls.Constant_str ⟨.str x, H, I.tok _, ⟨_, rfl⟩, h⟩

/-- a global name of the def -/
def Gl (X : Cx) (x : Str) : Prop := X.env.kindOf x = some .globalImplicit
theorem ld_glob {E : Value → Shared → Prop} {pins : List (Addr × Obj)} {s : Shared} {σ : St} {H : Hp} {x : Str} {u : Value} {pos : Pos} {Q : Value → Shared → Prop} (I : Inv X pins σ H s) (hg : Gl X x) (hm : X.mg x = some u) (h : Q u s)
    (hd : (x == ("__debug__" : Str)) = false := by decide) : wpAny (model X.prog X.w) X.A (eval (.Name x pos) X.env) Q E s :=
  Calls.Name_function_global I.ok.kind hg (Calls.loadGlobal_global (by rw [I.ok.glob]; exact I.mod.glob.keeps I.bk) hm h) hd
theorem ld_blt {E : Value → Shared → Prop} {pins : List (Addr × Obj)} {s : Shared} {σ : St} {H : Hp} {x : Str} {u : Value} {pos : Pos} {Q : Value → Shared → Prop} (I : Inv X pins σ H s) (hg : Gl X x) (hm : X.mg x = none) (hv : bootBuiltins x = some u) (h : Q u s)
    (hn : x ≠ "__name__" := by decide) (hd : (x == ("__debug__" : Str)) = false := by decide) : wpAny (model X.prog X.w) X.A (eval (.Name x pos) X.env) Q E s := by
  obtain ⟨mb, h1, h2⟩ := I.mod.blt
  exact Calls.Name_function_global I.ok.kind hg (Calls.loadGlobal_builtin (by rw [I.ok.glob]; exact I.mod.glob.keeps I.bk) hm (by rw [I.ok.blt]; exact h1.keeps I.bk) ((h2 x hn).trans hv) h) hd
/-- a module's constant, a class, a function, as a value -/
theorem pe_glob {x : Str} {v : V} {u : Value} {pos : Pos} (hg : Gl X x) (hm : X.mg x = some u) (r : RelV v u) (hd : (x == ("__debug__" : Str)) = false := by decide) : PE X (.Name x pos) (tC v) :=
  fun _ _ _ H _ I h => ld_glob I hg hm ⟨v, H, I, r, h⟩ hd
/-! ### arithmetic -/
variable {a b : Expr} {ta tb : TE} {pos : Pos}
/-! ### comparisons -/
def PC (X : Cx) (op : CmpOp) (a b : Expr) (t : TE) : Prop :=
  ∀ (pins : List (Addr × Obj)) (s : Shared) (σ : St) (H : Hp) (Q : VK), Inv X pins σ H s → t σ H Q →
    wpAny (model X.prog X.w) X.A (eval a X.env) (fun v s₁ => wpAny (model X.prog X.w) X.A (eval b X.env) (fun u s₂ => wpAny (model X.prog X.w) X.A (compareOp op v u) (EP X pins σ Q) X.xe s₂) X.xe s₁) X.xe s
/-- a comparison as a value, as a test -/
def tB (t : TE) : TT := fun σ H Q => t σ H fun x H1 => ∃ c, x = .bl c ∧ Q c H1
theorem pt_cmp {op : CmpOp} {t : TE} (h : PC X op a b t) (h1 : behindInMarks op b = false := by first | exact nobehind _ (by decide) (by decide) | rfl) : PT X (.Compare a [op] [b] pos) (tB t) := by
  intro pins s σ H Q I hw
  refine wpAny_isTrue_Compare1 (thn (h pins s σ H _ I hw) fun v s1 h1 => thn h1 fun u s2 h2 => thn h2 fun c s3 ⟨x, H1, I1, r1, q1⟩ => ?_) h1
  obtain ⟨d, rfl, q⟩ := q1
  cases r1
  exact wpAny_truthy_bool ⟨H1, I1, q⟩
/-! ### and, or, not -/
variable {tA tB' : TT} {rest : List Expr}
def tAnd (t u : TT) : TT := fun σ H Q => t σ H fun c H1 => if c = true then u σ H1 Q else Q false H1
def tNot (t : TT) : TT := fun σ H Q => t σ H fun c H1 => Q (!c) H1
theorem pw_and1 (ha : PT X a tA) : PW X (.BoolOp .And [a] pos) tA := by
  intro wh pins s σ H Q I h
  refine isTrue_and (thn (ha pins s σ H Q I h) fun c s1 e => ?_)
  cases c with
  | true => exact isTrue_and_nil e
  | false => exact e
theorem pw_and (ha : PT X a tA) (hb : PW X (.BoolOp .And (b :: rest) pos) tB') : PW X (.BoolOp .And (a :: b :: rest) pos) (tAnd tA tB') := by
  intro wh pins s σ H Q I h
  refine isTrue_and (thn (ha pins s σ H _ I h) fun c s1 ⟨H1, I1, q1⟩ => ?_)
  cases c with
  | true => exact hb wh pins s1 σ H1 Q I1 q1
  | false => exact ⟨H1, I1, q1⟩
theorem pt_not (ha : PT X a tA) : PT X (.UnaryOp .Not a pos) (tNot tA) := by
  intro pins s σ H Q I h
  exact isTrue_not (ha pins s σ H (fun c H1 => Q (!c) H1) I h)
/-- .. as values (bools) -/
def tAndV (ta tb : TE) : TE := fun σ H Q => ta σ H fun x H1 => ∃ c, x = .bl c ∧ if c = true then tb σ H1 Q else Q (.bl false) H1
theorem pe_one {op} {t : TE} (h : PE X a t) : PE X (.BoolOp op [a] pos) t := fun pins s σ H Q I hw => BoolOp_one (h pins s σ H Q I hw)
theorem pe_and (ha : PE X a ta) (hb : PE X (.BoolOp .And (b :: rest) pos) tb) : PE X (.BoolOp .And (a :: b :: rest) pos) (tAndV ta tb) := by
  intro pins s σ H Q I h
  refine BoolOp_and (thn (ha pins s σ H _ I h) fun v s1 ⟨x, H1, I1, r1, q1⟩ => ?_)
  obtain ⟨c, rfl, q1⟩ := q1
  cases r1
  refine wpAny_truthy_bool ?_
  cases c with
  | true => exact hb pins s1 σ H1 Q I1 q1
  | false => exact ⟨.bl false, H1, I1, rfl, q1⟩
/-- a if t else b -/
def tIf (t : TT) (ta tb : TE) : TE := fun σ H Q => t σ H fun c H1 => if c = true then ta σ H1 Q else tb σ H1 Q
theorem pe_ifExp {c : Expr} (hc : PT X c tA) (ha : PE X a ta) (hb : PE X b tb) : PE X (.IfExp c a b pos) (tIf tA ta tb) := by
  intro pins s σ H Q I h
  refine wpAny_IfExp (thn (hc pins s σ H _ I h) fun d s1 ⟨H1, I1, q1⟩ => ?_)
  cases d with
  | true => exact ha pins s1 σ H1 Q I1 q1
  | false => exact hb pins s1 σ H1 Q I1 q1
end
end L2

namespace L2
open PySem PySem.Spec PyProof.Rows

/-! ### a list, a tuple that is read: tracked, frozen, or an object of the module -/
def SqL (K : PySem.W.Frag) (H : Hp) (a : Addr) (xs : List V) : Prop :=
  Rd H a (.lst xs) ∨
    ∃ (o : Obj) (its : Array Value) (n : Nat), K.lookup a = some o ∧ o.cls = .type "list" ∧ o.dict = none ∧ o.data = .seq its n ∧ its.size ≤ sizeLine ∧ Vals xs its.toList
def SqT (K : PySem.W.Frag) (H : Hp) (a : Addr) (xs : List V) : Prop :=
  Rd H a (.tup xs) ∨
    ∃ (o : Obj) (its : Array Value) (n : Nat), K.lookup a = some o ∧ o.cls = .type "tuple" ∧ o.data = .seq its n ∧ its.size ≤ sizeLine ∧ Vals xs its.toList
def absV : Value → Option V
  | .none => some .non
  | .bool b => some (.bl b)
  | .int i _ => some (.int i)
  | .str x _ => some (.str x)
  | .bytes b _ => some (.byt b)
  | .float b _ => some (.flt b)
  | .ref a => some (.ref a)
  | .type n => some (.ty n)
  | _ => none
theorem RelV.abs {x : V} {u : Value} (r : RelV x u) : absV u = some x := by
  cases x with
  | non => cases r; rfl
  | bl _ => cases r; rfl
  | int _ => obtain ⟨t, rfl⟩ := r; rfl
  | str _ => obtain ⟨t, rfl⟩ := r; rfl
  | byt _ => obtain ⟨t, rfl⟩ := r; rfl
  | flt _ => obtain ⟨t, rfl⟩ := r; rfl
  | ref _ => cases r; rfl
  | ty _ => cases r; rfl
theorem RelV.inj {x y : V} {u : Value} (r : RelV x u) (q : RelV y u) : x = y := Option.some.inj (r.abs.symm.trans q.abs)
theorem Vals.inj : ∀ {xs ys : List V} {us : List Value}, Vals xs us → Vals ys us → xs = ys
  | _, _, _, .nil, .nil => rfl
  | _, _, _, .cons r t, .cons r' t' => by rw [r.inj r', Vals.inj t t']
section
variable {X : Cx} {pins : List (Addr × Obj)} {σ : St} {H : Hp} {s : Shared} {a : Addr} {xs ys : List V}
theorem SqL.of {K : PySem.W.Frag} (h : H a = some (.lst xs)) : SqL K H a xs := .inl (.inl h)
theorem SqT.of {K : PySem.W.Frag} (h : H a = some (.tup xs)) : SqT K H a xs := .inl (.inl h)
theorem Inv.list (I : Inv X pins σ H s) (h : SqL X.K H a xs) : ∃ its : List Value, Vals xs its ∧ PlainL s.heap a its.toArray ∧ xs.length ≤ sizeLine := by
  rcases h with h | ⟨o, its, n, hk, hc, hd, hs, hz, r⟩
  · obtain ⟨z, its, n, r, e⟩ := h.ok I.hok
    exact ⟨its, r, ⟨_, n, e, rfl, rfl, rfl⟩, z⟩
  · refine ⟨its.toList, r, ⟨o, n, I.kIn a o hk, hc, hd, by simpa using hs⟩, ?_⟩
    have e := r.length
    simp only [Array.length_toList] at e
    (first | lia | omega)
theorem Inv.tuple (I : Inv X pins σ H s) (h : SqT X.K H a xs) : ∃ its : List Value, Vals xs its ∧ IsTup s.heap a its.toArray ∧ xs.length ≤ sizeLine := by
  rcases h with h | ⟨o, its, n, hk, hc, hs, hz, r⟩
  · obtain ⟨z, its, r, p⟩ := h.ok I.hok
    exact ⟨its, r, p, z⟩
  · refine ⟨its.toList, r, ⟨o, I.kIn a o hk, hc, n, by simpa using hs⟩, ?_⟩
    have e := r.length
    simp only [Array.length_toList] at e
    (first | lia | omega)
theorem Inv.list_inj (I : Inv X pins σ H s) (h : SqL X.K H a xs) (h' : SqL X.K H a ys) : xs = ys := by
  obtain ⟨its, r, ⟨o, n, e, _, _, d⟩, _⟩ := I.list h
  obtain ⟨its', r', ⟨o', n', e', _, _, d'⟩, _⟩ := I.list h'
  rw [e] at e'; cases e'
  rw [d] at d'
  injection d' with d1 _
  have : its = its' := by simpa using congrArg Array.toList d1
  subst this
  exact r.inj r'
theorem Inv.tuple_inj (I : Inv X pins σ H s) (h : SqT X.K H a xs) (h' : SqT X.K H a ys) : xs = ys := by
  obtain ⟨its, r, ⟨o, e, _, n, d⟩, _⟩ := I.tuple h
  obtain ⟨its', r', ⟨o', e', _, n', d'⟩, _⟩ := I.tuple h'
  rw [e] at e'; cases e'
  rw [d] at d'
  injection d' with d1 _
  have : its = its' := by simpa using congrArg Array.toList d1
  subst this
  exact r.inj r'
end

/-! ### another wish about exceptions -/
abbrev Cx.wish (X : Cx) (E : Value → Shared → Prop) : Cx := { X with xe := E }
/-- no exception leaves -/
abbrev Cx.nox (X : Cx) : Cx := X.wish fun _ _ => False
theorem Cx.Ok.wish {X : Cx} (ok : X.Ok) (E : Value → Shared → Prop) : (X.wish E).Ok :=
  ⟨ok.mod, ok.kind, ok.glob, ok.blt, ok.above, ok.inj, ok.has, ok.cab, ok.hd, ok.frames, ok.stk, ok.exf, ok.bs, ok.bsz, ok.noex, ok.exfs, ok.funs, ok.frf⟩
theorem Cx.Ok.unwish {X : Cx} {E : Value → Shared → Prop} (ok : (X.wish E).Ok) : X.Ok :=
  ⟨ok.mod, ok.kind, ok.glob, ok.blt, ok.above, ok.inj, ok.has, ok.cab, ok.hd, ok.frames, ok.stk, ok.exf, ok.bs, ok.bsz, ok.noex, ok.exfs, ok.funs, ok.frf⟩
section
variable {X : Cx} {pins : List (Addr × Obj)} {σ : St} {H : Hp} {s : Shared} {E : Value → Shared → Prop}
theorem Inv.wish (I : Inv X pins σ H s) (E : Value → Shared → Prop) : Inv (X.wish E) pins σ H s := ⟨I.ok.wish E, I.os, I.bare, I.base, I.loc, I.cell, I.free, I.freeC, I.pin, I.hok, I.len⟩
theorem Inv.unwish (I : Inv (X.wish E) pins σ H s) : Inv X pins σ H s := ⟨I.ok.unwish, I.os, I.bare, I.base, I.loc, I.cell, I.free, I.freeC, I.pin, I.hok, I.len⟩
theorem SP.unwish {D : Ends} {f : Flow} {s' : Shared} (h : SP (X.wish E) pins D f s') : SP X pins D f s' := by
  cases f with
  | next => obtain ⟨σ', H', I, q⟩ := h; exact ⟨σ', H', I.unwish, q⟩
  | brk => obtain ⟨σ', H', I, q⟩ := h; exact ⟨σ', H', I.unwish, q⟩
  | cont => obtain ⟨σ', H', I, q⟩ := h; exact ⟨σ', H', I.unwish, q⟩
  | ret u => obtain ⟨v, σ', H', I, r, q⟩ := h; exact ⟨v, σ', H', I.unwish, r, q⟩
theorem PSs.nox {st : List Stmt} {t : TS} (h : PSs X.nox st t) : PSs X st t := fun pins s σ H D I hw =>
  wpAny_mono (h pins s σ H D (I.wish _) hw) (fun _ _ q => q.unwish) fun _ _ z => False.elim z
end

/-! ### blocks and small statements -/
section
variable {X : Cx} {st : Stmt} {rest : List Stmt} {t u : TS} {e : Expr} {te : TE} {pos : Pos}
def tNext : TS := fun D σ H => D.nx σ H
def tSeq (t u : TS) : TS := fun D σ H => t { D with nx := u D } σ H
theorem pss_nil : PSs X [] tNext := fun _ _ σ H _ I h => wpAny_execs_nil ⟨σ, H, I, h⟩
theorem pss_cons (h1 : PS X st t) (h2 : PSs X rest u) : PSs X (st :: rest) (tSeq t u) := by
  intro pins s σ H D I h
  refine wpAny_execs_cons (thn (h1 pins s σ H { D with nx := u D } I h) fun f s1 q => ?_)
  cases f with
  | next =>
    obtain ⟨σ', H', I', q⟩ := q
    exact h2 pins s1 σ' H' D I' q
  | ret v => exact q
  | brk => exact q
  | cont => exact q
theorem pss_one (h1 : PS X st t) : PSs X [st] t := by
  intro pins s σ H D I h
  refine wpAny_execs_cons (thn (h1 pins s σ H D I h) fun f s1 q => ?_)
  cases f with
  | next => exact wpAny_execs_nil q
  | ret v => exact q
  | brk => exact q
  | cont => exact q
/-- in a def's body nothing is shown -/
theorem Inv.quiet {pins : List (Addr × Obj)} {σ : St} {H : Hp} {s : Shared} (I : Inv X pins σ H s) : interactive X.env = false := by simp [interactive, I.ok.kind]
/-- an expression whose value is dropped -/
def tDrop (te : TE) : TS := fun D σ H => te σ H fun _ H1 => D.nx σ H1
theorem ps_expr (he : PE X e te) (hs : swapsWith e none pos.line X.env = pure false := by rfl) : PS X (.Expr e pos) (tDrop te) := by
  intro pins s σ H D I h
  exact wpAny_Expr_any (thn (he pins s σ H _ I h) fun v s1 ⟨x, H1, I1, r1, q1⟩ => ⟨σ, H1, I1, q1⟩) I.quiet hs
def tRet (te : TE) : TS := fun D σ H => te σ H D.rt
theorem ps_ret (he : PE X e te) : PS X (.Return (some e) pos) (tRet te) := by
  intro pins s σ H D I h
  exact wpAny_Return_some (thn (he pins s σ H _ I h) fun v s1 ⟨x, H1, I1, r1, q1⟩ => ⟨x, σ, H1, I1, r1, q1⟩)
def tIfS (c : TT) (t u : TS) : TS := fun D σ H => c σ H fun b H1 => if b = true then t D σ H1 else u D σ H1
theorem ps_if {c : Expr} {a b : List Stmt} {tc : TT} (hc : PT X c tc) (ha : PSs X a t) (hb : PSs X b u) : PS X (.If c a b pos) (tIfS tc t u) := by
  intro pins s σ H D I h
  refine wpAny_If (thn (hc pins s σ H _ I h) fun d s1 ⟨H1, I1, q1⟩ => ?_)
  cases d with
  | true => exact ha pins s1 σ H1 D I1 q1
  | false => exact hb pins s1 σ H1 D I1 q1
/-- code that the proof never comes to -/
def tNever : TS := fun _ _ _ => False
theorem ps_never : PS X st tNever := fun _ _ _ _ _ _ h => h.elim
end

/-! ### targets -/
abbrev TG := V → St → Hp → (St → Hp → Prop) → Prop
abbrev TGs := List V → St → Hp → (St → Hp → Prop) → Prop
def PG (X : Cx) (target : Expr) (t : TG) : Prop :=
  ∀ (pins : List (Addr × Obj)) (s : Shared) (σ : St) (H : Hp) (v : V) (u : Value) (Q : St → Hp → Prop), Inv X pins σ H s → RelV v u → t v σ H Q →
    wpAny (model X.prog X.w) X.A (assign target X.env u) (fun _ s' => ∃ σ' H', Inv X pins σ' H' s' ∧ Q σ' H') X.xe s
/-- several targets, one after another -/
def PGs (X : Cx) (ts : List Expr) (t : TGs) : Prop :=
  ∀ (pins : List (Addr × Obj)) (s : Shared) (σ : St) (H : Hp) (vs : List V) (us : List Value) (Q : St → Hp → Prop), Inv X pins σ H s → Vals vs us → t vs σ H Q →
    wpAny (model X.prog X.w) X.A (assignInOrder ((assignEach ts X.env).map (·.2)) us) (fun _ s' => ∃ σ' H', Inv X pins σ' H' s' ∧ Q σ' H') X.xe s
/-- o[i] = v, by values -/
abbrev TSet := V → V → V → Hp → (Hp → Prop) → Prop
def PSet (X : Cx) (t : TSet) : Prop :=
  ∀ (pins : List (Addr × Obj)) (s : Shared) (σ : St) (H : Hp) (o i v : V) (ov iv u : Value) (Q : Hp → Prop), Inv X pins σ H s → RelV o ov → RelV i iv → RelV v u → t o i v H Q →
    wpAny (model X.prog X.w) X.A (setItem ov iv u) (fun _ s' => ∃ H', Inv X pins σ H' s' ∧ Q H') X.xe s
section
variable {X : Cx} {pos : Pos}
def gName (i : Nat) : TG := fun v σ H Q => Q (σ.set i (some v)) H
theorem pg_name {i : Nat} {x : Str} (hN : X.N.Nodup) (hi : X.N[i]? = some x) (hx : Loc X.env.scope x) (hf : X.fn x = true ∨ X.env.scope.names.lookup x = some .local := by first | exact .inl rfl | exact .inr rfl | assumption) : PG X (.Name x pos) (gName i) := by
  intro pins s σ H v u Q I r h
  exact wpAny_assign_Name (store_ok I hN hi hx r (fun s' I' => ⟨_, H, I', h⟩) hf)
def gNil : TGs := fun vs σ H Q => vs = [] ∧ Q σ H
def gCons (t : TG) (u : TGs) : TGs := fun vs σ H Q => ∃ v r, vs = v :: r ∧ t v σ H fun σ' H' => u r σ' H' Q
theorem pgs_nil : PGs X [] gNil := by
  intro pins s σ H vs us Q I r h
  obtain ⟨e, h⟩ := h
  subst e
  cases r
  exact assignInOrder_nil ⟨σ, H, I, h⟩
theorem pgs_cons {e : Expr} {es : List Expr} {t : TG} {u : TGs} (h1 : PG X e t) (h2 : PGs X es u)
    (hs : (assignEach (e :: es) X.env).map (·.2) = assign e X.env :: (assignEach es X.env).map (·.2) := by rfl) : PGs X (e :: es) (gCons t u) := by
  intro pins s σ H vs us Q I r h
  obtain ⟨v, vr, e1, h⟩ := h
  subst e1
  cases r with
  | cons r rr =>
    rw [hs]
    refine assignInOrder_cons (thn (h1 pins s σ H _ _ _ I r h) fun _ s1 ⟨σ1, H1, I1, q1⟩ => ?_)
    exact h2 pins s1 σ1 H1 _ _ Q I1 rr q1
/-- (a, b, ..) = a tuple of that length -/
def gTup (K : PySem.W.Frag) (n : Nat) (t : TGs) : TG := fun v σ H Q => ∃ a xs, v = .ref a ∧ SqT K H a xs ∧ xs.length = n ∧ t xs σ H Q
theorem pg_tup {es : List Expr} {k : Nat} {t : TGs} {n : Nat} (hc : X.calm = true) (h : PGs X es t)
    (hn : (assignEach es X.env).length = n := by rfl) (hst : (assignEach es X.env).findIdx? (·.1) = none := by rfl) : PG X (.Tuple es k pos) (gTup X.K n t) := by
  intro pins s σ H v u Q I r hw
  obtain ⟨a, xs, e1, hq, hl, hw⟩ := hw
  subst e1
  cases r
  obtain ⟨its, rv, ht, hz⟩ := I.tuple hq
  refine assign_Tuple_tuple (I.ok.hd hc) ht (by simp [hn, ← hl, rv.length]) hst fun h' hx => ?_
  have I1 : Inv X pins σ H { s with heap := h' } := I.kept (t' := s.toks) fun b o e => hx b o (Nat.ne_of_lt (Heap.lt_size e)) e
  exact h pins _ σ H xs _ Q I1 (by simpa using rv) hw
/-- o[i] = .. -/
def gSub (to ti : TE) (t : TSet) : TG := fun v σ H Q => to σ H fun o H1 => ti σ H1 fun i H2 => t o i v H2 fun H3 => Q σ H3
theorem pg_sub {o i : Expr} {to ti : TE} {t : TSet} (ho : PE X o to) (hi : PE X i ti) (hs : PSet X t)
    (ha : ∀ v, assign (.Subscript o i pos) X.env v = (do
      let ov ← holding [v] (eval o X.env)
      let iv ← holding [v, ov] (eval i X.env)
      standAt pos
      holding [v, ov, iv] (setItem ov iv v)
      release [v, ov, iv] []) := by intro _; rfl) : PG X (.Subscript o i pos) (gSub to ti t) := by
  intro pins s σ H v u Q I r h
  rw [ha]
  refine wpAny_bind (wpAny_holding (thn (ho pins s σ H _ I h) fun ov s1 ⟨x, H1, I1, r1, q1⟩ => ?_))
  refine wpAny_bind (wpAny_holding (thn (hi pins s1 σ H1 _ I1 q1) fun iv s2 ⟨y, H2, I2, r2, q2⟩ => ?_))
  refine wpAny_bind (wpAny_standAt (wpAny_bind (wpAny_holding (thn (hs pins s2 σ H2 x y v ov iv u _ I2 r1 r2 r q2) fun _ s3 ⟨H3, I3, q3⟩ => ?_))))
  exact wpAny_release ⟨σ, H3, I3, q3⟩
/-- target = value -/
def tAsg (te : TE) (g : TG) : TS := fun D σ H => te σ H fun x H1 => g x σ H1 D.nx
theorem ps_asg {tg e : Expr} {te : TE} {g : TG} (he : PE X e te) (hg : PG X tg g) (hs : swapsWithSole [tg] e pos.line X.env = pure false := by rfl) (hw : swappedStores [tg] e X.env = pure none := by rfl)
    (h1 : (assignEach [tg] X.env).map (·.2) = [assign tg X.env] := by rfl) : PS X (.Assign [tg] e pos) (tAsg te g) := by
  intro pins s σ H D I h
  refine wpAny_Assign_stores (thn (he pins s σ H _ I h) fun v s1 ⟨x, H1, I1, r1, q1⟩ => ?_) hs hw
  rw [h1]
  exact thn (hg pins s1 σ H1 x v _ I1 r1 q1) fun _ s2 q => q
/-- name = value -/
theorem ps_set {i : Nat} {x : Str} {e : Expr} {te : TE} {pos' : Pos} (hN : X.N.Nodup) (hi : X.N[i]? = some x) (hx : Loc X.env.scope x) (he : PE X e te) (hs : swapsWith e (some (.Name x pos')) pos.line X.env = pure false := by rfl) (hf : X.fn x = true ∨ X.env.scope.names.lookup x = some .local := by first | exact .inl rfl | exact .inr rfl | assumption) :
    PS X (.Assign [.Name x pos'] e pos) (tAsg te (gName i)) := by
  intro pins s σ H D I h
  refine wpAny_Assign_Name (thn (he pins s σ H _ I h) fun v s1 ⟨y, H1, I1, r1, q1⟩ => ?_) hs
  exact store_ok I1 hN hi hx r1 (fun s2 I2 => ⟨_, H1, I2, q1⟩) hf
end

/-! ### while -/
section
variable {X : Cx} {pos : Pos}
/-- the invariant W with its measure -/
def tWhile (c : TT) (tb : TS) : TS := fun D σ H => ∃ W : Nat → St → Hp → Prop, (∃ m, W m σ H) ∧ ∀ m σ H, W m σ H →
  c σ H fun b H1 => if b = true then ∃ N : St → Hp → Prop, (∀ σ' H', N σ' H' → ∃ m', m' < m ∧ W m' σ' H') ∧ tb { D with nx := N, ct := N, bk := D.nx } σ H1 else D.nx σ H1
theorem ps_while {c : Expr} {body : List Stmt} {tc : TT} {tb : TS} (hp : PassesOwn (model X.prog X.w) X.A X.env X.xe) (hc : PT X c tc) (hb : PSs X body tb) : PS X (.While c body [] pos) (tWhile tc tb) := by
  intro pins s σ H D I h
  obtain ⟨W, ⟨m0, w0⟩, turn⟩ := h
  refine wpAny_While (codeAny_whileLoop (fun n s' => ∃ σ' H', Inv X pins σ' H' s' ∧ W n σ' H') ?_ m0 ⟨σ, H, I, w0⟩)
  rintro n s1 ⟨σ1, H1, I1, w1⟩
  refine wpAny_passesOwn hp (thn (hc pins s1 σ1 H1 _ I1 (turn n σ1 H1 w1)) fun b s2 ⟨H2, I2, q2⟩ => ?_)
  cases b with
  | true =>
    obtain ⟨N, hN, q2⟩ := q2
    rw [if_pos rfl]
    refine wpAny_passesOwn hp (thn (hb pins s2 σ1 H2 _ I2 q2) fun f s3 q3 => ?_)
    cases f with
    | next =>
      obtain ⟨σ3, H3, I3, n3⟩ := q3
      obtain ⟨m', hm, w3⟩ := hN σ3 H3 n3
      exact ⟨m', hm, σ3, H3, I3, w3⟩
    | cont =>
      obtain ⟨σ3, H3, I3, n3⟩ := q3
      obtain ⟨m', hm, w3⟩ := hN σ3 H3 n3
      exact ⟨m', hm, σ3, H3, I3, w3⟩
    | brk => exact q3
    | ret v => exact q3
  | false =>
    rw [if_neg Bool.false_ne_true]
    exact wpAny_execs_nil ⟨σ1, H2, I2, q2⟩
end

/-! ### what a loop or a comprehension walks -/
/-- at turn i: it yields x (the heap may grow), or it stops -/
structure It where
  go : Nat → Hp → Prop
  yld : Nat → Hp → V → Hp → Prop
  stop : Nat → Hp → Prop
/-- the iterator's own objects may turn: they are not the frame's, not pinned, younger than the entry (or a comprehension's own) -/
def FpOk (X : Cx) (pins : List (Addr × Obj)) (H : Hp) (b : Addr) : Prop :=
  H b = none ∧ b ≠ X.env.locals ∧ b ∉ X.fs ∧ (b ∈ X.ex ∨ X.s₀.heap.objs.size ≤ b) ∧ (∀ x c, X.env.cells.lookup x = some c → c ≠ b) ∧ ∀ p ∈ X.pn ++ pins, p.1 ≠ b
theorem Inv.fpOk {X : Cx} {pins : List (Addr × Obj)} {σ : St} {H H' : Hp} {s : Shared} {b : Addr} (I : Inv X pins σ H s) (hb : s.heap.objs.size ≤ b) (hn : H' b = none) : FpOk X pins H' b := by
  refine ⟨hn, Nat.ne_of_gt (Nat.lt_of_lt_of_le I.lt hb), I.nofs hb, .inr (Nat.le_trans I.sz hb), fun x c e z => ?_, fun p hp z => ?_⟩
  · obtain ⟨v, q⟩ := I.cell x c e
    exact absurd (Nat.lt_of_lt_of_le q.lt (by rw [z]; exact hb)) (Nat.lt_irrefl _)
  · exact absurd (Nat.lt_of_lt_of_le (Heap.lt_size (I.pin p hp).1) (by rw [z]; exact hb)) (Nat.lt_irrefl _)
structure Turn (P : Program) (w : World) (K : PySem.W.Frag) (tg : Expr) (J : It) (fp : List Addr) (it : Addr) (tn : Nat → Heap → Prop) : Prop where
  mem : it ∈ fp
  obj : ∀ i h, tn i h → ∀ b ∈ fp, ∃ o, h.get? b = some o ∧ ∀ v, o.data ≠ .cell v
  keep : ∀ i h h', tn i h → (∀ b ∈ fp, ∀ o, h.get? b = some o → h'.get? b = some o) → tn i h'
  item : ∀ (X : Cx), X.prog = P → X.w = w → X.K = K → X.calm = true → ∀ (i : Nat) (pins : List (Addr × Obj)) (s : Shared) (σ : St) (H : Hp) (E : Value → Shared → Prop), Inv X pins σ H s → (∀ b ∈ fp, FpOk X pins H b) → tn i s.heap → J.go i H →
    wpAny (model P w) X.A (pyNext (.ref it)) (fun r s1 => ∃ u, r = some u ∧
      wpAny (model P w) X.A (letOwnedTupleGo tg (.ref it) u) (fun _ s2 => ∃ x H', Inv X pins σ H' s2 ∧ RelV x u ∧ J.yld i H x H' ∧ tn (i + 1) s2.heap ∧ ∀ b ∈ fp, H' b = none) E s1) E s
  done : ∀ (X : Cx), X.prog = P → X.w = w → X.K = K → X.calm = true → ∀ (i : Nat) (pins : List (Addr × Obj)) (s : Shared) (σ : St) (H : Hp) (E : Value → Shared → Prop), Inv X pins σ H s → (∀ b ∈ fp, FpOk X pins H b) → tn i s.heap → J.stop i H →
    wpAny (model P w) X.A (pyNext (.ref it)) (fun r s1 => r = none ∧ Inv X pins σ H s1) E s
  self : ∀ (A : Around) (i : Nat) (s : Shared) (Q : Value → Shared → Prop) (E : Value → Shared → Prop), tn i s.heap → Q (.ref it) s → wpAny (model P w) A (pyIter (.ref it)) Q E s
abbrev TI := St → Hp → (It → Hp → Prop) → Prop
/-- an iterator has come -/
def PIE (X : Cx) (pins : List (Addr × Obj)) (σ : St) (tg : Expr) (R : It → Hp → Prop) (itv : Value) (s2 : Shared) : Prop :=
  ∃ (it : Addr) (fp : List Addr) (tn : Nat → Heap → Prop) (J : It) (H' : Hp), itv = .ref it ∧ Inv X pins σ H' s2 ∧ Turn X.prog X.w X.K tg J fp it tn ∧ tn 0 s2.heap ∧ (∀ b ∈ fp, FpOk X pins H' b) ∧ R J H'
def PI (X : Cx) (tg iter : Expr) (wi : TI) : Prop :=
  ∀ (pins : List (Addr × Obj)) (s : Shared) (σ : St) (H : Hp) (R : It → Hp → Prop), Inv X pins σ H s → wi σ H R →
    wpAny (model X.prog X.w) X.A (eval iter X.env) (fun v s1 => wpAny (model X.prog X.w) X.A (pyIter v) (PIE X pins σ tg R) X.xe s1) X.xe s

/-- the step ahead of the store is nothing for an iterator that keeps no tuple -/
theorem go_of {M : Model} {A : Around} {E : Value → Shared → Prop} {s : Shared} {tg : Expr} {it : Addr} {u : Value} {o : Obj} {n : String} {vs : Array Value} {Q : Unit → Shared → Prop} (ho : s.heap.get? it = some o) (hc : o.cls = .type n) (hd : o.data = .fields vs)
    (hn : ["enumerate", "zip", "dict_itemiterator", "dict_reverseitemiterator", "odict_iterator", "itertools.zip_longest", "itertools.pairwise"].contains n = false) (hQ : Q () s) : wpAny M A (letOwnedTupleGo tg (.ref it) u) Q E s := by
  unfold letOwnedTupleGo
  cases tg <;> first
    | exact wpAny_pure hQ
    | (cases u <;> first
        | exact wpAny_pure hQ
        | (refine wpAny_bind (wpAny_load ho ?_)
           rw [hc, hd]
           show wpAny M A (if (["enumerate", "zip", "dict_itemiterator", "dict_reverseitemiterator", "odict_iterator", "itertools.zip_longest", "itertools.pairwise"].contains n && vs[0]? == some (rawInt _)) = true then _ else _) Q E s
           rw [if_neg (by intro h; rw [hn, Bool.false_and] at h; cases h)]
           exact wpAny_pure hQ))

/-- the list at a, as it stands at each turn (a loop may append to it) -/
def Itl (K : PySem.W.Frag) (a : Addr) : It :=
  ⟨fun i H => ∃ xs x, SqL K H a xs ∧ xs[i]? = some x, fun i H x H' => H' = H ∧ ∀ xs, SqL K H a xs → xs[i]? = some x, fun i H => ∃ xs, SqL K H a xs ∧ xs.length ≤ i⟩
def Itt (K : PySem.W.Frag) (a : Addr) : It :=
  ⟨fun i H => ∃ xs x, SqT K H a xs ∧ xs[i]? = some x, fun i H x H' => H' = H ∧ ∀ xs, SqT K H a xs → xs[i]? = some x, fun i H => ∃ xs, SqT K H a xs ∧ xs.length ≤ i⟩
/-- lo, lo + 1, .. (n of them) -/
def Itr (lo : Int) (n : Nat) : It := ⟨fun i _ => i < n, fun i H x H' => H' = H ∧ x = .int (lo + i), fun i _ => n ≤ i⟩
theorem turn_list {P : Program} {w : World} {K : PySem.W.Frag} {tg : Expr} (a it : Addr) : Turn P w K tg (Itl K a) [it] it (fun i h => h.IsListIter it a i) where
  mem := by simp
  obj := fun i h st b hb => by
    have e : b = it := by simpa using hb
    subst e
    obtain ⟨o, e, c, d⟩ := st
    exact ⟨o, e, fun v z => by rw [d] at z; cases z⟩
  keep := fun i h h' st k => st.at fun o e => k it (by simp) o e
  item := by
    intro X hP hw hK hc i pins s σ H E I hf st hg
    subst hP hw hK
    obtain ⟨xs, x, hq, hx⟩ := hg
    obtain ⟨its, rv, p, hz⟩ := I.list hq
    obtain ⟨u, hu, ru⟩ := rv.get hx
    obtain ⟨f0, f1, f2, f3, f4, f5⟩ := hf it (by simp)
    refine wpAny_pyNext_list_item st p.isList (x := u) (by simpa using hu) fun h' st' sb => ?_
    have I1 : Inv X pins σ H { s with heap := h' } := I.turned (t' := s.toks) (fun b o hb e => (sb.2 b hb).trans e) f0 f1 f3 f4 f5
    obtain ⟨o, e, c, d⟩ := id st'
    exact ⟨u, rfl, go_of (s := { s with heap := h' }) e c d (by decide) ⟨x, H, I1, ru, ⟨rfl, fun ys hy => by rw [I.list_inj hy hq]; exact hx⟩, st', fun b hb => (hf b hb).1⟩⟩
  done := by
    intro X hP hw hK hc i pins s σ H E I hf st hg
    subst hP hw hK
    obtain ⟨xs, hq, hx⟩ := hg
    obtain ⟨its, rv, p, hz⟩ := I.list hq
    obtain ⟨f0, f1, f2, f3, f4, f5⟩ := hf it (by simp)
    have hl := rv.length
    exact wpAny_pyNext_list_end (I.ok.hd hc) st p.isList (by simp; (first | lia | omega)) fun h' eb => ⟨rfl, I.turned (t' := s.toks) (fun b o hb e => eb b o hb e) f0 f1 f3 f4 f5⟩
  self := fun _ _ _ _ _ st h => wpAny_pyIter_listiter st h
theorem turn_tuple {P : Program} {w : World} {K : PySem.W.Frag} {tg : Expr} (a it : Addr) : Turn P w K tg (Itt K a) [it] it (fun i h => h.IsTupleIter it a i) where
  mem := by simp
  obj := fun i h st b hb => by
    have e : b = it := by simpa using hb
    subst e
    obtain ⟨o, e, c, d⟩ := st
    exact ⟨o, e, fun v z => by rw [d] at z; cases z⟩
  keep := fun i h h' st k => st.at fun o e => k it (by simp) o e
  item := by
    intro X hP hw hK hc i pins s σ H E I hf st hg
    subst hP hw hK
    obtain ⟨xs, x, hq, hx⟩ := hg
    obtain ⟨its, rv, p, hz⟩ := I.tuple hq
    obtain ⟨u, hu, ru⟩ := rv.get hx
    obtain ⟨f0, f1, f2, f3, f4, f5⟩ := hf it (by simp)
    refine wpAny_pyNext_tuple_item st (show s.heap.IsTuple a its.toArray from p) (x := u) (by simpa using hu) fun h' st' sb => ?_
    have I1 : Inv X pins σ H { s with heap := h' } := I.turned (t' := s.toks) (fun b o hb e => (sb.2 b hb).trans e) f0 f1 f3 f4 f5
    obtain ⟨o, e, c, d⟩ := id st'
    exact ⟨u, rfl, go_of (s := { s with heap := h' }) e c d (by decide) ⟨x, H, I1, ru, ⟨rfl, fun ys hy => by rw [I.tuple_inj hy hq]; exact hx⟩, st', fun b hb => (hf b hb).1⟩⟩
  done := by
    intro X hP hw hK hc i pins s σ H E I hf st hg
    subst hP hw hK
    obtain ⟨xs, hq, hx⟩ := hg
    obtain ⟨its, rv, p, hz⟩ := I.tuple hq
    obtain ⟨f0, f1, f2, f3, f4, f5⟩ := hf it (by simp)
    have hl := rv.length
    exact wpAny_pyNext_tuple_end (I.ok.hd hc) st (show s.heap.IsTuple a its.toArray from p) (by simp; (first | lia | omega)) fun h' eb => ⟨rfl, I.turned (t' := s.toks) (fun b o hb e => eb b o hb e) f0 f1 f3 f4 f5⟩
  self := fun _ _ _ _ _ st h => wpAny_pyIter_tupleiter st h
theorem turn_range {P : Program} {w : World} {K : PySem.W.Frag} {tg : Expr} (it : Addr) (lo : Int) (n : Nat) : Turn P w K tg (Itr lo n) [it] it (fun i h => IsRangeIter h it (lo + (i : Nat) * 1) ((n : Int) - (i : Nat)) 1) where
  mem := by simp
  obj := fun i h st b hb => by
    have e : b = it := by simpa using hb
    subst e
    exact ⟨_, st, fun v z => by
      have z' : Data.fields _ = Data.cell v := z
      cases z'⟩
  keep := fun i h h' st k => k it (by simp) _ st
  item := by
    intro X hP hw hK hc i pins s σ H E I hf st hg
    subst hP hw hK
    obtain ⟨f0, f1, f2, f3, f4, f5⟩ := hf it (by simp)
    have W := Walks.range (prog := X.prog) (w := X.w) (I.ok.hd hc) it lo 1 n
    refine W.item i s _ _ hg st fun v h' tk hv st' kk => ?_
    obtain ⟨t, rfl⟩ := hv
    have I1 : Inv X pins σ H { s with heap := h', toks := tk } := I.turned (fun b o hb e => kk b o (by simpa using hb) e) f0 f1 f3 f4 f5
    refine ⟨_, rfl, go_of (s := { s with heap := h', toks := tk }) (n := "range_iterator") st' rfl rfl (by decide) ⟨.int (lo + i), H, I1, ⟨t, ?_⟩, ⟨rfl, rfl⟩, st', fun b hb => (hf b hb).1⟩⟩
    rw [Int.mul_one]
  done := by
    intro X hP hw hK hc i pins s σ H E I hf st hg
    subst hP hw hK
    obtain ⟨f0, f1, f2, f3, f4, f5⟩ := hf it (by simp)
    exact wpAny_pyNext_range_end (I.ok.hd hc) st (by have : n ≤ i := hg; (first | lia | omega)) fun h' eb => ⟨rfl, I.turned (t' := s.toks) (fun b o hb e => eb b o hb e) f0 f1 f3 f4 f5⟩
  self := fun _ _ _ _ _ st h => wpAny_pyIter_rangeiter st h
end L2

namespace L2
open PySem PySem.Spec PyProof.Rows
section
variable {X : Cx} {tg : Expr}
def iList (K : PySem.W.Frag) (tl : TE) : TI := fun σ H R => tl σ H fun x H1 => ∃ a, x = .ref a ∧ (∃ xs, SqL K H1 a xs) ∧ R (Itl K a) H1
def iTup (K : PySem.W.Frag) (tl : TE) : TI := fun σ H R => tl σ H fun x H1 => ∃ a, x = .ref a ∧ (∃ xs, SqT K H1 a xs) ∧ R (Itt K a) H1
theorem pi_list {l : Expr} {tl : TE} (hl : PE X l tl) : PI X tg l (iList X.K tl) := by
  intro pins s σ H R I h
  refine thn (hl pins s σ H _ I h) fun v s1 ⟨x, H1, I1, r1, q1⟩ => ?_
  obtain ⟨a, e, ⟨xs, hq⟩, q⟩ := q1
  subst e
  cases r1
  obtain ⟨its, rv, p, hz⟩ := I1.list hq
  refine wpAny_pyIter_list p.isList ?_
  refine ⟨s1.heap.objs.size, [s1.heap.objs.size], _, _, H1, rfl, I1.kept (t' := s1.toks) fun b o e => Heap.get?_push_of_some _ e, turn_list a _, ⟨_, Heap.get?_push_size _ rfl, rfl, rfl⟩, fun b hb => ?_, q⟩
  have e : b = s1.heap.objs.size := by simpa using hb
  subst e
  exact I1.fpOk (Nat.le_refl _) (I1.hok.fresh (Nat.le_refl _))
theorem pi_tup {l : Expr} {tl : TE} (hl : PE X l tl) : PI X tg l (iTup X.K tl) := by
  intro pins s σ H R I h
  refine thn (hl pins s σ H _ I h) fun v s1 ⟨x, H1, I1, r1, q1⟩ => ?_
  obtain ⟨a, e, ⟨xs, hq⟩, q⟩ := q1
  subst e
  cases r1
  obtain ⟨its, rv, p, hz⟩ := I1.tuple hq
  refine wpAny_pyIter_tuple (show s1.heap.IsTuple a its.toArray from p) ?_
  refine ⟨s1.heap.objs.size, [s1.heap.objs.size], _, _, H1, rfl, I1.kept (t' := s1.toks) fun b o e => Heap.get?_push_of_some _ e, turn_tuple a _, ⟨_, Heap.get?_push_size _ rfl, rfl, rfl⟩, fun b hb => ?_, q⟩
  have e : b = s1.heap.objs.size := by simpa using hb
  subst e
  exact I1.fpOk (Nat.le_refl _) (I1.hok.fresh (Nat.le_refl _))
/-- a range object just made, walked -/
theorem range_it {pins : List (Addr × Obj)} {σ : St} {H : Hp} {s : Shared} {R : It → Hp → Prop} {E : Value → Shared → Prop} {lo hi : Int} {t u v : Tok} {tk : Nat} (I : Inv X pins σ H s) (h1 : -(2 ^ 62) ≤ lo) (h2 : lo < 2 ^ 62) (h3 : -(2 ^ 62) ≤ hi) (h4 : hi < 2 ^ 62)
    (q : R (Itr lo (hi - lo).toNat) H) : wpAny (model X.prog X.w) X.A (pyIter (.ref s.heap.objs.size)) (PIE X pins σ tg R) E { s with heap := s.heap.push { cls := .type "range", data := .fields #[.int lo t, .int hi u, .int 1 v] }, toks := tk } := by
  refine wpAny_pyIter_range (IsRange.new ..) (small_one h1 h2 h3 h4) ?_
  have I1 : Inv X pins σ H { s with heap := s.heap.push { cls := .type "range", data := .fields #[.int lo t, .int hi u, .int 1 v] }, toks := tk } := I.kept fun b o e => Heap.get?_push_of_some _ e
  refine ⟨(s.heap.push { cls := .type "range", data := .fields #[.int lo t, .int hi u, .int 1 v] }).objs.size, [(s.heap.push { cls := .type "range", data := .fields #[.int lo t, .int hi u, .int 1 v] }).objs.size], _, _, H, rfl,
    I1.kept (t' := tk) fun b o e => Heap.get?_push_of_some _ e, turn_range _ lo (hi - lo).toNat, ?_, fun b hb => ?_, q⟩
  · have e1 : lo + ((0 : Nat) : Int) * 1 = lo := by simp
    have e2 : (((hi - lo).toNat : Nat) : Int) - ((0 : Nat) : Int) = Builtin.Range.rangeSize lo hi 1 := by rw [rangeSize_one]; split <;> (first | lia | omega)
    show IsRangeIter _ _ (lo + ((0 : Nat) : Int) * 1) ((((hi - lo).toNat : Nat) : Int) - ((0 : Nat) : Int)) 1
    rw [e1, e2]
    exact Heap.get?_push_size _ rfl
  · have e : b = (s.heap.push { cls := .type "range", data := .fields #[.int lo t, .int hi u, .int 1 v] }).objs.size := by simpa using hb
    subst e
    exact I1.fpOk (Nat.le_refl _) (I1.hok.fresh (Nat.le_refl _))
def iRng1 (ta : TA) : TI := fun σ H R => ta σ H fun vs H1 => ∃ j : Int, vs = [.int j] ∧ -(2 ^ 62) ≤ j ∧ j < 2 ^ 62 ∧ R (Itr 0 j.toNat) H1
theorem pi_range1 {a : Expr} {ta : TA} {p pos : Pos} (hg : Gl X "range") (hm : X.mg "range" = none) (ha : PA X [a] ta) (hs : starEach [a] X.env = [(false, eval a X.env)] := by rfl) : PI X tg (.Call (.Name "range" p) [a] [] pos) (iRng1 ta) := by
  intro pins s σ H R I h
  refine Call_ (ld_blt I hg hm boot_range (PyProof.Rows.callWith_type1 (thn (ha pos pins s σ H _ I h) fun us s1 ⟨vs, H1, I1, r1, q1⟩ => ?_) hs rfl))
  obtain ⟨j, e, q1, q2, q⟩ := q1
  subst e
  cases r1 with
  | cons r rr =>
    cases rr
    obtain ⟨t, rfl⟩ := r
    exact call_range_1 (range_it I1 (by (first | lia | omega)) (by (first | lia | omega)) q1 q2 (by simpa using q))
/-! ### for -/
/-- W: the invariant by the turn and a measure; N: what the body is to reach -/
def tFor (wi : TI) (g : TG) (tb : TS) : TS := fun D σ H => wi σ H fun J H1 => ∃ W : Nat → Nat → St → Hp → Prop, (∃ m, W 0 m σ H1) ∧ ∀ i m σ H, W i m σ H →
  (J.stop i H ∧ D.nx σ H) ∨ (J.go i H ∧ ∃ N : St → Hp → Prop, (∀ σ' H', N σ' H' → ∃ m', m' < m ∧ W (i + 1) m' σ' H') ∧ ∀ x H', J.yld i H x H' → g x σ H' fun σ2 H2 => tb { D with nx := N, ct := N, bk := D.nx } σ2 H2)
/-- the records at fp as they stand -/
def pinsAt (fp : List Addr) (h : Heap) : List (Addr × Obj) := fp.filterMap fun b => (h.get? b).map fun o => (b, o)
theorem mem_pinsAt {fp : List Addr} {h : Heap} {b : Addr} {o : Obj} (hb : b ∈ fp) (e : h.get? b = some o) : (b, o) ∈ pinsAt fp h := List.mem_filterMap.mpr ⟨b, hb, by rw [e]; rfl⟩
theorem of_pinsAt {fp : List Addr} {h : Heap} {p : Addr × Obj} (hp : p ∈ pinsAt fp h) : p.1 ∈ fp ∧ h.get? p.1 = some p.2 := by
  obtain ⟨b, hb, e⟩ := List.mem_filterMap.mp hp
  cases q : h.get? b with
  | none => rw [q] at e; cases e
  | some o =>
    rw [q] at e
    have e' : (b, o) = p := Option.some.inj e
    subst e'
    exact ⟨hb, q⟩
theorem Inv.pinned {pins : List (Addr × Obj)} {σ : St} {H : Hp} {s : Shared} {fp : List Addr} (I : Inv X pins σ H s) (hf : ∀ b ∈ fp, FpOk X pins H b) (ho : ∀ b ∈ fp, ∃ o, s.heap.get? b = some o ∧ ∀ v, o.data ≠ .cell v) : Inv X (pins ++ pinsAt fp s.heap) σ H s :=
  I.pins_of fun p hp => (List.mem_append.mp hp).elim (fun z => I.pin p (List.mem_append_right _ z)) fun z => by
    obtain ⟨hb, e⟩ := of_pinsAt z
    obtain ⟨f0, f1, f2, _⟩ := hf p.1 hb
    obtain ⟨o, e', d⟩ := ho p.1 hb
    rw [e] at e'; cases e'
    exact ⟨e, f0, f1, f2, d⟩
theorem Inv.unpinned {pins pl : List (Addr × Obj)} {σ : St} {H : Hp} {s : Shared} (I : Inv X (pins ++ pl) σ H s) : Inv X pins σ H s := I.pins_of fun p hp => I.pin p (List.mem_append_right _ (List.mem_append_left _ hp))
theorem ps_for {iter : Expr} {body : List Stmt} {wi : TI} {g : TG} {tb : TS} {pos : Pos} (hp : PassesOwn (model X.prog X.w) X.A X.env X.xe) (hc : X.calm = true) (hi : PI X tg iter wi) (hg : PG X tg g) (hb : PSs X body tb)
    (hs : ∀ x, foldedSetIterable iter X.env x = pure x := by intro _; rfl) : PS X (.For tg iter body [] pos) (tFor wi g tb) := by
  intro pins s σ H D I h
  refine wpAny_For (thn (hi pins s σ H _ I h) fun v s1 h1 => thn h1 fun itv s2 h2 => ?_) hs
  obtain ⟨it, fp, tn, J, H2, e, I2, T, st2, f2, W, ⟨m0, w0⟩, turn⟩ := h2
  subst e
  -- what stays true of the iterator's objects through the loop
  have stat : ∀ {H' : Hp}, (∀ b ∈ fp, H' b = none) → ∀ b ∈ fp, FpOk X pins H' b := fun hn b hb => ⟨hn b hb, (f2 b hb).2⟩
  refine codeAny_forLoop_any (fun n s' => ∃ i σ' H', Inv X pins σ' H' s' ∧ tn i s'.heap ∧ (∀ b ∈ fp, H' b = none) ∧ W i n σ' H') ?_ m0 ⟨0, σ, H2, I2, st2, fun b hb => (f2 b hb).1, w0⟩
  rintro n s3 ⟨i, σ3, H3, I3, st3, fr3, w3⟩
  rcases turn i n σ3 H3 w3 with ⟨stop, qn⟩ | ⟨go, N, hN, step⟩
  · refine wpAny_passesOwn hp (thn (T.done X rfl rfl rfl hc i pins s3 σ3 H3 X.xe I3 (stat fr3) st3 stop) fun r s4 ⟨hr, I4⟩ => ?_)
    subst hr
    exact wpAny_execs_nil ⟨σ3, H3, I4, qn⟩
  · refine wpAny_passesOwn hp (thn (T.item X rfl rfl rfl hc i pins s3 σ3 H3 X.xe I3 (stat fr3) st3 go) fun r s4 ⟨u, hr, h4⟩ => ?_)
    subst hr
    refine wpAny_passesOwn hp (thn h4 fun _ s5 ⟨x, H5, I5, r5, y5, st5, fr5⟩ => ?_)
    have I5' := I5.pinned (stat fr5) (T.obj _ _ st5)
    refine wpAny_passesOwn hp (thn (hg _ s5 σ3 H5 x u _ I5' r5 (step x H5 y5)) fun _ s6 ⟨σ6, H6, I6, q6⟩ => ?_)
    refine wpAny_passesOwn hp (thn (hb _ s6 σ6 H6 _ I6 q6) fun f s7 q7 => ?_)
    have again : ∀ {σ7 : St} {H7 : Hp}, Inv X (pins ++ pinsAt fp s5.heap) σ7 H7 s7 → N σ7 H7 → ∃ m, m < n ∧ ∃ i σ' H', Inv X pins σ' H' s7 ∧ tn i s7.heap ∧ (∀ b ∈ fp, H' b = none) ∧ W i m σ' H' := fun {σ7 H7} I7 n7 => by
      obtain ⟨m', hm, w7⟩ := hN σ7 H7 n7
      refine ⟨m', hm, i + 1, σ7, H7, I7.unpinned, T.keep _ _ _ st5 fun b hb o e => (I7.pin (b, o) (List.mem_append_right _ (List.mem_append_right _ (mem_pinsAt hb e)))).1, fun b hb => ?_, w7⟩
      obtain ⟨o, e, d⟩ := T.obj _ _ st5 b hb
      exact (I7.pin (b, o) (List.mem_append_right _ (List.mem_append_right _ (mem_pinsAt hb e)))).2.1
    cases f with
    | next => obtain ⟨σ7, H7, I7, n7⟩ := q7; exact again I7 n7
    | cont => obtain ⟨σ7, H7, I7, n7⟩ := q7; exact again I7 n7
    | brk => obtain ⟨σ7, H7, I7, q7⟩ := q7; exact ⟨σ7, H7, I7.unpinned, q7⟩
    | ret v => obtain ⟨x7, σ7, H7, I7, r7, q7⟩ := q7; exact ⟨x7, σ7, H7, I7.unpinned, r7, q7⟩
end

/-! ### the forms one uses -/
/-- over a list that the body leaves as it is -/
theorem for_list {K : PySem.W.Frag} {a : Addr} {xs : List V} {g : TG} {tb : TS} {D : Ends} {σ : St} {H : Hp} (Pv : Nat → St → Hp → Prop) (h0 : Pv 0 σ H) (hl : ∀ i σ H, i ≤ xs.length → Pv i σ H → SqL K H a xs)
    (hs : ∀ i x σ H, xs[i]? = some x → Pv i σ H → g x σ H fun σ2 H2 => tb { D with nx := Pv (i + 1), ct := Pv (i + 1), bk := D.nx } σ2 H2) (hd : ∀ σ H, Pv xs.length σ H → D.nx σ H) :
    ∃ W : Nat → Nat → St → Hp → Prop, (∃ m, W 0 m σ H) ∧ ∀ i m σ H, W i m σ H →
      ((Itl K a).stop i H ∧ D.nx σ H) ∨ ((Itl K a).go i H ∧ ∃ N : St → Hp → Prop, (∀ σ' H', N σ' H' → ∃ m', m' < m ∧ W (i + 1) m' σ' H') ∧ ∀ x H', (Itl K a).yld i H x H' → g x σ H' fun σ2 H2 => tb { D with nx := N, ct := N, bk := D.nx } σ2 H2) := by
  refine ⟨fun i m σ H => m = xs.length - i ∧ i ≤ xs.length ∧ Pv i σ H, ⟨xs.length, by simp, Nat.zero_le _, h0⟩, ?_⟩
  rintro i m σ H ⟨rfl, hi, p⟩
  have q := hl i σ H hi p
  by_cases hlt : i < xs.length
  · refine .inr ⟨⟨xs, xs[i], q, by simp [hlt]⟩, Pv (i + 1), fun σ' H' p' => ⟨xs.length - (i + 1), by (first | lia | omega), rfl, hlt, p'⟩, fun x H' y => ?_⟩
    obtain ⟨e, y⟩ := y
    subst e
    exact hs i x σ _ (y xs q) p
  · have e : i = xs.length := by (first | lia | omega)
    subst e
    exact .inl ⟨⟨xs, q, Nat.le_refl _⟩, hd σ H p⟩
theorem for_tup {K : PySem.W.Frag} {a : Addr} {xs : List V} {g : TG} {tb : TS} {D : Ends} {σ : St} {H : Hp} (Pv : Nat → St → Hp → Prop) (h0 : Pv 0 σ H) (hl : ∀ i σ H, i ≤ xs.length → Pv i σ H → SqT K H a xs)
    (hs : ∀ i x σ H, xs[i]? = some x → Pv i σ H → g x σ H fun σ2 H2 => tb { D with nx := Pv (i + 1), ct := Pv (i + 1), bk := D.nx } σ2 H2) (hd : ∀ σ H, Pv xs.length σ H → D.nx σ H) :
    ∃ W : Nat → Nat → St → Hp → Prop, (∃ m, W 0 m σ H) ∧ ∀ i m σ H, W i m σ H →
      ((Itt K a).stop i H ∧ D.nx σ H) ∨ ((Itt K a).go i H ∧ ∃ N : St → Hp → Prop, (∀ σ' H', N σ' H' → ∃ m', m' < m ∧ W (i + 1) m' σ' H') ∧ ∀ x H', (Itt K a).yld i H x H' → g x σ H' fun σ2 H2 => tb { D with nx := N, ct := N, bk := D.nx } σ2 H2) := by
  refine ⟨fun i m σ H => m = xs.length - i ∧ i ≤ xs.length ∧ Pv i σ H, ⟨xs.length, by simp, Nat.zero_le _, h0⟩, ?_⟩
  rintro i m σ H ⟨rfl, hi, p⟩
  have q := hl i σ H hi p
  by_cases hlt : i < xs.length
  · refine .inr ⟨⟨xs, xs[i], q, by simp [hlt]⟩, Pv (i + 1), fun σ' H' p' => ⟨xs.length - (i + 1), by (first | lia | omega), rfl, hlt, p'⟩, fun x H' y => ?_⟩
    obtain ⟨e, y⟩ := y
    subst e
    exact hs i x σ _ (y xs q) p
  · have e : i = xs.length := by (first | lia | omega)
    subst e
    exact .inl ⟨⟨xs, q, Nat.le_refl _⟩, hd σ H p⟩
theorem for_range {lo : Int} {n : Nat} {g : TG} {tb : TS} {D : Ends} {σ : St} {H : Hp} (Pv : Nat → St → Hp → Prop) (h0 : Pv 0 σ H)
    (hs : ∀ i σ H, i < n → Pv i σ H → g (.int (lo + i)) σ H fun σ2 H2 => tb { D with nx := Pv (i + 1), ct := Pv (i + 1), bk := D.nx } σ2 H2) (hd : ∀ σ H, Pv n σ H → D.nx σ H) :
    ∃ W : Nat → Nat → St → Hp → Prop, (∃ m, W 0 m σ H) ∧ ∀ i m σ H, W i m σ H →
      ((Itr lo n).stop i H ∧ D.nx σ H) ∨ ((Itr lo n).go i H ∧ ∃ N : St → Hp → Prop, (∀ σ' H', N σ' H' → ∃ m', m' < m ∧ W (i + 1) m' σ' H') ∧ ∀ x H', (Itr lo n).yld i H x H' → g x σ H' fun σ2 H2 => tb { D with nx := N, ct := N, bk := D.nx } σ2 H2) := by
  refine ⟨fun i m σ H => m = n - i ∧ i ≤ n ∧ Pv i σ H, ⟨n, by simp, Nat.zero_le _, h0⟩, ?_⟩
  rintro i m σ H ⟨rfl, hi, p⟩
  by_cases hlt : i < n
  · refine .inr ⟨hlt, Pv (i + 1), fun σ' H' p' => ⟨n - (i + 1), by (first | lia | omega), rfl, hlt, p'⟩, fun x H' y => ?_⟩
    obtain ⟨e, y⟩ := y
    subst e y
    exact hs i σ _ hlt p
  · have e : i = n := by (first | lia | omega)
    subst e
    exact .inl ⟨Nat.le_refl _, hd σ H p⟩
end L2

namespace L2
open PySem PySem.Spec PyProof.Rows

abbrev R2 := V → V → Hp → VK → Prop
/-- a two-place operation on values: f is binaryOp op, inplaceOp op or compareOp op -/
def OpR (X : Cx) (f : Value → Value → Sem Value) (r : R2) : Prop :=
  ∀ (pins : List (Addr × Obj)) (s : Shared) (σ : St) (H : Hp) (x y : V) (v u : Value) (Q : VK), Inv X pins σ H s → RelV x v → RelV y u → r x y H Q →
    wpAny (model X.prog X.w) X.A (f v u) (EP X pins σ Q) X.xe s
/-- a one-place operation -/
def UnR (X : Cx) (f : Value → Sem Value) (r : V → Hp → VK → Prop) : Prop :=
  ∀ (pins : List (Addr × Obj)) (s : Shared) (σ : St) (H : Hp) (x : V) (v : Value) (Q : VK), Inv X pins σ H s → RelV x v → r x H Q →
    wpAny (model X.prog X.w) X.A (f v) (EP X pins σ Q) X.xe s
/-- a call of a value that is known (a builtin, a type) with values -/
def CallR (X : Cx) (f : Value) (r : List V → Hp → VK → Prop) : Prop :=
  ∀ (pins : List (Addr × Obj)) (s : Shared) (σ : St) (H : Hp) (xs : List V) (us : List Value) (Q : VK), Inv X pins σ H s → Vals xs us → r xs H Q →
    wpAny (model X.prog X.w) X.A (call f us) (EP X pins σ Q) X.xe s
/-- a value's truth -/
def TruR (X : Cx) (r : V → Hp → (Bool → Hp → Prop) → Prop) : Prop :=
  ∀ (pins : List (Addr × Obj)) (s : Shared) (σ : St) (H : Hp) (x : V) (v : Value) (Q : Bool → Hp → Prop), Inv X pins σ H s → RelV x v → r x H Q →
    wpAny (model X.prog X.w) X.A (truthy v) (TP X pins σ Q) X.xe s

def tOp (r : R2) (ta tb : TE) : TE := fun σ H Q => ta σ H fun x H1 => tb σ H1 fun y H2 => r x y H2 Q
def tUn (r : V → Hp → VK → Prop) (ta : TE) : TE := fun σ H Q => ta σ H fun x H1 => r x H1 Q
/-- ints in, under C, and a value out -/
def rI (C : Int → Int → Prop) (g : Int → Int → V) : R2 := fun x y H Q => ∃ i j, x = .int i ∧ y = .int j ∧ C i j ∧ Q (g i j) H
def rI0 (g : Int → Int → V) : R2 := fun x y H Q => ∃ i j, x = .int i ∧ y = .int j ∧ Q (g i j) H
def rU (g : Int → V) : V → Hp → VK → Prop := fun x H Q => ∃ i, x = .int i ∧ Q (g i) H

section
variable {X : Cx} {a b c : Expr} {ta tb tc : TE} {pos : Pos}

theorem binT (ha : PE X a ta) (hb : PE X b tb) {pins : List (Addr × Obj)} {s : Shared} {σ : St} {H : Hp} {R : V → V → Hp → Prop} (I : Inv X pins σ H s)
    (h : ta σ H fun x H1 => tb σ H1 fun y H2 => R x y H2) {Q : Value → Shared → Prop} {f : Value → Value → Sem Value}
    (hf : ∀ v u s2 x y H2, Inv X pins σ H2 s2 → RelV x v → RelV y u → R x y H2 → wpAny (model X.prog X.w) X.A (f v u) Q X.xe s2) :
    wpAny (model X.prog X.w) X.A (eval a X.env) (fun v s₁ => wpAny (model X.prog X.w) X.A (eval b X.env) (fun u s₂ => wpAny (model X.prog X.w) X.A (f v u) Q X.xe s₂) X.xe s₁) X.xe s := by
  refine thn (ha pins s σ H _ I h) fun v s1 ⟨x, H1, I1, r1, q1⟩ => ?_
  refine thn (hb pins s1 σ H1 _ I1 q1) fun u s2 ⟨y, H2, I2, r2, q2⟩ => ?_
  exact hf v u s2 x y H2 I2 r1 r2 q2

theorem pe_op {op : Operator} {r : R2} (ho : OpR X (binaryOp op) r) (ha : PE X a ta) (hb : PE X b tb) : PE X (.BinOp a op b pos) (tOp r ta tb) := by
  intro pins s σ H Q I h
  exact wpAny_BinOp (binT ha hb I h fun v u s2 x y H2 I2 rx ry q => ho pins s2 σ H2 x y v u Q I2 rx ry q)
theorem pe_un {op : UnaryOp} {r : V → Hp → VK → Prop} (ho : UnR X (unaryOp op) r) (ha : PE X a ta) : PE X (.UnaryOp op a pos) (tUn r ta) := by
  intro pins s σ H Q I h
  exact UnaryOp_ (thn (ha pins s σ H _ I h) fun v s1 ⟨x, H1, I1, r1, q1⟩ => ho pins s1 σ H1 x v Q I1 r1 q1)
/-! ### ints -/
theorem opI {f : Value → Value → Sem Value} {C : Int → Int → Prop} {g : Int → Int → Int}
    (rule : ∀ (i j : Int) (t u : Tok) (s : Shared) (Q : Value → Shared → Prop) (E : Value → Shared → Prop), C i j → Q (.int (g i j) s.toks) { s with toks := s.toks + 1 } → wpAny (model X.prog X.w) X.A (f (.int i t) (.int j u)) Q E s) :
    OpR X f (rI C fun i j => .int (g i j)) := by
  intro pins s σ H x y v u Q I rx ry h
  obtain ⟨i, j, rfl, rfl, hc, q⟩ := h
  obtain ⟨t, rfl⟩ := rx
  obtain ⟨t', rfl⟩ := ry
  exact rule i j t t' s _ _ hc ⟨.int (g i j), H, I.tok _, ⟨_, rfl⟩, q⟩
theorem opI0 {f : Value → Value → Sem Value} {g : Int → Int → Int}
    (rule : ∀ (i j : Int) (t u : Tok) (s : Shared) (Q : Value → Shared → Prop) (E : Value → Shared → Prop), Q (.int (g i j) s.toks) { s with toks := s.toks + 1 } → wpAny (model X.prog X.w) X.A (f (.int i t) (.int j u)) Q E s) :
    OpR X f (rI0 fun i j => .int (g i j)) := by
  intro pins s σ H x y v u Q I rx ry h
  obtain ⟨i, j, rfl, rfl, q⟩ := h
  obtain ⟨t, rfl⟩ := rx
  obtain ⟨t', rfl⟩ := ry
  exact rule i j t t' s _ _ ⟨.int (g i j), H, I.tok _, ⟨_, rfl⟩, q⟩
theorem opB0 {f : Value → Value → Sem Value} {g : Int → Int → Bool}
    (rule : ∀ (i j : Int) (t u : Tok) (s : Shared) (Q : Value → Shared → Prop) (E : Value → Shared → Prop), Q (.bool (g i j)) s → wpAny (model X.prog X.w) X.A (f (.int i t) (.int j u)) Q E s) :
    OpR X f (rI0 fun i j => .bl (g i j)) := by
  intro pins s σ H x y v u Q I rx ry h
  obtain ⟨i, j, rfl, rfl, q⟩ := h
  obtain ⟨t, rfl⟩ := rx
  obtain ⟨t', rfl⟩ := ry
  exact rule i j t t' s _ _ ⟨.bl (g i j), H, I, rfl, q⟩

def CDiv (i j : Int) : Prop := 0 < j ∧ j < 1073741824
def CPow (i j : Int) : Prop := 0 ≤ j ∧ j ≤ 1000000 ∧ i.natAbs < 2 ^ 64
def CMul (i j : Int) : Prop := (-(2 ^ 64) < i ∧ i < 2 ^ 64) ∨ (-(2 ^ 64) < j ∧ j < 2 ^ 64)
theorem CMul.ok {i j : Int} (h : CMul i j) : IntMulOk i j := by
  rcases h with ⟨h1, h2⟩ | ⟨h1, h2⟩
  · exact .of_left (intBits_le_64 h1 h2)
  · exact .of_right (intBits_le_64 h1 h2)
theorem op_add : OpR X (binaryOp .Add) (rI0 fun i j => .int (i + j)) := opI0 fun _ _ _ _ _ _ _ q => add_int q
theorem op_sub : OpR X (binaryOp .Sub) (rI0 fun i j => .int (i - j)) := opI0 fun _ _ _ _ _ _ _ q => sub_int q
theorem op_mul : OpR X (binaryOp .Mult) (rI CMul fun i j => .int (i * j)) := opI fun _ _ _ _ _ _ _ hc q => mul_int q hc.ok
/-- // by a positive divisor -/
theorem op_fdiv : OpR X (binaryOp .FloorDiv) (rI CDiv fun i j => .int (i / j)) := opI fun i j _ _ _ _ _ hc q => by
  have h1 : (0 : Int) < j := hc.1
  have h2 : j < 1073741824 := hc.2
  exact floordiv_int (by (first | lia | omega)) (by rw [Int.fdiv_eq_ediv_of_nonneg i (by (first | lia | omega))]; exact q) (.inl (PyProof.noPylong_small (by (first | lia | omega))))
/-- % by a positive divisor of any size -/
theorem op_mod : OpR X (binaryOp .Mod) (rI (fun _ j => 0 < j) fun i j => .int (i % j)) := opI fun i j _ _ _ _ _ hc q => by
  have h1 : (0 : Int) < j := hc
  exact mod_int' (by (first | lia | omega)) (by rw [Int.fmod_eq_emod_of_nonneg i (by (first | lia | omega))]; exact q)
theorem op_pow : OpR X (binaryOp .Pow) (rI CPow fun i j => .int (i ^ j.toNat)) := opI fun _ _ _ _ _ _ _ hc q => pow_int_small hc.1 hc.2.1 hc.2.2 q
theorem unI {f : Value → Sem Value} {g : Int → Int}
    (rule : ∀ (i : Int) (t : Tok) (s : Shared) (Q : Value → Shared → Prop) (E : Value → Shared → Prop), Q (.int (g i) s.toks) { s with toks := s.toks + 1 } → wpAny (model X.prog X.w) X.A (f (.int i t)) Q E s) :
    UnR X f (rU fun i => .int (g i)) := by
  intro pins s σ H x v Q I rx h
  obtain ⟨i, rfl, q⟩ := h
  obtain ⟨t, rfl⟩ := rx
  exact rule i t s _ _ ⟨.int (g i), H, I.tok _, ⟨_, rfl⟩, q⟩
theorem un_neg : UnR X (unaryOp .USub) (rU fun i => .int (-i)) := unI fun _ _ _ _ _ q => neg_int q
/-! ### bools among ints: n += (a < b) -/
end

/-! ### comparisons -/
/-- the scalars that == tells apart as data does -/
def scal : V → V → Bool
  | .non, .non => true | .non, .int _ => true | .int _, .non => true | .non, .bl _ => true | .bl _, .non => true | .non, .str _ => true | .str _, .non => true
  | .int _, .int _ => true | .bl _, .bl _ => true | .str _, .str _ => true | .byt _, .byt _ => true
  | .int _, .str _ => true | .str _, .int _ => true | .bl _, .str _ => true | .str _, .bl _ => true
  | _, _ => false
def rEq : R2 := fun x y H Q => scal x y = true ∧ Q (.bl (decide (x = y))) H
theorem dec_int {i j : Int} : decide (V.int i = V.int j) = (i == j) := by
  rw [Bool.eq_iff_iff]
  simp
theorem dec_bl {i j : Bool} : decide (V.bl i = V.bl j) = (i == j) := by
  rw [Bool.eq_iff_iff]
  simp
theorem dec_str {i j : Str} : decide (V.str i = V.str j) = (i == j) := by
  rw [Bool.eq_iff_iff]
  simp
theorem dec_byt {i j : Array UInt8} : decide (V.byt i = V.byt j) = (i.toList == j.toList) := by
  rw [Bool.eq_iff_iff]
  cases i
  cases j
  simp

section
variable {X : Cx} {a b c : Expr} {ta tb tc : TE} {pos : Pos}
theorem fin_bl {pins : List (Addr × Obj)} {σ : St} {H : Hp} {s : Shared} {Q : VK} {k k' : Bool} (I : Inv X pins σ H s) (q : Q (.bl k) H) (e : k = k') : EP X pins σ Q (.bool k') s := by
  subst e
  exact ⟨.bl k, H, I, rfl, q⟩
theorem op_eq : OpR X (compareOp .Eq) rEq := by
  intro pins s σ H x y v u Q I rx ry h
  obtain ⟨hs, q⟩ := h
  cases x with
  | non =>
    cases rx
    cases y with
    | non => cases ry; exact PySem.EqNone.eq_none_none (fin_bl I q (by simp))
    | bl j => cases ry; exact PySem.EqNone.eq_none_bool (fin_bl I q (by simp))
    | int j => obtain ⟨t', rfl⟩ := ry; exact PySem.EqNone.eq_none_int (fin_bl I q (by simp))
    | str j => obtain ⟨t', rfl⟩ := ry; exact PySem.EqNone.eq_none_str (fin_bl I q (by simp))
    | _ => exact absurd (show false = true from hs) Bool.false_ne_true
  | bl i =>
    cases rx
    cases y with
    | non => cases ry; exact PySem.EqNone.eq_bool_none (fin_bl I q (by simp))
    | bl j => cases ry; exact eq_bool (fin_bl I q dec_bl)
    | str j => obtain ⟨t', rfl⟩ := ry; exact PySem.EqMixed.eq_bool_str (fin_bl I q (by simp))
    | _ => exact absurd (show false = true from hs) Bool.false_ne_true
  | int i =>
    obtain ⟨t, rfl⟩ := rx
    cases y with
    | non => cases ry; exact PySem.EqNone.eq_int_none (fin_bl I q (by simp))
    | int j => obtain ⟨t', rfl⟩ := ry; exact eq_int (fin_bl I q dec_int)
    | str j => obtain ⟨t', rfl⟩ := ry; exact PySem.EqMixed.eq_int_str (fin_bl I q (by simp))
    | _ => exact absurd (show false = true from hs) Bool.false_ne_true
  | str i =>
    obtain ⟨t, rfl⟩ := rx
    cases y with
    | non => cases ry; exact PySem.EqNone.eq_str_none (fin_bl I q (by simp))
    | bl j => cases ry; exact PySem.EqMixed.eq_str_bool (fin_bl I q (by simp))
    | int j => obtain ⟨t', rfl⟩ := ry; exact PySem.EqMixed.eq_str_int (fin_bl I q (by simp))
    | str j => obtain ⟨t', rfl⟩ := ry; exact eq_str (fin_bl I q dec_str)
    | _ => exact absurd (show false = true from hs) Bool.false_ne_true
  | byt i =>
    obtain ⟨t, rfl⟩ := rx
    cases y with
    | byt j => obtain ⟨t', rfl⟩ := ry; exact PySem.W.eq_bytes (fin_bl I q dec_byt)
    | _ => exact absurd (show false = true from hs) Bool.false_ne_true
  | _ => cases y <;> exact absurd (show false = true from hs) Bool.false_ne_true
theorem op_lt : OpR X (compareOp .Lt) (rI0 fun i j => .bl (decide (i < j))) := opB0 fun _ _ _ _ _ _ _ q => lt_int q
theorem op_le : OpR X (compareOp .LtE) (rI0 fun i j => .bl (decide (i ≤ j))) := opB0 fun _ _ _ _ _ _ _ q => le_int q
theorem op_gt : OpR X (compareOp .Gt) (rI0 fun i j => .bl (decide (j < i))) := opB0 fun _ _ _ _ _ _ _ q => gt_int q
/-- is None, is not None: the right side a value none -/
theorem op_isN : OpR X (compareOp .Is) (fun x y H Q => y = .non ∧ Q (.bl (decide (x = .non))) H) := by
  intro pins s σ H x y v u Q I rx ry h
  obtain ⟨rfl, q⟩ := h
  cases ry
  refine is_none_gen (fin_bl I q ?_)
  cases x <;> first
    | (cases rx; rfl)
    | (obtain ⟨t, rfl⟩ := rx; rfl)
theorem op_notN : OpR X (compareOp .IsNot) (fun x y H Q => y = .non ∧ Q (.bl (!decide (x = .non))) H) := by
  intro pins s σ H x y v u Q I rx ry h
  obtain ⟨rfl, q⟩ := h
  cases ry
  refine isnot_none_gen (fin_bl I q ?_)
  cases x <;> first
    | (cases rx; rfl)
    | (obtain ⟨t, rfl⟩ := rx; rfl)

theorem nomark (b : Expr) {op : CmpOp} (h : op ≠ .In := by decide) (h2 : op ≠ .NotIn := by decide) : behindInMarks op b = false := by
  have e1 : (op == CmpOp.In) = false := by cases op <;> first | rfl | exact absurd rfl h
  have e2 : (op == CmpOp.NotIn) = false := by cases op <;> first | rfl | exact absurd rfl h2
  cases b <;> simp [behindInMarks, e1, e2]
/-- a comparison as a value; hm: nomark b, or (for in, not in) by with_unfolding_all rfl -/
theorem pe_cmpR {op : CmpOp} {r : R2} (ho : OpR X (compareOp op) r) (ha : PE X a ta) (hb : PE X b tb) (hm : behindInMarks op b = false) : PE X (.Compare a [op] [b] pos) (tOp r ta tb) := by
  intro pins s σ H Q I h
  exact wpAny_Compare1 (binT ha hb I h fun v u s2 x y H2 I2 rx ry q => ho pins s2 σ H2 x y v u Q I2 rx ry q) hm
/-- a reading of a value as a test -/
def tTest (t : TE) : TT := fun σ H Q => t σ H fun x H' => ∃ k, x = .bl k ∧ Q k H'
theorem pt_cmpR {op : CmpOp} {r : R2} (ho : OpR X (compareOp op) r) (ha : PE X a ta) (hb : PE X b tb) (hm : behindInMarks op b = false) : PT X (.Compare a [op] [b] pos) (tTest (tOp r ta tb)) := by
  intro pins s σ H Q I h
  refine wpAny_isTrue_Compare1 (thn (ha pins s σ H _ I h) fun v s1 ⟨x, H1, I1, r1, q1⟩ => thn (hb pins s1 σ H1 _ I1 q1) fun u s2 ⟨y, H2, I2, r2, q2⟩ =>
    thn (ho pins s2 σ H2 x y v u _ I2 r1 r2 q2) fun c s3 ⟨z, H3, I3, r3, k, e, q3⟩ => ?_) hm
  subst e
  cases r3
  exact wpAny_truthy_bool ⟨H3, I3, q3⟩
/-- a op1 b op2 c -/
def tChain (r r' : R2) (ta tb tc : TE) : TE := fun σ H Q => ta σ H fun x H1 => tb σ H1 fun y H2 => r x y H2 fun z H3 => ∃ k, z = .bl k ∧
  (if k = true then tc σ H3 fun w' H4 => r' y w' H4 Q else Q (.bl false) H3)
theorem pe_chain {op op' : CmpOp} {r r' : R2} (ho : OpR X (compareOp op) r) (ho' : OpR X (compareOp op') r') (ha : PE X a ta) (hb : PE X b tb) (hc : PE X c tc)
    (hm : lastMarks [op, op'] [b, c] = false := by with_unfolding_all rfl) : PE X (.Compare a [op, op'] [b, c] pos) (tChain r r' ta tb tc) := by
  intro pins s σ H Q I h
  refine Compare_chain (thn (ha pins s σ H _ I h) fun v s1 ⟨x, H1, I1, r1, q1⟩ => chain_link (thn (hb pins s1 σ H1 _ I1 q1) fun u s2 ⟨y, H2, I2, r2, q2⟩ =>
    thn (ho pins s2 σ H2 x y v u _ I2 r1 r2 q2) fun d s3 ⟨z, H3, I3, r3, k, e, q3⟩ => ?_)) hm
  subst e
  cases r3
  refine wpAny_truthy_bool ?_
  cases k with
  | false => exact ite_ff ⟨.bl false, H3, I3, rfl, q3⟩
  | true => exact ite_tt (chain_last (thn (hc pins s3 σ H3 _ I3 q3) fun w' s4 ⟨z', H4, I4, r4, q4⟩ => ho' pins s4 σ H4 y z' u w' Q I4 r2 r4 q4))
/-! ### truth -/
/-- a value's truth by the abstract heap -/
def TruV (K : PySem.W.Frag) (x : V) (H : Hp) (k : Bool) : Prop :=
  match x with
  | .non => k = false
  | .bl b => k = b
  | .int i => k = (i != 0)
  | .str y => y.length ≤ sizeLine ∧ k = ((y.length : Int) != 0)
  | .byt y => y.size ≤ sizeLine ∧ k = ((y.size : Int) != 0)
  | .ref p => (∃ xs, SqL K H p xs ∧ k = !xs.isEmpty) ∨ (∃ xs, SqT K H p xs ∧ k = !xs.isEmpty) ∨ ∃ kvs, H p = some (.dK kvs) ∧ k = !kvs.isEmpty
  | _ => False
theorem isEmpty_kv {κ : Type} {kvs : List (κ × V)} {vs : List (κ × Value)} (r : KV kvs vs) : (!vs.isEmpty) = !kvs.isEmpty := by
  cases r <;> rfl
theorem isEmpty_of {xs : List V} {its : List Value} (r : Vals xs its) : (!its.toArray.isEmpty) = !xs.isEmpty := by
  cases r <;> simp
theorem line63 : (sizeLine : Nat) < 2 ^ 63 := by rw [sizeLine_eq]; decide
theorem tru_ok : TruR X (fun x H Q => ∃ k, TruV X.K x H k ∧ Q k H) := by
  intro pins s σ H x v Q I rx h
  obtain ⟨k, e, q⟩ := h
  have hl := line63
  have hs : sizeLine = 16777216 := sizeLine_eq
  cases x with
  | non =>
    cases rx
    have e' : k = false := e
    subst e'
    exact truthy_none ⟨H, I, q⟩
  | bl b =>
    cases rx
    have e' : k = b := e
    subst e'
    exact wpAny_truthy_bool ⟨H, I, q⟩
  | int i =>
    obtain ⟨t, rfl⟩ := rx
    have e' : k = (i != 0) := e
    subst e'
    exact PySem.P.truthy_int ⟨H, I, q⟩
  | str y =>
    obtain ⟨t, rfl⟩ := rx
    obtain ⟨hy, e'⟩ : y.length ≤ sizeLine ∧ k = ((y.length : Int) != 0) := e
    subst e'
    exact PySem.P.truthy_str (by (first | lia | omega)) ⟨H, I.tok _, q⟩
  | byt y =>
    obtain ⟨t, rfl⟩ := rx
    obtain ⟨hy, e'⟩ : y.size ≤ sizeLine ∧ k = ((y.size : Int) != 0) := e
    subst e'
    exact PySem.W.truthy_bytes (by (first | lia | omega)) ⟨H, I.tok _, q⟩
  | ref p =>
    cases rx
    have e' : (∃ xs, SqL X.K H p xs ∧ k = !xs.isEmpty) ∨ (∃ xs, SqT X.K H p xs ∧ k = !xs.isEmpty) ∨ ∃ kvs, H p = some (.dK kvs) ∧ k = !kvs.isEmpty := e
    rcases e' with ⟨xs, hx, e'⟩ | ⟨xs, hx, e'⟩ | ⟨kvs, hx, e'⟩
    · subst e'
      obtain ⟨its, r, pl, hz⟩ := I.list hx
      have hlen := r.length
      exact wpAny_truthy_list pl.isList (by simp only [List.size_toArray]; (first | lia | omega)) ⟨H, I.tok _, by rw [isEmpty_of r]; exact q⟩
    · subst e'
      obtain ⟨its, r, pl, hz⟩ := I.tuple hx
      have hlen := r.length
      exact truthy_tuple pl (by simp only [List.size_toArray]; (first | lia | omega)) ⟨H, I.tok _, by rw [isEmpty_of r]; exact q⟩
    · subst e'
      obtain ⟨hz, hS, vs, r, m⟩ : kvs.length ≤ sizeLine ∧ (p == sysModules) = false ∧ ∃ vs, KV kvs vs ∧ s.heap.DictOf (mixKind X.prog X.w) p vs := I.hok p _ hx
      have hlen : kvs.length = vs.length := Paired.length r
      exact wpAny_truthy_dict hS m (by (first | lia | omega)) ⟨H, I.tok _, by rw [isEmpty_kv r]; exact q⟩
  | _ => exact (show False from e).elim
/-- any expression whose test is its value's truth (a name, a call, a subscript, a field ..: he by fun _ => rfl) -/
theorem pt_truth (ha : PE X a ta) (he : ∀ whole, isTrue a X.env whole = (do let v ← whole; standAt a.pos; holding [v] (truthy v))) :
    PT X a (fun σ H Q => ta σ H fun x H' => ∃ k, TruV X.K x H' k ∧ Q k H') := by
  intro pins s σ H Q I h
  exact isTrue_plain (thn (ha pins s σ H _ I h) fun v s1 ⟨x, H1, I1, r1, q1⟩ => tru_ok pins s1 σ H1 x v Q I1 r1 q1) (he _)

/-! ### strs and bytes -/
/-! ### scalar builtins, by CallR -/
theorem vals1 {x : V} {us : List Value} (r : Vals [x] us) : ∃ u, us = [u] ∧ RelV x u := by
  cases r with
  | cons r1 r2 => cases r2; exact ⟨_, rfl, r1⟩
end
end L2

namespace L2
open PySem PySem.Spec PyProof.Rows

/-! ### an instance, its attributes a map -/
structure ObjM (h : Heap) (x dx C : Addr) (mA : Str → Option Value) : Prop where
  obj : h.get? x = some (PySem.W.instObj C dx)
  ns : h.Ns1 dx mA
  ne : dx ≠ x

theorem lookIn_ns {h : Heap} {dx : Addr} {mA : Str → Option Value} (n : h.Ns1 dx mA) : ∃ od, h.get? dx = some od ∧ ∀ name, PySem.W.lookIn name od = some (mA name) := by
  obtain ⟨o, es, ep, ho, hd, hk, _, hm⟩ := n
  refine ⟨o, ho, fun name => ?_⟩
  have e := hm name
  unfold nsFind findBy at e
  rw [← Array.find?_toList] at e
  unfold PySem.W.lookIn
  rw [hd]
  dsimp only
  split
  · rename_i y q
    rw [q] at e
    exact congrArg some e
  · rename_i q
    rw [q] at e
    have a : es.toList.any (·.refKey) = false := by
      rw [List.any_eq_false]
      intro y hy
      obtain ⟨z, t, hkey⟩ := hk y (Array.mem_toList_iff.mp hy)
      simp [DictEntry.refKey, hkey]
    have a' : ¬ es.toList.any (·.refKey) = true := by rw [a]; exact Bool.false_ne_true
    rw [if_neg a']
    exact congrArg some e

theorem ObjM.look {h : Heap} {x dx C : Addr} {mA : Str → Option Value} (I : ObjM h x dx C mA) : ∃ od, PySem.W.InstAt h x (PySem.W.instObj C dx) C (some od) ∧ ∀ name, PySem.W.lookIn name od = some (mA name) :=
  let ⟨od, ho, hl⟩ := lookIn_ns I.ns
  ⟨od, ⟨I.obj, rfl, rfl, ho⟩, hl⟩

section
variable {prog : Program} {w : World} {A : Around} {E : Value → Shared → Prop} {s : Shared} {K : PySem.W.Frag} {x dx C f : Addr} {mA : Str → Option Value} {name : Str} {v : Value}

theorem get_map {expr : Bool} {Q : Value → Shared → Prop} (X : K.In s.heap) (I : ObjM s.heap x dx C mA) (hg : PySem.W.plainGet K C name = true) (hh : PySem.W.hasDictIn K C = true)
    (ha : PySem.W.findIn K (.ref C) name = some none) (hv : mA name = some v) (hv' : PySem.W.handedIn v = true) (h : Q v { s with toks := s.toks + 1 }) :
    wpAny (model prog w) A (getAttr (.ref x) name expr) Q E s := by
  obtain ⟨od, J, hl⟩ := I.look
  exact PySem.W.get_value X J (PySem.W.plainGet_of hg).1 (PySem.W.findObj_own hh ha rfl (by rw [hl, hv])) hv' h

theorem get_meth {pl : Sem Bool} {Q : Value × List Value → Shared → Prop} (X : K.In s.heap) (I : ObjM s.heap x dx C mA) (hg : PySem.W.plainGet K C name = true)
    (hf : PySem.W.findIn K (.ref C) name = some (some (.ref f))) (ht : PySem.W.isFn K (.ref f) = true) (hv : mA name = none) (h : Q (.ref f, [.ref x]) s) :
    wpAny (model prog w) A (getMethod (.ref x) name pl) Q E s := by
  obtain ⟨od, J, hl⟩ := I.look
  exact PySem.W.method_fn X J (PySem.W.plainGet_of hg).1 (PySem.W.plainGet_of hg).2 hf (beq_iff_eq.mp ht) (by show (PySem.W.lookIn name od).map (·.isSome) = some false; rw [hl, hv]; rfl) h

theorem set_map {ns : List Str} {Q : Unit → Shared → Prop} (X : K.In s.heap) (I : ObjM s.heap x dx C mA)
    (hs : PySem.W.findIn K (.ref C) "__setattr__" = some (some (.builtin "object.__setattr__"))) (hp : PySem.W.plainOver K C = true) (ht : PySem.W.takerIn K C name = some none) (hh : PySem.W.hasDictIn K C = true)
    (hw : PySem.Within mA ns) (hsz : ns.length ≤ sizeLine)
    (h : ∀ h', ObjM h' x dx C (fun y => if y = name then some v else mA y) → Heap.SameBut dx s.heap h' → Q () { s with heap := h', toks := s.toks + 2 }) :
    wpAny (model prog w) A (setAttr (.ref x) name v) Q E s := by
  obtain ⟨od, J, hl⟩ := I.look
  refine PySem.W.set_plain X J hs (PySem.W.osa_open (s := { s with toks := s.toks + 1 }) (r := none) X J hp ht fun b => ?_)
  obtain ⟨cd, hc, hd'⟩ := PySem.W.any_some hh
  have hx : s.heap.get? x = some ⟨.ref C, some dx, .plain, #[]⟩ := I.obj
  refine wpAny_bind (wpAny_pure (wpAny_bind (wpAny_bind (wpAny_loadPart hx (wpAny_bind (PySem.W.Looks.here (s := { s with toks := s.toks + 1 }) (PySem.W.looks_clsIn X hc) ?_))))))
  rw [hd']
  refine wpAny_pure (a := some dx) (wpAny_bind (wpAny_pure (wpAny_bind ?_)))
  refine wpAny_nsSet1 (s := { s with toks := s.toks + 1 }) I.ns fun h' hn2 hs2 => ?_
  obtain ⟨oD, esD, epD, hoD, hdD, hcD⟩ := hn2.count (PySem.Within.cons name v hw)
  refine wpAny_bind (wpAny_lookBehind hoD (by rw [hdD]; exact pastItsLine_dict (Nat.le_trans hcD (by rw [List.length_cons]; (first | lia | omega)))) ?_)
  exact wpAny_pure (h _ ⟨(hs2.2 _ (Ne.symm I.ne)).trans I.obj, hn2, I.ne⟩ hs2)

/-- C(..): the dict at the heap's end, the instance behind it; then its __init__ -/
theorem make_map {R : Result → Shared → Prop} {vs : List Value} {kw : List (Str × Value)} (X : K.In s.heap) (hm : PySem.W.makesIn K C = true)
    (hi : PySem.W.findIn K (.ref C) "__init__" = some (some (.ref f))) (hf : PySem.W.typeIn K (.ref f) = some (.type "function"))
    (h : codeAny (model prog w) (A.under (.builtin "type.__call__" ⟨.ref C :: vs, kw⟩)) (.call (.ref f) ⟨.ref (s.heap.objs.size + 1) :: vs, kw⟩) (PySem.W.InitBack (s.heap.objs.size + 1) R)
      { s with heap := (s.heap.push PySem.W.emptyDict).push (PySem.W.instObj C s.heap.objs.size) }) :
    codeAny (model prog w) A (.call (.ref C) ⟨vs, kw⟩) R s := by
  obtain ⟨hh, g, d, t, os⟩ := s
  exact PySem.W.make_core (PySem.W.makes_of X hm) (PySem.W.looks_findIn X hi) (fun self => PySem.W.bind_fn X self hf) (.inl rfl) h
end

/-! ### the attributes as a list of pairs -/
def putF (f : Str) (v : V) : List (Str × V) → List (Str × V)
  | [] => [(f, v)]
  | (g, x) :: r => if g = f then (g, v) :: r else (g, x) :: putF f v r
theorem lookup_putF (f g : Str) (v : V) : ∀ fs : List (Str × V), (putF f v fs).lookup g = if g = f then some v else fs.lookup g
  | [] => by
    show List.lookup g [(f, v)] = _
    by_cases h : g = f
    · have hb : (g == f) = true := beq_iff_eq.mpr h
      simp only [List.lookup, hb, if_pos h]
    · have hb : (g == f) = false := beq_eq_false_iff_ne.mpr h
      simp only [List.lookup, hb, if_neg h]
  | (k, x) :: r => by
    have ih := lookup_putF f g v r
    rw [show putF f v ((k, x) :: r) = (if k = f then (k, v) :: r else (k, x) :: putF f v r) from rfl]
    by_cases hk : k = f
    · rw [if_pos hk]
      by_cases h : g = k
      · have hb : (g == k) = true := beq_iff_eq.mpr h
        simp only [List.lookup, hb, if_pos (h.trans hk)]
      · have hb : (g == k) = false := beq_eq_false_iff_ne.mpr h
        simp only [List.lookup, hb, if_neg (fun e : g = f => h (e.trans hk.symm))]
    · rw [if_neg hk]
      by_cases h : g = k
      · have hb : (g == k) = true := beq_iff_eq.mpr h
        simp only [List.lookup, hb, if_neg (fun e : g = f => hk (h.symm.trans e))]
      · have hb : (g == k) = false := beq_eq_false_iff_ne.mpr h
        simp only [List.lookup, hb]
        exact ih
theorem keys_putF (f : Str) (v : V) : ∀ fs : List (Str × V), f ∈ (putF f v fs).map (·.1) ∧ ∀ g, g ∈ fs.map (·.1) → g ∈ (putF f v fs).map (·.1)
  | [] => ⟨by simp [putF], fun g h => by simp at h⟩
  | (k, x) :: r => by
    obtain ⟨i1, i2⟩ := keys_putF f v r
    rw [show putF f v ((k, x) :: r) = (if k = f then (k, v) :: r else (k, x) :: putF f v r) from rfl]
    by_cases hk : k = f
    · rw [if_pos hk]
      subst hk
      exact ⟨by simp, fun g h => by simpa using h⟩
    · rw [if_neg hk]
      refine ⟨?_, fun g h => ?_⟩
      · rw [List.map_cons]
        exact List.mem_cons_of_mem _ i1
      · rw [List.map_cons] at h ⊢
        rcases List.mem_cons.mp h with e | e
        · exact List.mem_cons.mpr (.inl e)
        · exact List.mem_cons_of_mem _ (i2 g e)
theorem length_putF (f : Str) (v : V) : ∀ fs : List (Str × V), (putF f v fs).length ≤ fs.length + 1
  | [] => by simp [putF]
  | (k, x) :: r => by
    have ih := length_putF f v r
    rw [show putF f v ((k, x) :: r) = (if k = f then (k, v) :: r else (k, x) :: putF f v r) from rfl]
    by_cases hk : k = f
    · rw [if_pos hk, List.length_cons, List.length_cons]; (first | lia | omega)
    · rw [if_neg hk, List.length_cons, List.length_cons]; (first | lia | omega)

theorem RelO.some_of {v : V} {o : Option Value} (r : RelO (some v) o) : ∃ u, o = some u ∧ RelV v u := by
  cases o with
  | none => exact (show False from r).elim
  | some u => exact ⟨u, rfl, r⟩
theorem RelO.none_of {o : Option Value} (r : RelO none o) : o = none := by
  cases o with
  | none => rfl
  | some u => exact (show False from r).elim
theorem handed_of {v : V} {u : Value} (r : RelV v u) : PySem.W.handedIn u = true := by
  cases v with
  | non => cases (show u = Value.none from r); rfl
  | bl b => cases (show u = Value.bool b from r); rfl
  | int i => obtain ⟨t, e⟩ := (show ∃ t, u = Value.int i t from r); cases e; rfl
  | str x => obtain ⟨t, e⟩ := (show ∃ t, u = Value.str x t from r); cases e; rfl
  | byt b => obtain ⟨t, e⟩ := (show ∃ t, u = Value.bytes b t from r); cases e; rfl
  | flt b => obtain ⟨t, e⟩ := (show ∃ t, u = Value.float b t from r); cases e; rfl
  | ref a => cases (show u = Value.ref a from r); rfl
  | ty n => cases (show u = Value.type n from r); rfl

section
variable {P : Program} {w : World} {H H' : Hp} {h h' : Heap} {a C dx : Addr} {fs fs' : List (Str × V)}
theorem ins_get (hok : HOk P w H h) (e : H a = some (.ins C dx fs)) : ∃ mA, ObjM h a dx C mA ∧ (∀ f, RelO (fs.lookup f) (mA f)) ∧ PySem.Within mA (fs.map (·.1)) ∧ fs.length ≤ 1000 ∧ H dx = some (.own a) := by
  obtain ⟨d, z, ne, ob, mA, n, r, q⟩ := (show ObjOk P w H h a (.ins C dx fs) from hok a _ e)
  exact ⟨mA, ⟨ob, n, ne⟩, r, q, z, d⟩
end

/-! ### what of the text a class must have -/
structure Cls (K : PySem.W.Frag) (C : Addr) : Prop where
  pg : PySem.W.plainGet K C Str.empty = true
  hd : PySem.W.hasDictIn K C = true
  po : PySem.W.plainOver K C = true
  sa : PySem.W.findIn K (.ref C) "__setattr__" = some (some (.builtin "object.__setattr__"))
theorem Cls.get {K : PySem.W.Frag} {C : Addr} (c : Cls K C) (f : Str) : PySem.W.plainGet K C f = true := c.pg
/-- no class of it has the name -/
def NoAttr (K : PySem.W.Frag) (C : Addr) (f : Str) : Prop := PySem.W.findIn K (.ref C) f = some none
theorem NoAttr.taker {K : PySem.W.Frag} {C : Addr} {f : Str} (n : NoAttr K C f) : PySem.W.takerIn K C f = some none := by
  unfold PySem.W.takerIn
  rw [show PySem.W.findIn K (.ref C) f = some none from n]
  rfl
/-- a method: a plain def of the class or of one above it -/
structure Meth (K : PySem.W.Frag) (C : Addr) (m : Str) (f : Addr) : Prop where
  at_ : PySem.W.findIn K (.ref C) m = some (some (.ref f))
  fn : PySem.W.isFn K (.ref f) = true
  kp : PySem.W.keepIn K (.ref f) = true

section
variable {X : Cx} {pins : List (Addr × Obj)} {σ : St} {H : Hp} {s : Shared} {a C dx : Addr} {fs : List (Str × V)} {f : Str} {v : V} {A : Around} {E : Value → Shared → Prop}

theorem getattr_ok {b : Bool} {Q : Value → Shared → Prop} (I : Inv X pins σ H s) (e : H a = some (.ins C dx fs)) (c : Cls X.K C) (n : NoAttr X.K C f) (l : fs.lookup f = some v)
    (h : ∀ u s', Inv X pins σ H s' → RelV v u → Q u s') : wpAny (model X.prog X.w) A (getAttr (.ref a) f b) Q E s := by
  obtain ⟨mA, O, r, _, _, _⟩ := ins_get I.hok e
  obtain ⟨u, hu, ru⟩ := RelO.some_of (v := v) (o := mA f) (by rw [← l]; exact r f)
  exact get_map I.kIn O (c.get f) c.hd n hu (handed_of ru) (h u _ (I.tok _) ru)

theorem getmeth_ok {m : Str} {g : Addr} {pl : Sem Bool} {Q : Value × List Value → Shared → Prop} (I : Inv X pins σ H s) (e : H a = some (.ins C dx fs)) (c : Cls X.K C) (k : Meth X.K C m g) (l : fs.lookup m = none)
    (h : Q (.ref g, [.ref a]) s) : wpAny (model X.prog X.w) A (getMethod (.ref a) m pl) Q E s := by
  obtain ⟨mA, O, r, _, _, _⟩ := ins_get I.hok e
  have hn : mA m = none := RelO.none_of (by rw [← l]; exact r m)
  exact get_meth I.kIn O (c.get m) k.at_ k.fn hn h

theorem setattr_ok {y : V} {u : Value} {Q : Unit → Shared → Prop} (I : Inv X pins σ H s) (e : H a = some (.ins C dx fs)) (c : Cls X.K C) (n : NoAttr X.K C f) (hl : fs.length < 1000) (ry : RelV y u)
    (h : ∀ s', Inv X pins σ (upd H a (.ins C dx (putF f y fs))) s' → Q () s') : wpAny (model X.prog X.w) A (setAttr (.ref a) f u) Q E s := by
  obtain ⟨mA, O, r, wi, _, ho⟩ := ins_get I.hok e
  have hz : (fs.map (·.1)).length ≤ sizeLine := by rw [List.length_map, sizeLine_eq]; (first | lia | omega)
  refine set_map I.kIn O c.sa c.po n.taker c.hd wi hz fun h' O' sb => h _ ?_
  have hd : ∃ o, h'.get? dx = some o := let ⟨o, _, _, e', _⟩ := O'.ns; ⟨o, e'⟩
  refine I.write (x := a) (e := dx) (by rw [e]; exact True.intro) (.inr ho) (fun b q hb z => (sb.2 b hb).trans z) hd ?_
  refine ⟨by rw [upd_ne O.ne]; exact ho, ?_, O.ne, O'.obj, _, O'.ns, fun g => ?_, fun g hg => ?_⟩
  · have := length_putF f y fs; (first | lia | omega)
  · show RelO ((putF f y fs).lookup g) (if g = f then some u else mA g)
    rw [lookup_putF]
    by_cases q : g = f
    · rw [if_pos q, if_pos q]; exact ry
    · rw [if_neg q, if_neg q]; exact r g
  · by_cases q : g = f
    · rw [q]; exact (keys_putF f y fs).1
    · refine (keys_putF f y fs).2 g (wi g fun z => hg ?_)
      show (if g = f then some u else mA g) = none
      rw [if_neg q]; exact z

/-- a new instance, tracked, without attributes -/
theorem Inv.made (I : Inv X pins σ H s) : Inv X pins σ (upd (upd H s.heap.objs.size (.own (s.heap.objs.size + 1))) (s.heap.objs.size + 1) (.ins C s.heap.objs.size []))
    { s with heap := (s.heap.push PySem.W.emptyDict).push (PySem.W.instObj C s.heap.objs.size) } := by
  have e1 : (s.heap.push PySem.W.emptyDict).get? s.heap.objs.size = some PySem.W.emptyDict := Heap.get?_push_size s.heap rfl
  have e2 : ((s.heap.push PySem.W.emptyDict).push (PySem.W.instObj C s.heap.objs.size)).get? (s.heap.objs.size + 1) = some (PySem.W.instObj C s.heap.objs.size) := by
    have := Heap.get?_push_size (s.heap.push PySem.W.emptyDict) (o := PySem.W.instObj C s.heap.objs.size) rfl
    rwa [Heap.size_push] at this
  have e3 : (s.heap.push PySem.W.emptyDict).Ns s.heap.objs.size (fun _ => none) := ⟨PySem.W.emptyDict, #[], _, e1, rfl, (fun e he => absurd he (by simp)), fun _ => rfl⟩
  have I1 := I.laid (a := s.heap.objs.size) (o := .own (s.heap.objs.size + 1)) (h' := s.heap.push PySem.W.emptyDict) (t' := s.toks) (fun b u q => Heap.get?_push_of_some _ q) (Nat.le_refl _) ⟨_, e1⟩
  refine I1.laid (a := s.heap.objs.size + 1) (o := .ins C s.heap.objs.size []) (t' := s.toks) (fun b u q => Heap.get?_push_of_some _ q) (Nat.le_of_eq (Heap.size_push _ _)) ?_
  have ne : s.heap.objs.size ≠ s.heap.objs.size + 1 := Nat.ne_of_lt (Nat.lt_succ_self _)
  refine ⟨by rw [upd_ne ne, upd_same], Nat.zero_le _, ne, e2, fun _ => none, (Heap.Ns1.of_empty e3).at fun o q => Heap.get?_push_of_some _ q, fun _ => True.intro, fun y hy => absurd rfl hy⟩

/-- e.f where nothing but the object is asked: through attributeBase (super) and the last hold -/
theorem attr_of {prog : Program} {w : World} {env : Env} {e : Expr} {f : Str} {pos : Pos} {s : Shared} {Q : Value → Shared → Prop} (hb : attributeBase e f env (eval e env) = eval e env)
    (h : wpAny (model prog w) A (eval e env) (fun o s₁ => wpAny (model prog w) A (getAttr o f true) Q E s₁) E s) : wpAny (model prog w) A (eval (.Attribute e f pos) env) Q E s :=
  Attribute_any_ h (by rw [arm_eval_Attribute, hb])
end

/-! ### readings and rules -/
/-- e.f, an attribute of the instance -/
def tFld (K : PySem.W.Frag) (ta : TE) (f : Str) : TE := fun σ H Q => ta σ H fun x H1 => ∃ a C dx fs v, x = .ref a ∧ H1 a = some (.ins C dx fs) ∧ Cls K C ∧ NoAttr K C f ∧ fs.lookup f = some v ∧ Q v H1
/-- e.f = value -/
def sFld (K : PySem.W.Frag) (ta tv : TE) (f : Str) : TS := fun D σ H => tv σ H fun y H1 => ta σ H1 fun x H2 => ∃ a C dx fs, x = .ref a ∧ H2 a = some (.ins C dx fs) ∧ Cls K C ∧ NoAttr K C f ∧ fs.length < 1000 ∧
  D.nx σ (upd H2 a (.ins C dx (putF f y fs)))
/-- an augmented operator on two values -/
def InOp (X : Cx) (op : Operator) (rd : V → V → Hp → VK → Prop) : Prop :=
  ∀ (pins : List (Addr × Obj)) (s : Shared) (σ : St) (H : Hp) (x y : V) (u v : Value) (Q : VK), Inv X pins σ H s → RelV x u → RelV y v → rd x y H Q → wpAny (model X.prog X.w) X.A (inplaceOp op u v) (EP X pins σ Q) X.xe s
/-- e.f op= value -/
def sFldAug (K : PySem.W.Frag) (ta tv : TE) (rd : V → V → Hp → VK → Prop) (f : Str) : TS := fun D σ H => ta σ H fun x H1 => ∃ a C dx fs v, x = .ref a ∧ H1 a = some (.ins C dx fs) ∧ Cls K C ∧ NoAttr K C f ∧ fs.lookup f = some v ∧
  tv σ H1 fun y H2 => rd v y H2 fun z H3 => ∃ dx' fs', H3 a = some (.ins C dx' fs') ∧ fs'.length < 1000 ∧ D.nx σ (upd H3 a (.ins C dx' (putF f z fs')))

section
variable {X : Cx} {o e value : Expr} {f : Str} {pos pos' tpos : Pos} {ta tv : TE}
theorem pe_fld (he : PE X e ta) (hb : attributeBase e f X.env (eval e X.env) = eval e X.env) : PE X (.Attribute e f pos) (tFld X.K ta f) := by
  intro pins s σ H Q I h
  refine attr_of hb (thn (he pins s σ H _ I h) fun u s1 ⟨x, H1, I1, rx, a, C, dx, fs, v, ex, ea, c, n, l, q⟩ => ?_)
  subst ex
  obtain rfl : u = Value.ref a := rx
  exact getattr_ok I1 ea c n l fun u' s2 I2 ru => ⟨v, H1, I2, ru, q⟩
theorem ps_fld (ha : PE X o ta) (hv : PE X value tv) (hs : swapsWith value (some (.Attribute o f pos')) pos.line X.env = pure false) : PS X (.Assign [.Attribute o f pos'] value pos) (sFld X.K ta tv f) := by
  intro pins s σ H D I h
  refine plainObj_wpAny_Assign_Attribute (thn (hv pins s σ H _ I h) fun u s1 ⟨y, H1, I1, ry, q⟩ => thn (ha pins s1 σ H1 _ I1 q) fun ov s2 ⟨x, H2, I2, rx, a, C, dx, fs, ex, ea, c, n, l, q2⟩ => ?_) hs
  subst ex
  obtain rfl : ov = Value.ref a := rx
  exact setattr_ok I2 ea c n l ry fun s3 I3 => ⟨σ, _, I3, q2⟩
theorem ps_fldaug {op : Operator} {rd : V → V → Hp → VK → Prop} (ha : PE X o ta) (hv : PE X value tv) (hop : InOp X op rd) : PS X (.AugAssign (.Attribute o f tpos) op value pos) (sFldAug X.K ta tv rd f) := by
  intro pins s σ H D I h
  refine wpAny_AugAssign_AttributeAny (thn (ha pins s σ H _ I h) fun ov s1 ⟨x, H1, I1, rx, a, C, dx, fs, v, ex, ea, c, n, l, q⟩ => ?_)
  subst ex
  obtain rfl : ov = Value.ref a := rx
  refine getattr_ok I1 ea c n l fun u s2 I2 ru => thn (hv pins s2 σ H1 _ I2 q) fun w3 s3 ⟨y, H2, I3, ry, q3⟩ => thn (hop pins s3 σ H2 v y u w3 _ I3 ru ry q3) fun w4 s4 ⟨z, H3, I4, rz, dx', fs', ea', l', q4⟩ => ?_
  exact setattr_ok I4 ea' c n l' rz fun s5 I5 => ⟨σ, _, I5, q4⟩
def rAdd : V → V → Hp → VK → Prop := fun x y H Q => ∃ i j, x = .int i ∧ y = .int j ∧ Q (.int (i + j)) H
theorem in_add : InOp X .Add rAdd := by
  rintro pins s σ H x y u v Q I rx ry ⟨i, j, rfl, rfl, q⟩
  obtain ⟨t, rfl⟩ := (show ∃ t, u = Value.int i t from rx)
  obtain ⟨t', rfl⟩ := (show ∃ t', v = Value.int j t' from ry)
  exact PyProof.Rows.iadd_int ⟨.int (i + j), H, I.tok _, ⟨_, rfl⟩, q⟩
end

/-! ### isinstance -/
end L2

namespace L2
open PySem PySem.Spec PyProof.Rows

/-! ### room -/
structure Room (k : Nat) (A : Around) : Prop where
  hd : A.handled = none
  dp : A.depth + 2 * k + 5 < recursionLimit
  un : A.units + 16 * k + 200 < cLine
theorem Room.mono {j k : Nat} {A : Around} (r : Room k A) (h : j ≤ k) : Room j A := ⟨r.hd, by have := r.dp; (first | lia | omega), by have := r.un; (first | lia | omega)⟩
theorem Room.deeper {k : Nat} {A : Around} (r : Room (k + 1) A) (env : Env) : Room k (A.deeper env) :=
  ⟨r.hd, by have := r.dp; show A.depth + 1 + 2 * k + 5 < _; (first | lia | omega), by have := r.un; show A.units + 3 + 16 * k + 200 < _; (first | lia | omega)⟩
theorem make_depth {A : Around} {C : Addr} {us : List Value} {kw : List (Str × Value)} : (A.under (.builtin "type.__call__" ⟨.ref C :: us, kw⟩)).depth = A.depth + 1 := by
  first | rfl | simp [Around.under, Code.weight, Code.isCreation, Code.isGuard, Code.isCaller, Code.frames, Code.isFrame, guardIds]
theorem make_units {A : Around} {C : Addr} {us : List Value} {kw : List (Str × Value)} : (A.under (.builtin "type.__call__" ⟨.ref C :: us, kw⟩)).units = A.units + 1 := by
  first | rfl | simp [Around.under, Code.cUnits, Code.frames, Code.isFrame]
theorem Room.make {k : Nat} {A : Around} (r : Room (k + 1) A) (C : Addr) (us : List Value) (kw : List (Str × Value)) : Room k (A.under (.builtin "type.__call__" ⟨.ref C :: us, kw⟩)) :=
  ⟨r.hd, by have := r.dp; rw [make_depth]; (first | lia | omega), by have := r.un; rw [make_units]; (first | lia | omega)⟩
theorem Room.depth {k : Nat} {A : Around} (r : Room k A) : A.depth < recursionLimit := by have := r.dp; (first | lia | omega)
/-! ### argument lists and displays -/
def tNil : TA := fun _ H Q => Q [] H
def tCons (ta : TE) (tr : TA) : TA := fun σ H Q => ta σ H fun x H1 => tr σ H1 fun xs H2 => Q (x :: xs) H2
section
variable {X : Cx} {e : Expr} {es : List Expr} {te : TE} {t : TA} {pos : Pos}
theorem pa_nil : PA X [] tNil := fun _ _ _ _ H Q I h => Calls.spliced_nil ⟨[], H, I, .nil, h⟩
theorem pa_cons (ha : PE X e te) (hr : PA X es t) (hs : starEach (e :: es) X.env = (false, eval e X.env) :: starEach es X.env := by rfl) : PA X (e :: es) (tCons te t) := by
  intro pos pins s σ H Q I h
  rw [hs]
  show wpAny _ _ (spliced ((false, eval e X.env) :: backTo pos (starEach es X.env))) _ _ s
  refine Calls.spliced_cons (thn (ha pins s σ H _ I h) fun u s1 ⟨x, H1, I1, r1, q1⟩ => ?_)
  exact thn (hr pos pins s1 σ H1 _ I1 q1) fun us s2 ⟨xs, H2, I2, r2, q2⟩ => ⟨x :: xs, H2, I2, .cons r1 r2, q2⟩

/-- a tuple, a list of written items -/
def tTup (t : TA) : TE := fun σ H Q => t σ H fun xs H1 => xs.length ≤ sizeLine ∧ ∀ p, H1 p = none → Q (.ref p) (upd H1 p (.tup xs))
def tLst (t : TA) : TE := fun σ H Q => t σ H fun xs H1 => xs.length ≤ sizeLine ∧ ∀ p, H1 p = none → Q (.ref p) (upd H1 p (.lst xs))
theorem pe_tup {x1} (h : PA X es t) : PE X (.Tuple es x1 pos) (tTup t) := by
  intro pins s σ H Q I hq
  refine wpAny_Tuple_spliced (thn (h pos pins s σ H _ I hq) fun us s1 ⟨xs, H1, I1, r, z, q⟩ => ⟨by rw [← r.length]; exact z, ?_⟩)
  have hf : H1 s1.heap.objs.size = none := I1.hok.fresh (Nat.le_refl _)
  refine ⟨.ref s1.heap.objs.size, upd H1 s1.heap.objs.size (.tup xs), I1.laid (t' := s1.toks) (fun b u e => Heap.get?_push_of_some _ e) (Nat.le_refl _) ?_, rfl, q _ hf⟩
  exact ⟨z, us, r, ⟨_, Heap.get?_push_size _ rfl, rfl, _, rfl⟩⟩
theorem pe_lst (h : PA X es t) : PE X (.List es pos) (tLst t) := by
  intro pins s σ H Q I hq
  refine wpAny_List_spliced (thn (h pos pins s σ H _ I hq) fun us s1 ⟨xs, H1, I1, r, z, q⟩ => ⟨by rw [← r.length]; exact z, ?_⟩)
  have hf : H1 s1.heap.objs.size = none := I1.hok.fresh (Nat.le_refl _)
  refine ⟨.ref s1.heap.objs.size, upd H1 s1.heap.objs.size (.lst xs), I1.laid (t' := s1.toks) (fun b u e => Heap.get?_push_of_some _ e) (Nat.le_refl _) ?_, rfl, q _ hf⟩
  exact ⟨z, us, 0, r, Heap.get?_push_size _ rfl⟩
end

/-! ### what a def promises -/
/-- a def's promise: the bound arguments in the parameters' order, the heap, the wanted end, the wanted exception -/
abbrev Sp := List V → Hp → VK → XK → Prop
/-- how an exception lies behind a call (file 08 gives it): the callers' frames, abstract heap and state ahead of the call, the wish, the exception, the state -/
abbrev CXT := List Env → Hp → Shared → XK → Value → Shared → Prop

/-- the state at a call -/
structure Env0 (P : Program) (w : World) (K : PySem.W.Frag) (mg : Str → Option Value) (base : Heap) (A : Around) (outer : List Env) (s : Shared) (H : Hp) : Prop where
  frames : A.frames = some outer
  mod : Mod K mg base
  bs : ∀ b o, base.get? b = some o → s.heap.get? b = some o ∧ H b = none
  bsz : base.objs.size ≤ s.heap.objs.size
  funs : s.heap.FunFrames base outer
  frf : ∀ b ∈ frs outer, H b = none
  hok : HOk P w H s.heap
  bare : AllBare s.gens
/-- a call's end -/
def CE (outer : List Env) (P : Program) (w : World) (H : Hp) (s : Shared) (Q : VK) (u : Value) (s' : Shared) : Prop :=
  ∃ v H', s'.os = s.os ∧ AllBare s'.gens ∧ Un (frs outer) [] H H' s.heap s'.heap ∧ HOk P w H' s'.heap ∧ RelV v u ∧ Q v H'
def CR (CX : CXT) (outer : List Env) (P : Program) (w : World) (H : Hp) (s : Shared) (Q : VK) (E : XK) (r : Result) (s' : Shared) : Prop :=
  match r with
  | .ok (.ret u) => CE outer P w H s Q u s'
  | .ok _ => False
  | .error e => CX outer H s E e s'
structure FnOk (P : Program) (w : World) (K : PySem.W.Frag) (mg : Str → Option Value) (base : Heap) (CX : CXT) (k : Nat) (f : Addr) (fd : FuncData) (ps : List Str) (sp : Sp) : Prop where
  len : ∀ vs H Q E, sp vs H Q E → vs.length = ps.length
  run : ∀ (A : Around) (outer : List Env) (s : Shared) (H : Hp) (args : Args) (us : List Value) (vs : List V) (Q : VK) (E : XK), Room k A → Env0 P w K mg base A outer s H → BindsTo s fd args (ps.zip us) → Vals vs us → sp vs H Q E →
    codeAny (model P w) A (.call (.ref f) args) (CR CX outer P w H s Q E) s
theorem Env0.make {P : Program} {w : World} {K : PySem.W.Frag} {mg : Str → Option Value} {base : Heap} {A : Around} {outer : List Env} {s : Shared} {H : Hp} (e : Env0 P w K mg base A outer s H) (C : Addr) (us : List Value) (kw : List (Str × Value)) :
    Env0 P w K mg base (A.under (.builtin "type.__call__" ⟨.ref C :: us, kw⟩)) outer s H := ⟨by first | exact e.frames | (simpa [Around.under, Code.envs, Code.isFrame, pushEnvs] using e.frames), e.mod, e.bs, e.bsz, e.funs, e.frf, e.hok, e.bare⟩
section
variable {X : Cx} {pins : List (Addr × Obj)} {σ : St} {H : Hp} {s s' : Shared}
/-- from a body: what a callee wants -/
theorem Inv.env0 (I : Inv X pins σ H s) : Env0 X.prog X.w X.K X.mg X.base X.A X.stack s H :=
  ⟨I.ok.frames, I.ok.mod, I.bs, Nat.le_trans I.ok.bsz I.sz, I.stack, I.stkFree, I.hok, I.bare⟩
/-- behind a call -/
theorem Inv.after {Q : VK} {u : Value} (I : Inv X pins σ H s) (h : CE X.stack X.prog X.w H s Q u s') : EP X pins σ Q u s' := by
  obtain ⟨v, H', os, bare, un, hok, r, q⟩ := h
  obtain ⟨hh, g, d, t, os'⟩ := s'
  obtain rfl : os' = s.os := os
  exact ⟨v, H', I.call (h' := hh) (g' := g) (d' := d) (t' := t) (ch := []) un hok bare (fun b z => absurd z (by simp)), r, q⟩
end

/-! ### calls -/
/-- f(..): the written arguments, then the defaults dvs; E: what is wanted of an exception -/
def tCall (sp : Sp) (dvs : List V) (E : XK) (t : TA) : TE := fun σ H Q => t σ H fun vs H1 => sp (vs ++ dvs) H1 Q E
/-- o.m(..) of an instance of the class at C -/
def tMeth (C : Addr) (m : Str) (sp : Sp) (dvs : List V) (E : XK) (ta : TE) (t : TA) : TE := fun σ H Q => ta σ H fun x H1 => ∃ a dx fs, x = .ref a ∧ H1 a = some (.ins C dx fs) ∧ fs.lookup m = none ∧
  t σ H1 fun vs H2 => sp (x :: (vs ++ dvs)) H2 Q E
/-- C(..): a new instance and its dict, then __init__ -/
def tMake (C : Addr) (sp : Sp) (dvs : List V) (E : XK) (t : TA) : TE := fun σ H Q => t σ H fun vs H1 => ∀ x dx, H1 x = none → H1 dx = none → dx ≠ x →
  sp (.ref x :: (vs ++ dvs)) (upd (upd H1 dx (.own x)) x (.ins C dx [])) (fun v H2 => v = .non ∧ Q (.ref x) H2) E

/-- how the parameters are bound: us the positional arguments, kw the keywords' values by name, ds the defaults that fill up -/
def Binds (K : PySem.W.Frag) (fd : FuncData) (ps : List Str) (ds : List Value) : Prop :=
  ∀ (s : Shared) (us : List Value), K.In s.heap → (us ++ ds).length = ps.length → BindsTo s fd ⟨us, []⟩ (ps.zip (us ++ ds))
/-- every parameter is given -/
theorem Binds.all {K : PySem.W.Frag} {fd : FuncData} {ps : List Str} (h : ∀ us : List Value, us.length = ps.length → bindArgs fd ⟨us, []⟩ = pure (ps.zip us)) : Binds K fd ps [] := fun s us _ hl => by
  rw [List.append_nil] at hl ⊢
  exact .of_eq (h us hl)

/-- an exception of a callee reaches what this body wants of exceptions -/
def Passes (CX : CXT) (X : Cx) (E : XK) : Prop := ∀ (pins : List (Addr × Obj)) (σ : St) (H : Hp) (s : Shared) (e : Value) (s' : Shared), Inv X pins σ H s → CX X.stack H s E e s' → X.xe e s'

section
variable {X : Cx} {CX : CXT} {k : Nat} {f C : Addr} {fd : FuncData} {ps : List Str} {sp : Sp} {dvs : List V} {ds : List Value} {E : XK} {x m : Str} {p pos apos : Pos} {e o : Expr} {es : List Expr} {ta : TE} {t : TA}

/-- the callee runs -/
theorem run_fn {pins : List (Addr × Obj)} {σ : St} {H : Hp} {s : Shared} {Q : VK} {us : List Value} {vs : List V} (F : FnOk X.prog X.w X.K X.mg X.base CX k f fd ps sp) (hr : Room k X.A) (hb : Binds X.K fd ps ds) (hd : Vals dvs ds) (hx : Passes CX X E)
    (I : Inv X pins σ H s) (r : Vals vs us) (h : sp (vs ++ dvs) H Q E) : wpAny (model X.prog X.w) X.A (call (.ref f) us) (EP X pins σ Q) X.xe s := by
  have r2 : Vals (vs ++ dvs) (us ++ ds) := r.append hd
  have hl : (us ++ ds).length = ps.length := by rw [← r2.length]; exact F.len _ _ _ _ h
  refine wpAny_call (codeAny_mono (F.run X.A X.stack s H ⟨us, []⟩ (us ++ ds) (vs ++ dvs) Q E hr I.env0 (hb s us I.kIn hl) r2 h) fun r s' hq => ?_)
  cases r with
  | error e => exact hx pins σ H s e s' I hq
  | ok fl =>
    cases fl with
    | ret u => exact I.after hq
    | next => exact False.elim hq
    | brk => exact False.elim hq
    | cont => exact False.elim hq

theorem pe_call (F : FnOk X.prog X.w X.K X.mg X.base CX k f fd ps sp) (hr : Room k X.A) (hg : Gl X x) (hm : X.mg x = some (.ref f)) (hk : PySem.W.keepIn X.K (.ref f) = true) (hb : Binds X.K fd ps ds) (hd : Vals dvs ds) (hx : Passes CX X E)
    (ha : PA X (e :: es) t) (hdb : (x == ("__debug__" : Str)) = false := by decide) (he : starEach (e :: es) X.env = (false, eval e X.env) :: starEach es X.env := by rfl) (hpl : (backTo pos (starEach es X.env)).any (·.1) = false := by rfl) :
    PE X (.Call (.Name x p) (e :: es) [] pos) (tCall sp dvs E t) := by
  intro pins s σ H Q I h
  refine wpAny_Call_Name_kw (ld_glob I hg hm ?_ hdb)
  refine PySem.W.callWith_K (h₀ := X.base) I.ok.mod.kin hk (thn (ha pos pins s σ H _ I h) fun us s1 ⟨vs, H1, I1, r, q⟩ => ⟨I1.kIn, ?_⟩) he hpl
  exact run_fn F hr hb hd hx I1 r q
/-- o.m(e, ..) -/
theorem pe_meth {pl : Sem Bool} (he : PE X o ta) (c : Cls X.K C) (hm : Meth X.K C m f) (F : FnOk X.prog X.w X.K X.mg X.base CX k f fd ps sp) (hr : Room k X.A) (hb : Binds X.K fd ps ds) (hd : Vals dvs ds) (hx : Passes CX X E) (ha : PA X (e :: es) t)
    (hst : starEach (e :: es) X.env = (false, eval e X.env) :: starEach es X.env := by rfl) (hpl : (backTo pos (starEach es X.env)).any (·.1) = false := by rfl)
    (ht : eval (.Call (.Attribute o m apos) (e :: es) [] pos) X.env = (do
      let ov ← eval o X.env
      standAt apos.atName
      let (f, first) ← holding [ov] (getMethod ov m pl)
      callWith pos f first (backTo pos (starEach (e :: es) X.env)) (backToKw pos (keywordEach [] X.env))) := by rfl) :
    PE X (.Call (.Attribute o m apos) (e :: es) [] pos) (tMeth C m sp dvs E ta t) := by
  intro pins s σ H Q I h
  refine PySem.W.methodCall_KW (pl := pl) (thn (he pins s σ H _ I h) fun u s1 ⟨x, H1, I1, rx, a, dx, fs, ex, ea, l, q⟩ => ?_) ht
  subst ex
  obtain rfl : u = Value.ref a := rx
  refine getmeth_ok I1 ea c hm l ?_
  refine PySem.W.callWith_K (first := [.ref a]) (h₀ := X.base) I.ok.mod.kin hm.kp (thn (ha pos pins s1 σ H1 _ I1 q) fun us s2 ⟨vs, H2, I2, r, q2⟩ => ⟨I2.kIn, ?_⟩) hst hpl
  exact run_fn (us := .ref a :: us) (vs := .ref a :: vs) F hr hb hd hx I2 (.cons rfl r) q2
/-- what a class must have to be made -/
structure Mk (K : PySem.W.Frag) (C f : Addr) : Prop where
  makes : PySem.W.makesIn K C = true
  init : PySem.W.findIn K (.ref C) "__init__" = some (some (.ref f))
  fn : PySem.W.isFn K (.ref f) = true
  kp : PySem.W.keepIn K (.ref C) = true

theorem run_make {pins : List (Addr × Obj)} {σ : St} {H : Hp} {s : Shared} {Q : VK} {us : List Value} {vs : List V} (M : Mk X.K C f) (F : FnOk X.prog X.w X.K X.mg X.base CX k f fd ps sp) (hr : Room (k + 1) X.A) (hb : Binds X.K fd ps ds) (hd : Vals dvs ds)
    (hx : Passes CX X E) (I : Inv X pins σ H s) (r : Vals vs us)
    (h : ∀ x dx, H x = none → H dx = none → dx ≠ x → sp (.ref x :: (vs ++ dvs)) (upd (upd H dx (.own x)) x (.ins C dx [])) (fun v H2 => v = .non ∧ Q (.ref x) H2) E) :
    wpAny (model X.prog X.w) X.A (call (.ref C) us) (EP X pins σ Q) X.xe s := by
  have hq := h (s.heap.objs.size + 1) s.heap.objs.size (I.hok.fresh (Nat.le_succ _)) (I.hok.fresh (Nat.le_refl _)) (Nat.ne_of_lt (Nat.lt_succ_self _))
  have I2 := Inv.made (C := C) I
  have r2 : Vals (V.ref (s.heap.objs.size + 1) :: (vs ++ dvs)) (Value.ref (s.heap.objs.size + 1) :: (us ++ ds)) := .cons rfl (r.append hd)
  have hl : (Value.ref (s.heap.objs.size + 1) :: us ++ ds).length = ps.length := by
    have e := r2.length
    rw [F.len _ _ _ _ hq] at e
    exact e.symm
  refine wpAny_call (make_map (f := f) I.kIn M.makes M.init (beq_iff_eq.mp M.fn) (codeAny_mono (F.run _ X.stack _ _ ⟨Value.ref (s.heap.objs.size + 1) :: us, []⟩ (Value.ref (s.heap.objs.size + 1) :: (us ++ ds)) _ _ E (hr.make C us [])
    (I2.env0.make C us []) (hb _ (Value.ref (s.heap.objs.size + 1) :: us) I2.kIn hl) r2 hq) fun r s' hq' => ?_))
  cases r with
  | error e => exact hx pins σ _ _ e s' I2 hq'
  | ok fl =>
    cases fl with
    | ret u =>
      obtain ⟨v, H', I3, rv, ev, q3⟩ := I2.after hq'
      subst ev
      exact ⟨rv, ⟨V.ref (s.heap.objs.size + 1), H', I3, rfl, q3⟩⟩
    | next => exact False.elim hq'
    | brk => exact False.elim hq'
    | cont => exact False.elim hq'
theorem pe_make (M : Mk X.K C f) (F : FnOk X.prog X.w X.K X.mg X.base CX k f fd ps sp) (hr : Room (k + 1) X.A) (hg : Gl X x) (hm : X.mg x = some (.ref C)) (hb : Binds X.K fd ps ds) (hd : Vals dvs ds) (hx : Passes CX X E)
    (ha : PA X (e :: es) t) (hdb : (x == ("__debug__" : Str)) = false := by decide) (he : starEach (e :: es) X.env = (false, eval e X.env) :: starEach es X.env := by rfl) (hpl : (backTo pos (starEach es X.env)).any (·.1) = false := by rfl) :
    PE X (.Call (.Name x p) (e :: es) [] pos) (tMake C sp dvs E t) := by
  intro pins s σ H Q I h
  refine wpAny_Call_Name_kw (ld_glob I hg hm ?_ hdb)
  refine PySem.W.callWith_K (h₀ := X.base) I.ok.mod.kin M.kp (thn (ha pos pins s σ H _ I h) fun us s1 ⟨vs, H1, I1, r, q⟩ => ⟨I1.kIn, ?_⟩) he hpl
  exact run_make M F hr hb hd hx I1 r q
end

/-! ### keywords -/

/-! ### a def's body keeps its promise -/
/-- names: the parameters first -/
structure FnScope (N P : List Str) (sc : Scope) : Prop where
  kind : sc.kind = .function
  co : sc.isCoroutine = false
  gen : sc.isGenerator = false
  nd : N.Nodup
  pre : N.take P.length = P
  par : ∀ x ∈ P, sc.names.lookup x = some .local ∨ sc.names.lookup x = some .cell
  nofree : ∀ y ∈ sc.names, y.2 ≠ .free

theorem bindL_out {kindOf : Str → Option NameKind} {x : Str} : ∀ {binds : List (Str × Value)} {m : Str → Option Value}, (∀ v, (x, v) ∉ binds) → bindL kindOf binds m x = m x
  | [], _, _ => rfl
  | (n, v) :: r, m, h => by
    unfold bindL
    rw [bindL_out fun w hw => h w (List.mem_cons_of_mem _ hw)]
    split
    · have : x ≠ n := by rintro rfl; exact h v List.mem_cons_self
      simp [this]
    · rfl
theorem bindC_out {kindOf : Str → Option NameKind} {x : Str} : ∀ {binds : List (Str × Value)} {m : Str → Option Value}, (∀ v, (x, v) ∉ binds) → bindC kindOf binds m x = m x
  | [], _, _ => rfl
  | (n, v) :: r, m, h => by
    unfold bindC
    rw [bindC_out fun w hw => h w (List.mem_cons_of_mem _ hw)]
    split
    · rfl
    · have : x ≠ n := by rintro rfl; exact h v List.mem_cons_self
      simp [this]
theorem bindL_get {kindOf : Str → Option NameKind} {x : Str} {v : Value} : ∀ {P : List Str} {vs : List Value} {i : Nat} {m : Str → Option Value}, P.Nodup → P[i]? = some x → vs[i]? = some v → kindOf x = some .local →
    bindL kindOf (P.zip vs) m x = some v
  | [], _, _, _, _, h, _, _ => by simp at h
  | _ :: _, [], _, _, _, _, h, _ => by simp at h
  | p :: P, w :: vs, 0, m, nd, h1, h2, hk => by
    simp at h1 h2; subst h1; subst h2
    show bindL kindOf ((p, w) :: P.zip vs) m p = _
    unfold bindL
    rw [bindL_out fun v hv => (List.nodup_cons.mp nd).1 (List.of_mem_zip hv).1, if_pos hk]
    simp
  | p :: P, w :: vs, i + 1, m, nd, h1, h2, hk => by
    show bindL kindOf ((p, w) :: P.zip vs) m x = _
    unfold bindL
    exact bindL_get (i := i) (List.nodup_cons.mp nd).2 (by simpa using h1) (by simpa using h2) hk
theorem bindC_get {kindOf : Str → Option NameKind} {x : Str} {v : Value} : ∀ {P : List Str} {vs : List Value} {i : Nat} {m : Str → Option Value}, P.Nodup → P[i]? = some x → vs[i]? = some v → kindOf x ≠ some .local →
    bindC kindOf (P.zip vs) m x = some v
  | [], _, _, _, _, h, _, _ => by simp at h
  | _ :: _, [], _, _, _, _, h, _ => by simp at h
  | p :: P, w :: vs, 0, m, nd, h1, h2, hk => by
    simp at h1 h2; subst h1; subst h2
    show bindC kindOf ((p, w) :: P.zip vs) m p = _
    unfold bindC
    rw [bindC_out fun v hv => (List.nodup_cons.mp nd).1 (List.of_mem_zip hv).1, if_neg hk]
    simp
  | p :: P, w :: vs, i + 1, m, nd, h1, h2, hk => by
    show bindC kindOf ((p, w) :: P.zip vs) m x = _
    unfold bindC
    exact bindC_get (i := i) (List.nodup_cons.mp nd).2 (by simpa using h1) (by simpa using h2) hk

/-- the names' values at the entry -/
def start (N : List Str) (vs : List V) : St := vs.map some ++ List.replicate (N.length - vs.length) none

/-- the context of a def's body, at its entry; an exception leaves the frame, then lies as CX says -/
def cxOf (CX : CXT) (P : Program) (w : World) (K : PySem.W.Frag) (mg : Str → Option Value) (base : Heap) (N : List Str) (qual : Str) (scope : Scope) (f : Addr) (cd : Value) (A : Around) (outer : List Env) (s : Shared) (H : Hp) (E : XK) : Cx where
  prog := P
  w := w
  K := K
  mg := mg
  base := base
  A := A.deeper (envOfC qual scope s.heap.objs.size f cd)
  N := N
  s₀ := s
  H₀ := H
  env := envOfC qual scope s.heap.objs.size f cd
  outer := outer
  stack := envOfC qual scope s.heap.objs.size f cd :: outer
  ex := []
  calm := true
  fn := fun _ => true
  pn := []
  xe := fun e s' => wpAny (model P w) (A.deeper (envOfC qual scope s.heap.objs.size f cd)) (leaving (envOfC qual scope s.heap.objs.size f cd) e) (fun _ s'' => CX outer H s E e s'') (fun e' s'' => CX outer H s E e' s'') s'

theorem cell_has {sc : Scope} {n : Nat} {x : Str} (h : sc.names.lookup x = some .cell) : ∃ c, (cellsFrom n sc.names []).lookup x = some c := by
  have q := PySem.W.cellsFrom_some sc.names n [] (.inl h)
  exact Option.isSome_iff_exists.mp q

theorem inv_start {CX : CXT} {P : Program} {w : World} {K : PySem.W.Frag} {mg : Str → Option Value} {base : Heap} {N ps : List Str} {qual : Str} {scope : Scope} {f : Addr} {cd : Value} {A : Around} {outer : List Env} {s s1 : Shared} {H : Hp} {E : XK} {us : List Value} {vs : List V}
    (S : FnScope N ps scope) (hd : A.handled = none) (e0 : Env0 P w K mg base A outer s H) (hl : vs.length = ps.length) (r : Vals vs us)
    (x : InCallC s s.heap.objs.size (bindL (envOfC qual scope s.heap.objs.size f cd).kindOf (ps.zip us) fun _ => none) (cellsFrom (s.heap.objs.size + 1) scope.names []) (bindC (envOfC qual scope s.heap.objs.size f cd).kindOf (ps.zip us) fun _ => none) s1) :
    Inv (cxOf CX P w K mg base N qual scope f cd A outer s H E) [] (start N vs) H s1 := by
  have hpl : ps.length ≤ N.length := by have := congrArg List.length S.pre; rw [List.length_take] at this; (first | lia | omega)
  obtain ⟨h1, tk, rfl, hk⟩ := x.done
  have noA : ∀ b : Addr, b ∉ (cxOf CX P w K mg base N qual scope f cd A outer s H E).ex := fun b z => absurd (show b ∈ ([] : List Addr) from z) (by simp)
  refine ⟨⟨e0.mod, S.kind, rfl, rfl, Nat.le_refl _, fun y z c h1 h2 => ?_, fun y hy => ?_, fun y c _ h => ?_, fun _ => hd, Around.frames_deeper e0.frames, .inr ⟨rfl, rfl⟩, fun b z => absurd z (noA b), e0.bs, e0.bsz, fun b _ _ => noA b, fun b z => absurd z (noA b), e0.funs, e0.frf⟩,
    rfl, e0.bare, Un.kept hk, ⟨_, x.toInCall.ns, fun i y v h1 h2 h3 => ?_⟩, fun y c h => ⟨_, x.cell y c h⟩, e0.hok.fresh (Nat.le_refl _), fun y c h => ?_, fun p hp => absurd (show p ∈ ([] : List (Addr × Obj)) from hp) (by simp), e0.hok.kept hk, ?_⟩
  · exact name_of_addr x.apart (PySem.mem_of_lookup h1) (PySem.mem_of_lookup h2)
  · have hy : scope.names.lookup y = some .cell ∨ scope.names.lookup y = some .free := hy
    rcases hy with hy | hy
    · exact cell_has hy
    · exact absurd rfl (S.nofree _ (PySem.mem_of_lookup hy))
  · exact Nat.le_of_lt (x.above y c (PySem.mem_of_lookup h))
  · have hi : i < vs.length := by
      unfold start at h2
      by_cases hi : i < vs.length
      · exact hi
      · rw [List.getElem?_append_right (by simpa using hi)] at h2
        rw [List.getElem?_replicate] at h2
        split at h2 <;> cases h2
    have ha : vs[i]? = some v := by
      unfold start at h2
      rw [List.getElem?_append_left (by simpa using hi), List.getElem?_map] at h2
      cases e : vs[i]? with
      | none => rw [e] at h2; cases h2
      | some a => rw [e] at h2; cases h2; rfl
    obtain ⟨u, hu, rv⟩ := r.get ha
    have hp : ps[i]? = some y := by
      rw [← S.pre, List.getElem?_take_of_lt (by (first | lia | omega))]; exact h1
    have ndP : ps.Nodup := by rw [← S.pre]; exact S.nd.sublist (List.take_sublist _ _)
    refine ⟨u, rv, ?_⟩
    rcases S.par y (List.mem_of_getElem? hp) with k | k
    · exact .inl ⟨k, bindL_get ndP hp hu k⟩
    · obtain ⟨c, e⟩ := cell_has (n := s.heap.objs.size + 1) k
      refine .inr ⟨.inl k, c, e, ?_⟩
      have q := x.cell y c e
      rw [bindC_get ndP hp hu (by show scope.names.lookup y ≠ _; rw [k]; decide)] at q
      exact q
  · exact e0.hok.fresh (Nat.le_of_lt (x.above y c (PySem.mem_of_lookup h)))
  · unfold start
    show _ = N.length
    rw [List.length_append, List.length_map, List.length_replicate]
    (first | lia | omega)

/-- THE RULE: a def (or a method) of the text, by its body. The body's reading t is chosen for each entry; it is run at the parameters' values -/
theorem fn_of {CX : CXT} {P : Program} {w : World} {K : PySem.W.Frag} {mg : Str → Option Value} {base : Heap} {k : Nat} {f : Addr} {name qual : Str} {params : Arguments} {body : List Stmt} {scope : Scope} {dV kV doc pm cdv ct oc : Value} {an od : Option Addr}
    {osl : Array (Option Value)} {N ps : List Str} {sp : Sp} (lk : K.lookup f = some ⟨oc, od, .func (PySem.W.fnOf name qual params body scope dV kV doc pm an cdv ct), osl⟩) (hcd : PySem.W.codeIn K cdv qual = true) (S : FnScope N ps scope)
    (len : ∀ vs H Q E, sp vs H Q E → vs.length = ps.length)
    (hbody : ∀ (A : Around) (outer : List Env) (s : Shared) (H : Hp) (vs : List V) (Q : VK) (E : XK), Room k (A.deeper (envOfC qual scope s.heap.objs.size f cdv)) → sp vs H Q E →
      ∃ t, PSs (cxOf CX P w K mg base N qual scope f cdv A outer s H E) body t ∧ t { nx := fun _ H' => Q .non H', rt := Q } (start N vs) H) :
    FnOk P w K mg base CX (k + 1) f (PySem.W.fnOf name qual params body scope dV kV doc pm an cdv ct) ps sp := by
  refine ⟨len, fun A outer s H args us vs Q E hr e0 hb r hsp => ?_⟩
  have hl := len _ _ _ _ hsp
  have KX : K.In s.heap := e0.mod.kin.keeps fun b o e => (e0.bs b o e).1
  have lim : s.heap.NoLimit := e0.mod.nolimit.keeps fun b o e => (e0.bs b o e).1
  have hkind : ∀ y ∈ ps.zip us, scope.names.lookup y.1 = some .local ∨ (scope.names.lookup y.1 = some .cell ∧ ((cellsFrom (s.heap.objs.size + 1) scope.names []).lookup y.1).isSome = true) := fun ⟨n, v⟩ hy => by
    rcases S.par n (List.of_mem_zip hy).1 with q | q
    · exact .inl q
    · exact .inr ⟨q, PySem.W.cellsFrom_some _ _ _ (.inl q)⟩
  refine codeAny_call_function hr.depth (KX _ _ lk) rfl S.co S.gen rfl (PySem.W.codeRec_of KX hcd) (hb _ _ _ _ ?_)
  refine wpAny_newFunctionEnv_cells S.kind hkind fun env he s1 x => ?_
  subst he
  refine ⟨lim.keeps x.toInCall.keep, codeAny_func ?_⟩
  obtain ⟨t, ht, hq⟩ := hbody A outer s H vs Q E (hr.deeper _) hsp
  have I : Inv (cxOf CX P w K mg base N qual scope f cdv A outer s H E) [] (start N vs) H s1 := inv_start S hr.hd e0 hl r x
  refine wpAny_mono (ht [] s1 (start N vs) H _ I hq) (fun fl s' hs => ?_) fun e s' hs => hs
  have fin : ∀ {σ' : St} {H' : Hp} {v : V} {u : Value}, Inv (cxOf CX P w K mg base N qual scope f cdv A outer s H E) [] σ' H' s' → RelV v u → Q v H' → CE outer P w H s Q u s' :=
    fun {σ' H' v u} J rv q => ⟨v, H', J.os, J.bare, J.base, J.hok, rv, q⟩
  cases fl with
  | ret u =>
    obtain ⟨v, σ', H', J, rv, q⟩ := hs
    exact fin J rv q
  | next =>
    obtain ⟨σ', H', J, q⟩ := hs
    exact fin (v := V.non) (u := Value.none) J rfl q
  | brk =>
    obtain ⟨_, _, _, q⟩ := hs
    exact False.elim q
  | cont =>
    obtain ⟨_, _, _, q⟩ := hs
    exact False.elim q
end L2

namespace L2
open PySem PySem.Spec PyProof.Rows
section
variable {X : Cx} {x : Str} {p pos : Pos} {e : Expr} {es : List Expr} {t : TA} {id T : String} {r : List V → Hp → VK → Prop}

def tCB (r : List V → Hp → VK → Prop) (t : TA) : TE := fun σ H Q => t σ H fun vs H1 => r vs H1 Q
/-- f(e, ..), f a built-in function -/
theorem pe_callB (hc : CallR X (.builtin id) r) (hg : Gl X x) (hm : X.mg x = none) (hv : bootBuiltins x = some (.builtin id)) (ha : PA X (e :: es) t) (hn : x ≠ "__name__" := by decide) (hdb : (x == ("__debug__" : Str)) = false := by decide)
    (he : starEach (e :: es) X.env = (false, eval e X.env) :: starEach es X.env := by rfl) (hpl : (backTo pos (starEach es X.env)).any (·.1) = false := by rfl) : PE X (.Call (.Name x p) (e :: es) [] pos) (tCB r t) := by
  intro pins s σ H Q I h
  refine wpAny_Call_Name_kw (ld_blt I hg hm hv ?_ hn hdb)
  exact PyProof.Rows.callWith_builtin1 (thn (ha pos pins s σ H _ I h) fun us s1 ⟨vs, H1, I1, r1, q1⟩ => hc pins s1 σ H1 vs us Q I1 r1 q1) he hpl
/-- T(e, ..), T a built-in type -/
theorem pe_callTy (hc : CallR X (.type T) r) (hg : Gl X x) (hm : X.mg x = none) (hv : bootBuiltins x = some (.type T)) (ha : PA X (e :: es) t) (hn : x ≠ "__name__" := by decide) (hdb : (x == ("__debug__" : Str)) = false := by decide)
    (he : starEach (e :: es) X.env = (false, eval e X.env) :: starEach es X.env := by rfl) (hpl : (backTo pos (starEach es X.env)).any (·.1) = false := by rfl) : PE X (.Call (.Name x p) (e :: es) [] pos) (tCB r t) := by
  intro pins s σ H Q I h
  refine wpAny_Call_Name_kw (ld_blt I hg hm hv ?_ hn hdb)
  exact PyProof.Rows.callWith_type1 (thn (ha pos pins s σ H _ I h) fun us s1 ⟨vs, H1, I1, r1, q1⟩ => hc pins s1 σ H1 vs us Q I1 r1 q1) he hpl
end
end L2

namespace HT
open PySem PyProof.Rows


section
variable {prog : Program} {w : World} {A : Around} {E : Value → Shared → Prop} {s : Shared}

/-! ### t[a:b], not the whole -/
/-- a slice's bound as a place among n (d where it is left out) -/
def sIx (n d : Nat) : Option Int → Nat
  | none => d
  | some v => if v < 0 then (v + (n : Int)).toNat else min v.toNat n
theorem sIx_none (n d : Nat) : sIx n d none = d := rfl
theorem sIx_nat (n d k : Nat) : sIx n d (some (k : Int)) = min k n := by
  show (if (k : Int) < 0 then ((k : Int) + (n : Int)).toNat else min (k : Int).toNat n) = min k n
  rw [if_neg (by (first | lia | omega)), Int.toNat_natCast]
end
end HT

namespace L2
open PySem PySem.Spec PyProof.Rows

/-! ### the parts of a slice -/
abbrev TO := St → Hp → (Option Int → Hp → Prop) → Prop
/-- a slice's part (left out, or an int) -/
def PO (X : Cx) (e : Option Expr) (t : TO) : Prop :=
  ∀ (pins : List (Addr × Obj)) (s : Shared) (σ : St) (H : Hp) (Q : Option Int → Hp → Prop), Inv X pins σ H s → t σ H Q →
    wpAny (model X.prog X.w) X.A (evalPart e X.env) (fun u s' => ∃ o H', Inv X pins σ H' s' ∧ IsPart u o ∧ Q o H') X.xe s
def tNoPart : TO := fun _ H Q => Q none H
def tPart (t : TE) : TO := fun σ H Q => t σ H fun x H1 => ∃ i, x = .int i ∧ Q (some i) H1

section
variable {X : Cx} {e : Expr} {te : TE} {lo hi : Option Expr} {tl th : TO} {pos p2 : Pos}

theorem po_none : PO X none tNoPart := by
  intro pins s σ H Q I h
  rw [evalPart_none]
  exact wpAny_pure ⟨none, H, I, .none, h⟩
theorem po_some (h : PE X e te) : PO X (some e) (tPart te) := by
  intro pins s σ H Q I hw
  rw [evalPart_some]
  refine thn (h pins s σ H _ I hw) fun u s1 ⟨x, H1, I1, r1, q1⟩ => ?_
  obtain ⟨i, rfl, q⟩ := q1
  obtain ⟨t, rfl⟩ := r1
  exact ⟨some i, H1, I1, .int i t, q⟩

/-- what a slice of a value is, by values: the slice object stands at sl -/
def SlR (X : Cx) (r : V → Option Int → Option Int → Hp → VK → Prop) : Prop :=
  ∀ (pins : List (Addr × Obj)) (s : Shared) (σ : St) (H : Hp) (x : V) (v vl vu : Value) (lo hi : Option Int) (sl : Addr) (Q : VK), Inv X pins σ H s → RelV x v → s.heap.IsSliceOf sl vl vu .none → IsPart vl lo → IsPart vu hi → r x lo hi H Q →
    ∃ T id, typeLookup (.type T) "__getitem__" = pure (some (.builtin id)) ∧ s.TypeIs v T ∧ wpAny (model X.prog X.w) X.A (getItem v (.ref sl)) (EP X pins σ Q) X.xe s
def tSl (r : V → Option Int → Option Int → Hp → VK → Prop) (te : TE) (tl th : TO) : TE := fun σ H Q => te σ H fun x H1 => tl σ H1 fun l H2 => th σ H2 fun u H3 => r x l u H3 Q
/-- a[lo:hi], any a -/
theorem pe_slice {r : V → Option Int → Option Int → Hp → VK → Prop} (hr : SlR X r) (he : PE X e te) (hl : PO X lo tl) (hu : PO X hi th) : PE X (.Subscript e (.Slice lo hi none p2) pos) (tSl r te tl th) := by
  intro pins s σ H Q I h
  refine Subscript_ (thn (he pins s σ H _ I h) fun v s1 ⟨x, H1, I1, r1, q1⟩ => ?_)
  refine wpAny_Slice (thn (hl pins s1 σ H1 _ I1 q1) fun vl s2 ⟨l, H2, I2, pl, q2⟩ => thn (hu pins s2 σ H2 _ I2 q2) fun vu s3 ⟨u, H3, I3, pu, q3⟩ => ?_)
  rw [evalPart_none]
  refine wpAny_pure ?_
  have I4 : Inv X pins σ H3 { s3 with heap := s3.heap.push { cls := .type "slice", data := .fields #[vl, vu, .none] } } := I3.kept (t' := s3.toks) fun b ob q => Heap.get?_push_of_some _ q
  obtain ⟨T, id, hT, ht, hg⟩ := hr pins { s3 with heap := s3.heap.push { cls := .type "slice", data := .fields #[vl, vu, .none] } } σ H3 x v vl vu l u s3.heap.objs.size Q I4 r1 (Heap.IsSliceOf.new ..) pl pu q3
  show wpAny (model X.prog X.w) X.A (subscriptTail e (.Slice lo hi none p2) v (.ref s3.heap.objs.size)) (EP X pins σ Q) X.xe { s3 with heap := s3.heap.push { cls := .type "slice", data := .fields #[vl, vu, .none] } }
  exact tail_any (ops := [.ref s3.heap.objs.size, v]) ht hT hg (by with_unfolding_all rfl)

/-- the items of xs[lo:hi] -/
def cutV (xs : List V) (lo hi : Option Int) : List V := (xs.drop (HT.sIx xs.length 0 lo)).take (HT.sIx xs.length xs.length hi - HT.sIx xs.length 0 lo)
theorem cutV_length (xs : List V) (lo hi : Option Int) : (cutV xs lo hi).length ≤ xs.length := by
  unfold cutV
  rw [List.length_take, List.length_drop]
  (first | lia | omega)
/-! ### t < u, t + u -/
end
end L2

namespace L2
open PySem PySem.Spec PyProof.Rows

/-! ### places -/
/-- the place that an index of any sign means -/
def ixN (n : Nat) (i : Int) : Option Nat := if 0 ≤ i then (if i < n then some i.toNat else none) else if -(n : Int) ≤ i then some (i + n).toNat else none
def atI {α : Type} (xs : List α) (i : Int) : Option α := (ixN xs.length i).bind fun j => xs[j]?
theorem ixN_seq {n : Nat} {i : Int} {j : Nat} (h : ixN n i = some j) : seqIndex? i n = some j ∧ j < n ∧ -(n : Int) ≤ i ∧ i < n := by
  unfold ixN at h
  by_cases h0 : 0 ≤ i
  · rw [if_pos h0] at h
    by_cases h1 : i < n
    · rw [if_pos h1] at h
      have e : i.toNat = j := Option.some.inj h
      exact ⟨by rw [seqIndex_of h0 h1, e], by (first | lia | omega), by (first | lia | omega), h1⟩
    · rw [if_neg h1] at h; cases h
  · rw [if_neg h0] at h
    by_cases h1 : -(n : Int) ≤ i
    · rw [if_pos h1] at h
      have e : (i + n).toNat = j := Option.some.inj h
      exact ⟨by rw [seqIndex_neg (by (first | lia | omega)) h1, e], by (first | lia | omega), h1, by (first | lia | omega)⟩
    · rw [if_neg h1] at h; cases h
theorem atI_get {α : Type} {xs : List α} {i : Int} {v : α} (h : atI xs i = some v) : ∃ j, seqIndex? i xs.length = some j ∧ xs[j]? = some v ∧ j < xs.length ∧ -(xs.length : Int) ≤ i ∧ i < xs.length := by
  unfold atI at h
  cases e : ixN xs.length i with
  | none => rw [e] at h; cases h
  | some j =>
    rw [e] at h
    obtain ⟨h1, h2, h3, h4⟩ := ixN_seq e
    exact ⟨j, h1, h, h2, h3, h4⟩
theorem atI_nat {α : Type} {xs : List α} {j : Nat} {v : α} (h : xs[j]? = some v) : atI xs (j : Int) = some v := by
  have hj : j < xs.length := (List.getElem?_eq_some_iff.mp h).1
  have e : ixN xs.length (j : Int) = some j := by
    unfold ixN
    rw [if_pos (by (first | lia | omega)), if_pos (by (first | lia | omega))]; simp
  unfold atI; rw [e]; exact h
theorem atI_last {α : Type} (xs : List α) (v : α) : atI (xs ++ [v]) (-1) = some v := by
  have hl : (xs ++ [v]).length = xs.length + 1 := by simp
  have e : ixN (xs ++ [v]).length (-1) = some xs.length := by
    unfold ixN
    rw [hl, if_neg (by decide), if_pos (by (first | lia | omega))]
    congr 1
    (first | lia | omega)
  unfold atI
  rw [e]
  show (xs ++ [v])[xs.length]? = some v
  simp

/-! ### what may be subscripted -/
/-- what stands as an index of a plain subscript -/
def PlainIx (b : Expr) : Prop := ∀ o i, subscripted b false o i = operate [o, i] (getItem o i)
/-- a subscript by values -/
def IxR (X : Cx) (r : R2) : Prop :=
  ∀ (value slice : Expr) (pins : List (Addr × Obj)) (s : Shared) (σ : St) (H : Hp) (x y : V) (v u : Value) (Q : VK), Inv X pins σ H s → RelV x v → RelV y u → r x y H Q →
    subscripted slice false v u = operate [v, u] (getItem v u) → wpAny (model X.prog X.w) X.A (subscriptTail value slice v u) (EP X pins σ Q) X.xe s
/-- a call of a builtin's method by values: the receiver, the arguments -/
def MtR (X : Cx) (id : String) (r : V → List V → Hp → VK → Prop) : Prop :=
  ∀ (pins : List (Addr × Obj)) (s : Shared) (σ : St) (H : Hp) (x : V) (xs : List V) (v : Value) (us : List Value) (Q : VK), Inv X pins σ H s → RelV x v → Vals xs us → r x xs H Q →
    wpAny (model X.prog X.w) X.A (call (.builtin id) (v :: us)) (EP X pins σ Q) X.xe s
section
variable {X : Cx} {a b : Expr} {ta tb : TE} {pos : Pos}
/-- a[b] -/
theorem pe_ix {r : R2} (hr : IxR X r) (ha : PE X a ta) (hb : PE X b tb) (hs : PlainIx b) : PE X (.Subscript a b pos) (tOp r ta tb) := by
  intro pins s σ H Q I h
  exact Subscript_ (binT ha hb I h fun v u s2 x y H2 I2 rx ry q => hr a b pins s2 σ H2 x y v u Q I2 rx ry q (hs _ _))

def rIxL (K : PySem.W.Frag) : R2 := fun x y H Q => ∃ p xs i v, x = .ref p ∧ y = .int i ∧ SqL K H p xs ∧ atI xs i = some v ∧ Q v H
def rIxT (K : PySem.W.Frag) : R2 := fun x y H Q => ∃ p xs i v, x = .ref p ∧ y = .int i ∧ SqT K H p xs ∧ atI xs i = some v ∧ Q v H
def rIxS : R2 := fun x y H Q => ∃ z i c, x = .str z ∧ y = .int i ∧ z.length ≤ sizeLine ∧ atI z.cps.toList i = some c ∧ Q (.str ⟨#[c]⟩) H
theorem ix_list : IxR X (rIxL X.K) := by
  intro value slice pins s σ H x y v u Q I rx ry h hs
  obtain ⟨p, xs, i, z, rfl, rfl, hq, he, q⟩ := h
  cases rx
  obtain ⟨t, rfl⟩ := ry
  obtain ⟨its, r, pl, hz⟩ := I.list hq
  obtain ⟨j, h1, h2, h3, h4, h5⟩ := atI_get he
  obtain ⟨w, ew, rw'⟩ := r.get h2
  have hl := r.length
  have hn := line63
  have fin : EP X pins σ Q w s := ⟨z, H, I, rw', q⟩
  by_cases h0 : 0 ≤ i
  · have hj : i.toNat = j := by
      rw [seqIndex_of h0 h5] at h1
      exact Option.some.inj h1
    exact item_listR pl.isList h0 (by (first | lia | omega)) (by rw [hj]; simpa using ew) fin hs
  · have hj : (i + (its.toArray.size : Int)).toNat = j := by
      rw [seqIndex_neg (by (first | lia | omega)) h4] at h1
      rw [List.size_toArray, ← hl]
      exact Option.some.inj h1
    exact subscriptTail_builtinR (x := w) pl.isList.typeIs slot_list_getitem.lookup
      (wpAny_getItem_list_neg (Q := fun r s' => r = w ∧ EP X pins σ Q r s') pl.isList (by (first | lia | omega)) (by rw [List.size_toArray] <;> (first | lia | omega)) (by (first | lia | omega)) (by rw [hj]; simpa using ew) ⟨rfl, fin⟩) hs
theorem ix_tup : IxR X (rIxT X.K) := by
  intro value slice pins s σ H x y v u Q I rx ry h hs
  obtain ⟨p, xs, i, z, rfl, rfl, hq, he, q⟩ := h
  cases rx
  obtain ⟨t, rfl⟩ := ry
  obtain ⟨its, r, pl, hz⟩ := I.tuple hq
  obtain ⟨j, h1, h2, h3, h4, h5⟩ := atI_get he
  obtain ⟨w, ew, rw'⟩ := r.get h2
  have hl := r.length
  have hn := line63
  have fin : EP X pins σ Q w s := ⟨z, H, I, rw', q⟩
  exact subscriptTail_builtinR (x := w) pl.typeIs slot_tuple_getitem.lookup
    (getItem_tuple (j := j) (Q := fun r s' => r = w ∧ EP X pins σ Q r s') pl (by (first | lia | omega)) (by (first | lia | omega)) (by rw [List.size_toArray, ← hl]; exact h1) (by simpa using ew) ⟨rfl, fin⟩) hs
theorem ix_str : IxR X rIxS := by
  intro value slice pins s σ H x y v u Q I rx ry h hs
  obtain ⟨z, i, c, rfl, rfl, hz, he, q⟩ := h
  obtain ⟨t, rfl⟩ := rx
  obtain ⟨t', rfl⟩ := ry
  obtain ⟨j, h1, h2, h3, h4, h5⟩ := atI_get he
  have hl : z.cps.toList.length = z.length := by simp [Str.length]
  rw [hl] at h1 h4 h5
  have hn := line63
  exact tail_any (typeIs_str s z t) slot_str_getitem.lookup (getItem_str (c := c) (by
    have e1 : decide (i < -(2 ^ 63 : Int)) = false := decide_eq_false (by (first | lia | omega))
    have e2 : decide (i ≥ 2 ^ 63) = false := decide_eq_false (by (first | lia | omega))
    rw [e1, e2, Bool.or_false]) (by rw [h1]; simpa using h2) ⟨.str ⟨#[c]⟩, H, I.tok _, ⟨_, rfl⟩, q⟩) hs
/-! ### xs[i] = v, any sign -/
/-- the list's object behind a store -/
theorem mapSeq_set (its : List Value) (n j : Nat) (u : Value) : Obj.mapSeq (·.setIfInBounds j u) { cls := .type "list", data := .seq its.toArray n } = { cls := .type "list", data := .seq (its.set j u).toArray n } := by
  simp [Obj.mapSeq]
theorem Inv.lst {pins : List (Addr × Obj)} {σ : St} {H : Hp} {s : Shared} {p : Addr} {xs : List V} (I : Inv X pins σ H s) (h : H p = some (.lst xs)) :
    ∃ (its : List Value) (n : Nat), Vals xs its ∧ s.heap.get? p = some { cls := .type "list", data := .seq its.toArray n } ∧ xs.length ≤ sizeLine := by
  obtain ⟨z, its, n, r, e⟩ := I.hok p _ h
  exact ⟨its, n, r, e, z⟩
/-- the list at p is written by an update of its object -/
theorem Inv.lstUpd {pins : List (Addr × Obj)} {σ : St} {H : Hp} {s : Shared} {p : Addr} {xs ys : List V} {its its' : List Value} {n n' : Nat} {f : Obj → Obj} (I : Inv X pins σ H s) (h : H p = some (.lst xs))
    (ho : s.heap.get? p = some { cls := .type "list", data := .seq its.toArray n }) (hf : f { cls := .type "list", data := .seq its.toArray n } = { cls := .type "list", data := .seq its'.toArray n' }) (r : Vals ys its') (hz : ys.length ≤ sizeLine) (t : Nat) :
    Inv X pins σ (upd H p (.lst ys)) { s with heap := s.heap.update p f, toks := t } := by
  have e : (s.heap.update p f).get? p = some { cls := .type "list", data := .seq its'.toArray n' } := by
    rw [Heap.get?_update_self f ho (by rw [hf] <;> rfl), hf]
  refine I.write (x := p) (e := p) (by rw [h]; trivial) (.inl rfl) (fun b u hb q => (Heap.get?_update_other _ _ (Ne.symm hb)).trans q) ⟨_, e⟩ ?_
  exact ⟨hz, its', n', r, e⟩
def rSetL : V → V → V → Hp → (Hp → Prop) → Prop := fun o i v H Q => ∃ p xs k j, o = .ref p ∧ i = .int k ∧ H p = some (.lst xs) ∧ ixN xs.length k = some j ∧ Q (upd H p (.lst (xs.set j v)))
theorem set_list : PSet X rSetL := by
  intro pins s σ H o i v ov iv u Q I ro ri rv h
  obtain ⟨p, xs, k, j, rfl, rfl, hp, hj, q⟩ := h
  cases ro
  obtain ⟨t, rfl⟩ := ri
  obtain ⟨its, n, r, ho, hz⟩ := I.lst hp
  obtain ⟨h1, h2, h3, h4⟩ := ixN_seq hj
  have hl := r.length
  have hn := line63
  have I' : Inv X pins σ (upd H p (.lst (xs.set j v))) { s with heap := s.heap.update p (Obj.mapSeq (·.setIfInBounds j u)) } :=
    I.lstUpd hp ho (mapSeq_set its n j u) (r.set rv j) (by rw [List.length_set]; exact hz) s.toks
  by_cases h0 : 0 ≤ k
  · have hk : k.toNat = j := by
      rw [seqIndex_of h0 h4] at h1
      exact Option.some.inj h1
    exact PySem.W.ki_setAt ho h0 (by (first | lia | omega)) (by rw [List.size_toArray, ← hl]; exact h4) (by rw [hk]; exact ⟨_, I', q⟩)
  · have hk : (k + (its.toArray.size : Int)).toNat = j := by
      rw [seqIndex_neg (by (first | lia | omega)) h3] at h1
      rw [List.size_toArray, ← hl]
      exact Option.some.inj h1
    exact PySem.W.ki_setBack ho (by (first | lia | omega)) (by rw [List.size_toArray, ← hl]; exact h3) (by (first | lia | omega)) (by rw [hk]; exact ⟨_, I', q⟩)

/-! ### slices -/
theorem slice_bounds (lo hi : Option Int) (n : Nat) : (sliceBounds lo hi none n).1 = ((HT.sIx n 0 lo : Nat) : Int) ∧ (sliceBounds lo hi none n).2.1 = ((HT.sIx n n hi : Nat) : Int) ∧ (sliceBounds lo hi none n).2.2 = 1 := by
  refine ⟨?_, ?_, rfl⟩
  · cases lo with
    | none => simp [sliceBounds, HT.sIx]
    | some i =>
      simp only [sliceBounds, HT.sIx, Option.getD_none, show (1 : Int) > 0 by decide, if_true]
      by_cases h : i < 0
      · simp only [h, if_true] <;> (first | lia | omega)
      · simp only [h, if_false] <;> (first | lia | omega)
  · cases hi with
    | none => simp [sliceBounds, HT.sIx]
    | some i =>
      simp only [sliceBounds, HT.sIx, Option.getD_none, show (1 : Int) > 0 by decide, if_true]
      by_cases h : i < 0
      · simp only [h, if_true] <;> (first | lia | omega)
      · simp only [h, if_false] <;> (first | lia | omega)
theorem slicePick_cut (its : List Value) (lo hi : Option Int) : slicePick its.toArray lo hi none = ((its.drop (HT.sIx its.length 0 lo)).take (HT.sIx its.length its.length hi - HT.sIx its.length 0 lo)).toArray := by
  obtain ⟨h1, h2, h3⟩ := slice_bounds lo hi its.toArray.size
  unfold slicePick
  rw [h1, h2, h3]
  simp only [sliceRange_one, pick_run, List.size_toArray] <;> rfl
/-- xs[lo:hi] of a list: a new list -/
def rSlL (K : PySem.W.Frag) : V → Option Int → Option Int → Hp → VK → Prop := fun x lo hi H Q => ∃ a xs, x = .ref a ∧ SqL K H a xs ∧ ∀ p, H p = none → Q (.ref p) (upd H p (.lst (cutV xs lo hi)))
theorem sl_list : SlR X (rSlL X.K) := by
  intro pins s σ H x v vl vu lo hi sl Q I rx hs pl pu h
  obtain ⟨a, xs, rfl, hx, q⟩ := h
  cases rx
  obtain ⟨its, r, ht, hz⟩ := I.list hx
  have hlen := r.length
  refine ⟨"list", _, slot_list_getitem.lookup, ht.isList.typeIs, ?_⟩
  refine wpAny_getItem_list_slice ht.isList hs pl pu .none (by simp) ?_ (by rw [List.size_toArray] <;> (first | lia | omega))
  rw [slicePick_cut, ← hlen]
  refine ⟨.ref s.heap.objs.size, _, I.laid (t' := s.toks) (o := .lst (cutV xs lo hi)) (fun b ob q => Heap.get?_push_of_some _ q) (Nat.le_refl _) ?_, rfl, q _ (I.hok.fresh (Nat.le_refl _))⟩
  exact ⟨Nat.le_trans (cutV_length xs lo hi) hz, _, 0, (r.drop (HT.sIx xs.length 0 lo)).take (HT.sIx xs.length xs.length hi - HT.sIx xs.length 0 lo), Heap.get?_push_size _ rfl⟩

/-! ### in, not in: flat items -/
/-! ### len, list(x), tuple(x) of any list or tuple that is read -/
theorem call_len_seq : CallR X (.builtin "len") (fun xs H Q => ∃ p ys, xs = [.ref p] ∧ (SqL X.K H p ys ∨ SqT X.K H p ys) ∧ Q (.int ys.length) H) := by
  intro pins s σ H xs us Q I r h
  obtain ⟨p, ys, rfl, hq, q⟩ := h
  obtain ⟨u, rfl, rx⟩ := vals1 r
  cases rx
  have hn := line63
  rcases hq with hq | hq
  · obtain ⟨its, r', pl, hz⟩ := I.list hq
    have hlen := r'.length
    exact Calls.call_len_list pl.isList (by simp only [List.size_toArray] <;> (first | lia | omega)) ⟨.int ys.length, H, I.tok _, ⟨s.toks + 1, by rw [List.size_toArray, hlen]⟩, q⟩
  · obtain ⟨its, r', pl, hz⟩ := I.tuple hq
    have hlen := r'.length
    exact len_tuple pl (by simp only [List.size_toArray] <;> (first | lia | omega)) ⟨.int ys.length, H, I.tok _, ⟨s.toks + 1, by rw [List.size_toArray, hlen]⟩, q⟩
theorem call_len_str : CallR X (.builtin "len") (fun xs H Q => ∃ z, xs = [.str z] ∧ z.length ≤ sizeLine ∧ Q (.int z.length) H) := by
  intro pins s σ H xs us Q I r h
  obtain ⟨z, rfl, hz, q⟩ := h
  obtain ⟨u, rfl, t, rfl⟩ := vals1 r
  have hn := line63
  exact len_str (by (first | lia | omega)) ⟨.int z.length, H, I.tok _, ⟨_, rfl⟩, q⟩
theorem call_list_of : CallR X (.type "list") (fun xs H Q => ∃ p ys, xs = [.ref p] ∧ (SqL X.K H p ys ∨ SqT X.K H p ys) ∧ ∀ l, H l = none → Q (.ref l) (upd H l (.lst ys))) := by
  intro pins s σ H xs us Q I r h
  obtain ⟨p, ys, rfl, hq, q⟩ := h
  obtain ⟨u, rfl, rx⟩ := vals1 r
  cases rx
  have fin : ∀ (its : List Value), Vals ys its → ys.length ≤ sizeLine → ∀ (h' : Heap) (c' : Nat), (∀ b o', s.heap.get? b = some o' → h'.get? b = some o') →
      h'.get? s.heap.objs.size = some { cls := .type "list", dict := none, data := .seq its.toArray c', slots := #[] } → EP X pins σ Q (.ref s.heap.objs.size) { s with heap := h' } := fun its r' hz h' c' kp e =>
    ⟨.ref s.heap.objs.size, _, I.laid (t' := s.toks) kp (Nat.le_refl _) (show ObjOk X.prog X.w _ h' _ (.lst ys) from ⟨hz, its, c', r', e⟩), rfl, q _ (I.hok.fresh (Nat.le_refl _))⟩
  rcases hq with hq | hq
  · obtain ⟨its, r', pl, hz⟩ := I.list hq
    have hlen := r'.length
    obtain ⟨o, ho, hc, n, hd⟩ := pl.isList
    exact call_list_seq p (.inl rfl) ho hc hd (fun h' c' kp e => fin its r' hz h' c' kp e) (by simp only [List.size_toArray] <;> (first | lia | omega))
  · obtain ⟨its, r', pl, hz⟩ := I.tuple hq
    have hlen := r'.length
    obtain ⟨o, ho, hc, n, hd⟩ := pl
    exact call_list_seq p (.inr rfl) ho hc hd (fun h' c' kp e => fin its r' hz h' c' kp e) (by simp only [List.size_toArray] <;> (first | lia | omega))
theorem call_tuple_of : CallR X (.type "tuple") (fun xs H Q => ∃ p ys, xs = [.ref p] ∧ ((SqL X.K H p ys ∧ ∀ l, H l = none → Q (.ref l) (upd H l (.tup ys))) ∨ (SqT X.K H p ys ∧ Q (.ref p) H))) := by
  intro pins s σ H xs us Q I r h
  obtain ⟨p, ys, rfl, h⟩ := h
  obtain ⟨u, rfl, rx⟩ := vals1 r
  cases rx
  rcases h with ⟨hq, q⟩ | ⟨hq, q⟩
  · obtain ⟨its, r', pl, hz⟩ := I.list hq
    have hlen := r'.length
    refine call_tuple_list pl.isList (fun h' kp => ?_) (by simp only [List.size_toArray] <;> (first | lia | omega))
    have I1 : Inv X pins σ H { s with heap := h' } := I.kept (t' := s.toks) kp
    have I2 : Inv X pins σ (upd H h'.objs.size (.tup ys)) { s with heap := h'.push { cls := .type "tuple", data := .seq its.toArray } } :=
      I1.laid (t' := s.toks) (fun b o e => Heap.get?_push_of_some _ e) (Nat.le_refl _) (show ObjOk X.prog X.w _ _ _ (.tup ys) from ⟨hz, its, r', IsTup.new _ _⟩)
    exact ⟨.ref h'.objs.size, _, I2, rfl, q _ (I1.hok.fresh (Nat.le_refl _))⟩
  · obtain ⟨its, r', pl, hz⟩ := I.tuple hq
    exact call_tuple_same pl ⟨.ref p, H, I, rfl, q⟩

/-! ### the call of a builtin's method: o.m(..) -/
/-- the value is of that builtin type -/
def tyV (K : PySem.W.Frag) (T : String) (x : V) (H : Hp) : Prop := match x with
  | .str _ => T = "str"
  | .int _ => T = "int"
  | .ref p => (T = "list" ∧ ∃ xs, SqL K H p xs) ∨ (T = "tuple" ∧ ∃ o, K.lookup p = some o ∧ o.cls = .type "tuple" ∧ o.dict = none) ∨
      (T = "dict" ∧ ((∃ kvs, H p = some (.dK kvs)) ∨ ∃ kvs, H p = some (.dT kvs))) ∨ (T = "set" ∧ ∃ S n, H p = some (.set S n))
  | _ => False
theorem tyV_is {pins : List (Addr × Obj)} {σ : St} {H : Hp} {s : Shared} {T : String} {x : V} {v : Value} (I : Inv X pins σ H s) (r : RelV x v) (ty : tyV X.K T x H) :
    s.TypeIs v T ∧ ∀ a, v = .ref a → ∃ ob, s.heap.get? a = some ob ∧ ob.dict = none := by
  cases x with
  | str z =>
    obtain ⟨t, rfl⟩ := r
    cases (show T = "str" from ty)
    exact ⟨typeIs_str s z t, fun _ e => nomatch e⟩
  | int i =>
    obtain ⟨t, rfl⟩ := r
    cases (show T = "int" from ty)
    exact ⟨typeIs_int s i t, fun _ e => nomatch e⟩
  | ref p =>
    cases r
    rcases ty with ⟨rfl, xs, hq⟩ | ⟨rfl, o, hk, hc, hd⟩ | ⟨rfl, hk⟩ | ⟨rfl, S, n, hk⟩
    · obtain ⟨its, _, pl, _⟩ := I.list hq
      refine ⟨pl.isList.typeIs, fun a e => ?_⟩
      cases e
      obtain ⟨o, n, e, c, hd, _⟩ := pl
      exact ⟨o, e, hd⟩
    · refine ⟨⟨o, I.kIn p o hk, hc⟩, fun a e => ?_⟩
      cases e
      exact ⟨o, I.kIn _ o hk, hd⟩
    · have z : ∃ o, s.heap.get? p = some o ∧ o.ExactDict := by
        rcases hk with ⟨kvs, hk⟩ | ⟨kvs, hk⟩
        · obtain ⟨_, _, _, _, o, _, _, e, ex, _⟩ := I.hok p _ hk
          exact ⟨o, e, ex⟩
        · obtain ⟨_, _, _, _, o, _, _, e, ex, _⟩ := I.hok p _ hk
          exact ⟨o, e, ex⟩
      obtain ⟨o, e, ex⟩ := z
      refine ⟨⟨o, e, ex.1⟩, fun a e2 => ?_⟩
      cases e2
      exact ⟨o, e, ex.2.1⟩
    · obtain ⟨o, _, _, _, e, ex, _⟩ := I.hok p _ hk
      refine ⟨⟨o, e, ex.1⟩, fun a e2 => ?_⟩
      cases e2
      exact ⟨o, e, ex.2.1⟩
  | _ => exact False.elim ty
def tBM0 (K : PySem.W.Frag) (T : String) (r : V → List V → Hp → VK → Prop) (to : TE) : TE := fun σ H Q => to σ H fun x H1 => tyV K T x H1 ∧ r x [] H1 Q
def tBM (K : PySem.W.Frag) (T : String) (r : V → List V → Hp → VK → Prop) (to : TE) (t : TA) : TE := fun σ H Q => to σ H fun x H1 => tyV K T x H1 ∧ t σ H1 fun xs H2 => r x xs H2 Q
variable {o e : Expr} {es : List Expr} {to : TE} {t : TA} {name : Str} {apos cpos : Pos} {T id : String} {r : V → List V → Hp → VK → Prop}
theorem pe_bm0 (pa : PlainAttrs T) (slot : Slot T name id) (hty : typeOf (.builtin id) = pure (.type "method_descriptor")) (hm : MtR X id r) (ho : PE X o to)
    (hbase : attributeBase o name X.env (eval o X.env) = eval o X.env := by rfl) (hline : (apos.endLine == cpos.line) = true := by rfl) : PE X (.Call (.Attribute o name apos) [] [] cpos) (tBM0 X.K T r to) := by
  intro pins s σ H Q I h
  refine wpAny_Call_method0_late hbase hline (thn (ho pins s σ H _ I h) fun v s1 ⟨x, H1, I1, r1, ty, q1⟩ => ?_)
  obtain ⟨h1, h2⟩ := tyV_is I1 r1 ty
  exact ⟨T, id, pa, slot, hty, h1, h2, Calls.callWith_builtin rfl (PySem.evalArgs_none (hm pins s1 σ H1 x [] v [] Q I1 r1 .nil q1))⟩
theorem pe_bm (pa : PlainAttrs T) (slot : Slot T name id) (hty : typeOf (.builtin id) = pure (.type "method_descriptor")) (hm : MtR X id r) (ho : PE X o to) (ha : PA X (e :: es) t)
    (hbase : attributeBase o name X.env (eval o X.env) = eval o X.env := by rfl)
    (hfew : ((backTo cpos (starEach (e :: es) X.env)).all (fun x => !x.1) && (backToKw cpos (keywordEach [] X.env)).all (fun x => x.1.isSome)
      && decide ((e :: es).length + ([] : List Keyword).length + (if ([] : List Keyword).isEmpty then 0 else 1) < 30)) = true := by rfl)
    (hline : (apos.endLine == cpos.line) = true := by rfl) (hs : starEach (e :: es) X.env = (false, eval e X.env) :: starEach es X.env := by rfl) (hplain : (backTo cpos (starEach es X.env)).any (·.1) = false := by rfl) :
    PE X (.Call (.Attribute o name apos) (e :: es) [] cpos) (tBM X.K T r to t) := by
  intro pins s σ H Q I h
  refine wpAny_Call_method_late hbase hfew hline rfl (thn (ho pins s σ H _ I h) fun v s1 ⟨x, H1, I1, r1, ty, q1⟩ => ?_)
  obtain ⟨h1, h2⟩ := tyV_is I1 r1 ty
  refine ⟨T, id, pa, slot, hty, h1, h2, ?_⟩
  have hA := ha cpos pins s1 σ H1 _ I1 q1
  rw [hs] at hA ⊢
  refine Calls.callWith_builtin (by show (false || (backTo cpos (starEach es X.env)).any (·.1)) = false; rw [hplain] <;> rfl) (Calls.evalArgs_plain ?_)
  exact thn hA fun us s2 ⟨vs, H2, I2, r2, q2⟩ => hm pins s2 σ H2 x vs v us Q I2 r1 r2 q2
/- xs.append(e), list.index on a module's tuple .. are MtR facts of 06m -/
end
end L2

namespace L2
open PySem PySem.Spec PyProof.Rows

def MtM (X : Cx) (id : String) (r : V → List V → Hp → VK → Prop) : Prop :=
  ∀ (pins : List (Addr × Obj)) (s : Shared) (σ : St) (H : Hp) (x : V) (xs : List V) (v : Value) (us : List Value) (Q : VK), Inv X pins σ H s → RelV x v → Vals xs us → r x xs H Q →
    wpAny (model X.prog X.w) X.A (call (.builtin id) (v :: us)) (EP X pins σ Q) X.xe s

/-! ### lists of values -/
theorem Vals.one : ∀ {x : V} {us : List Value}, Vals [x] us → ∃ u, us = [u] ∧ RelV x u
  | _, _, .cons r .nil => ⟨_, rfl, r⟩
theorem Vals.two : ∀ {x y : V} {us : List Value}, Vals [x, y] us → ∃ u v, us = [u, v] ∧ RelV x u ∧ RelV y v
  | _, _, _, .cons r (.cons q .nil) => ⟨_, _, rfl, r, q⟩
theorem Vals.zero : ∀ {us : List Value}, Vals [] us → us = []
  | _, .nil => rfl
theorem Vals.dropLast {xs : List V} {us : List Value} (h : Vals xs us) : Vals xs.dropLast us.dropLast := by
  induction h with
  | nil => exact .nil
  | cons r t ih =>
    cases t with
    | nil => exact .nil
    | cons q t' => exact .cons r ih
theorem erase_last {α : Type} (l : List α) : l.eraseIdx (l.length - 1) = l.dropLast := by
  induction l with
  | nil => rfl
  | cons a r ih =>
    cases r with
    | nil => rfl
    | cons b r =>
      have e : (a :: b :: r).length - 1 = ((b :: r).length - 1) + 1 := by
        have h1 : (a :: b :: r).length = r.length + 2 := rfl
        have h2 : (b :: r).length = r.length + 1 := rfl
        (first | lia | omega)
      rw [e, List.eraseIdx_cons_succ, ih]
      all_goals rfl
section
variable {X : Cx} {pins : List (Addr × Obj)} {σ : St} {H : Hp} {s : Shared} {l b : Addr} {xs ys zs : List V}

/-! ### the two steps: a tracked list is rewritten, a new list is laid -/
theorem Inv.lset {its its' : List Value} {n : Nat} {f : Array Value → Array Value} {t' : Nat} (I : Inv X pins σ H s) (hH : H l = some (.lst xs))
    (e : s.heap.get? l = some { cls := .type "list", data := .seq its.toArray n }) (hf : f its.toArray = its'.toArray) (hv : Vals ys its') (hz : ys.length ≤ sizeLine) :
    Inv X pins σ (upd H l (.lst ys)) { s with heap := s.heap.update l (Obj.mapSeq f), toks := t' } := by
  have q := PySem.IsL.update e f
  rw [hf] at q
  refine I.write (x := l) (e := l) (by rw [hH]; exact trivial) (.inl rfl) (fun b' u hb hu => (Heap.get?_update_other s.heap (Obj.mapSeq f) (Ne.symm hb)).trans hu) ⟨_, q⟩ ?_
  exact ⟨hz, its', _, hv, q⟩
theorem Inv.lnew {its : List Value} {t' : Nat} (I : Inv X pins σ H s) (hv : Vals ys its) (hz : ys.length ≤ sizeLine) :
    Inv X pins σ (upd H s.heap.objs.size (.lst ys)) { s with heap := s.heap.push { cls := .type "list", data := .seq its.toArray }, toks := t' } :=
  I.laid (fun _ _ q => Heap.get?_push_of_some _ q) (Nat.le_refl _) ⟨hz, its, 0, hv, Heap.get?_push_size _ rfl⟩
theorem Inv.fresh (I : Inv X pins σ H s) : H s.heap.objs.size = none := I.hok.fresh (Nat.le_refl _)
theorem Inv.lstM (I : Inv X pins σ H s) (hH : H l = some (.lst xs)) : xs.length ≤ sizeLine ∧ ∃ (its : List Value) (n : Nat), Vals xs its ∧ xs.length = its.length ∧ s.heap.get? l = some { cls := .type "list", data := .seq its.toArray n } := by
  obtain ⟨z, its, n, r, e⟩ := I.hok l _ hH
  exact ⟨z, its, n, r, r.length, e⟩

theorem notLongL {n : Nat} (h : n ≤ sizeLine) : Builtin.List.listTooLong n = false := by
  unfold Builtin.List.listTooLong
  exact decide_eq_false (by (first | lia | omega))
end

section
variable {X : Cx}

/-! ### methods -/
def rAppend : V → List V → Hp → VK → Prop := fun x vs H Q => ∃ l xs y, x = .ref l ∧ vs = [y] ∧ H l = some (.lst xs) ∧ xs.length < sizeLine ∧ Q .non (upd H l (.lst (xs ++ [y])))
theorem mt_append : MtM X "list.append" rAppend := by
  intro pins s σ H x vs v us Q I rx rv h
  obtain ⟨l, xs, y, rfl, rfl, hH, hz, q⟩ := h
  cases rx
  obtain ⟨u, rfl, ru⟩ := rv.one
  obtain ⟨z, its, n, r, hl, e⟩ := I.lstM hH
  refine call_meets F.slot_list_append ⟨_, e, rfl⟩ F.entry_list_append (F.args_list_append_2 _ _) (PySem.list_append l its.toArray n u (by rw [List.size_toArray]; (first | lia | omega))) ⟨e, ?_⟩
  refine ⟨.non, _, I.lset (its' := its ++ [u]) hH e (by simp) (r.append (.cons ru .nil)) ?_, rfl, q⟩
  rw [List.length_append, List.length_singleton]
  (first | lia | omega)

def rExtend : V → List V → Hp → VK → Prop := fun x vs H Q => ∃ l b xs zs, x = .ref l ∧ vs = [.ref b] ∧ H l = some (.lst xs) ∧ H b = some (.lst zs) ∧ xs.length + zs.length ≤ sizeLine ∧ Q .non (upd H l (.lst (xs ++ zs)))
theorem mt_extend : MtM X "list.extend" rExtend := by
  intro pins s σ H x vs v us Q I rx rv h
  obtain ⟨l, b, xs, zs, rfl, rfl, hH, hB, hz, q⟩ := h
  cases rx
  obtain ⟨u, rfl, ru⟩ := rv.one
  cases ru
  obtain ⟨z, its, n, r, hl, e⟩ := I.lstM hH
  obtain ⟨z2, its2, n2, r2, hl2, e2⟩ := I.lstM hB
  have hsz : its.toArray.size + its2.toArray.size ≤ sizeLine := by rw [List.size_toArray, List.size_toArray]; (first | lia | omega)
  have hlong : ¬ (!its.toArray.isEmpty && Builtin.List.listTooLong (its.toArray.size + its2.toArray.size)) = true := by
    rw [notLongL hsz, Bool.and_false]
    exact Bool.false_ne_true
  refine call_meets F.slot_list_extend ⟨_, e, rfl⟩ F.entry_list_extend (F.args_list_extend_2 _ _)
    (AutoSeq1.list_extend_list_list_0 l its.toArray n b its2.toArray n2 hlong (by rw [List.size_toArray]; (first | lia | omega)) (by (first | lia | omega))) ⟨e, e2, ?_⟩
  refine ⟨.non, _, I.lset (its' := its ++ its2) hH e (by simp) (r.append r2) ?_, rfl, q⟩
  rw [List.length_append]
  (first | lia | omega)

def rPop : V → List V → Hp → VK → Prop := fun x vs H Q => ∃ l xs y, x = .ref l ∧ vs = [] ∧ H l = some (.lst xs) ∧ xs[xs.length - 1]? = some y ∧ Q y (upd H l (.lst xs.dropLast))
theorem mt_pop : MtM X "list.pop" rPop := by
  intro pins s σ H x vs v us Q I rx rv h
  obtain ⟨l, xs, y, rfl, rfl, hH, hy, q⟩ := h
  cases rx
  have hus := rv.zero
  subst hus
  obtain ⟨z, its, n, r, hl, e⟩ := I.lstM hH
  obtain ⟨u, hu, ru⟩ := r.get hy
  have hy' : its.toArray[its.toArray.size - 1]? = some u := by
    show its.toArray[its.length - 1]? = some u
    rw [← Array.getElem?_toList, ← hl]
    exact hu
  refine call_meets F.slot_list_pop ⟨_, e, rfl⟩ F.entry_list_pop (F.args_list_pop_1 _) (MeetsSeq.list_pop_last l its.toArray n u hy' (by rw [List.size_toArray]; (first | lia | omega))) ⟨e, ?_⟩
  refine ⟨y, _, I.lset (its' := its.dropLast) hH e ?_ r.dropLast ?_, ru, q⟩
  · show its.toArray.eraseIdxIfInBounds (its.toArray.size - 1) = its.dropLast.toArray
    rw [List.size_toArray, List.eraseIdxIfInBounds_toArray, erase_last]
  · rw [List.length_dropLast]
    (first | lia | omega)

/-! ### list + list, list += list, list * int -/
def rCat : R2 := fun x y H Q => ∃ l b xs zs, x = .ref l ∧ y = .ref b ∧ H l = some (.lst xs) ∧ H b = some (.lst zs) ∧ xs.length + zs.length ≤ sizeLine ∧ ∀ p, H p = none → Q (.ref p) (upd H p (.lst (xs ++ zs)))
theorem op_cat : OpR X (binaryOp .Add) rCat := by
  intro pins s σ H x y v u Q I rx ry h
  obtain ⟨l, b, xs, zs, rfl, rfl, hH, hB, hz, q⟩ := h
  cases rx
  cases ry
  obtain ⟨z, its, n, r, hl, e⟩ := I.lstM hH
  obtain ⟨z2, its2, n2, r2, hl2, e2⟩ := I.lstM hB
  refine PySem.P.add_list e e2 ?_ (by rw [List.size_toArray, List.size_toArray]; (first | lia | omega))
  have ea : its.toArray ++ its2.toArray = (its ++ its2).toArray := by simp
  rw [ea]
  exact ⟨.ref _, _, I.lnew (t' := s.toks) (r.append r2) (by rw [List.length_append]; (first | lia | omega)), rfl, q _ I.fresh⟩
/-! ### del xs[i] -/
end

/-! ### xs[a:b] = ys -/

end L2

namespace Att
open PySem PySem.W PySem.Calls PyProof.Rows

/-! ### the script -/
theorem ints_of_wellAll {P : Params} {h : Heap} : ∀ (ns : List Int) (vs : List Value), WellAll P h vs (ns.map WData.int) → IntsAre vs ns := by
  intro ns
  induction ns with
  | nil =>
    intro vs w
    rw [List.map_nil] at w
    cases w
    exact .nil
  | cons n ns ih =>
    intro vs w
    rw [List.map_cons] at w
    cases w with
    | cons a b =>
      cases a
      exact .cons _ _ (ih _ b)

theorem script_of {l : OpenLaw} {n : Nat} (hn : l.most = some n) {P : Params} {h : Heap} {args : List WData} {vals : List Value}
    (hpre : l.row.toRowW.claim.pre args = true) (hwl : WellAll P h vals args) :
    ∃ a vs ns, vals = [Value.ref a] ∧ args = [WData.list (ns.map WData.int)] ∧ h.get? a = some { cls := .type "list", data := .seq vs.toArray } ∧ IntsAre vs ns ∧ ns.length ≤ n := by
  have hsh : WShape.hasAll [] args [.list .int] = true := (pre_splitW hpre).1
  have hc : l.pre.holds [] { args := args } = true := (pre_splitW hpre).2
  obtain ⟨d, r, rfl, h1, h2⟩ := hasAllW_cons hsh
  obtain rfl := hasAllW_nil h2
  obtain ⟨xs, rfl, h3⟩ := hasW_list h1
  obtain ⟨ns, rfl⟩ := items_int h3
  have hlen : ns.length ≤ n := by
    unfold OpenLaw.pre at hc
    have h4 : (WTm.not (.lt (.lit (.int (n : Int))) (.len (.arg 0)))).holds [] { args := [.list (ns.map .int)] } = true := by
      have h4 := (holds_andW hc).1
      rw [hn] at h4
      exact h4
    have h5 := condW_of h4 (w_not (w_lt w_lit (w_len_list (w_arg rfl))))
    rw [List.length_map] at h5
    refine Nat.le_of_not_lt fun q => ?_
    have q' : (n : Int) < ((ns.length : Nat) : Int) := by (first | lia | omega)
    first
      | (rw [decide_eq_true q'] at h5; exact absurd h5 (by decide))
      | (simp at h5; (first | lia | omega))
  cases hwl with
  | cons w1 w2 =>
    cases w2
    cases w1 with
    | list ho hall => exact ⟨_, _, ns, rfl, rfl, ho, ints_of_wellAll ns _ hall, hlen⟩

theorem post_true (l : OpenLaw) (args : List WData) : l.row.toRowW.claim.post args (.bool true) args = true :=
  postW_of (r := l.row.toRowW) (X := (true == true))
    (show WShape.has [] (.bool true) .bool = true by first | rfl | decide | simp [WShape.has, WShape.arms, WShape.armsAll])
    (show (WTm.eq .res (.lit (.bool true))).value [] { args := args, res := some (.bool true), after := args } = some (.bool (true == true)) from w_eq_bool (w_res rfl) w_lit) rfl

/-! ### the attachment: holds_open's last premise (the goal 'hc' behind k_head) from a wpAny of the law's body -/
/-- the same from a codeAny of the CALL (for a layer whose function contracts speak of calls) -/
theorem attach_call {l : OpenLaw} {n : Nat} {q : Program} {loose : List Str} {XP : (Str → Option Value) → Heap → Prop} {YP : World → Heap → Prop} {d : DefRec}
    (hn : l.most = some n) (hdf : d.params.defaults = [])
    (call : ∀ (w : World) (s₀ s₁ : Shared) (mg mb : Str → Option Value) (fa : Addr) (o : Obj) (pm cd doc : Value) (a : Addr) (vs : List Value) (ns : List Int),
      Ground q loose [] XP w s₀ mg mb s₁.heap → YP w s₁.heap →
      s₁.heap.get? fa = some o → o.data = .func (docDef d.name d.params d.body d.scope pm cd doc) → s₁.heap.CodeRec cd d.name → mg d.name = some (.ref fa) →
      s₁.heap.get? a = some { cls := .type "list", data := .seq vs.toArray } → IntsAre vs ns → ns.length ≤ n → s₁.gens = #[] →
      codeAny (model l.prog w) callerA (.call (.ref fa) ⟨[.ref a], []⟩) (fun r s' => r = .ok (.ret (.bool true)) ∧ OldK s₁.heap s'.heap ∧ s'.os = s₁.os ∧ AllBare s'.gens) s₁) :
    WalkO q loose XP YP l.row.toRowW d [] (fun f vs => PySem.call f vs) := by
  intro w s₀ s₁ mg mb G Y fa o pm cd doc dV kV ho hd hcd hD hmg hg args vals as hpre hlay hrd hwl hlo
  obtain rfl : dV = .none := Dflts.none hD hdf
  obtain rfl : kV = .none := Dflts.noKw hD
  obtain ⟨a, vs, ns, rfl, rfl, hobj, hints, hlen⟩ := script_of hn hpre hwl
  refine enter_call (codeAny_mono (call w s₀ s₁ mg mb fa o pm cd doc a vs ns G Y ho (fd_plain hd) hcd hmg hobj hints hlen hg) fun r s' hq => ?_)
  obtain ⟨rfl, h2, h3, h4⟩ := hq
  exact ⟨.inl ⟨.bool true, .bool true, [], rfl, fun _ => rfl, .bool true, post_true l _, fun _ => ⟨List.Pairwise.nil, fun _ hm => (nomatch hm)⟩⟩, h2, h3, h4⟩

/-! ### rules over ANY heap (no ledger) from facts about the written part K: the library's own take a ledger (News) for what they write -/
end Att

namespace L2
open PySem PySem.Spec PyProof.Rows

theorem vals_ints : ∀ {vs : List Value} {ns : List Int}, IntsAre vs ns → Vals (ns.map V.int) vs
  | _, _, .nil => .nil
  | _, _, .cons n t h => .cons ⟨t, rfl⟩ (vals_ints h)

/-- nothing is tracked but the script, known to the object (or it is an object of the module) -/
def Only (H : Hp) : Prop := ∀ b, H b = none ∨ ∃ o xs, H b = some (.frz o (.lst xs))

/-- THE HEAD: the law's promise, at the heap behind the top. F, the promise of the law's def, may use that base is part of the heap (so K.In base, base.Ns mainGlobals mg stand in Mod) -/
theorem law_call {P : Program} {w : World} {K : PySem.W.Frag} {mg mb : Str → Option Value} {CX : CXT} {k : Nat} {fa a : Addr} {fd : FuncData} {x : Str} {sp : Sp} {s₁ : Shared} {vs : List Value} {ns : List Int}
    (KX : K.In s₁.heap) (hns : s₁.heap.Ns mainGlobals mg) (hb : s₁.heap.Ns builtinsNs mb) (hbb : ∀ x : Str, x ≠ "__name__" → mb x = bootBuiltins x) (hlim : s₁.heap.NoLimit) (hg : s₁.gens = #[])
    (ha : s₁.heap.get? a = some { cls := .type "list", data := .seq vs.toArray }) (hi : IntsAre vs ns) (hl : ns.length ≤ sizeLine) (hr : Room k callerA)
    (F : ∀ base : Heap, K.In base → base.Ns mainGlobals mg → FnOk P w K mg base CX k fa fd [x] sp) (hbind : ∀ (s : Shared) (u : Value), BindsTo s fd ⟨[u], []⟩ [(x, u)])
    (hsp : ∀ H : Hp, Only H → SqL K H a (ns.map V.int) → sp [.ref a] H (fun v _ => v = .bl true) fun _ _ _ => False)
    (hCX : ∀ H e s', CX [] H s₁ (fun _ _ _ => False) e s' → False) :
    codeAny (model P w) callerA (.call (.ref fa) ⟨[.ref a], []⟩) (fun r s' => r = .ok (.ret (.bool true)) ∧ OldK s₁.heap s'.heap ∧ s'.os = s₁.os ∧ AllBare s'.gens) s₁ := by
  have rv := vals_ints hi
  have lenV := hi.length
  -- from an abstract heap in which nothing but the script may be tracked
  have core : ∀ H : Hp, Only H → SqL K H a (ns.map V.int) → HOk P w H s₁.heap → (∀ b, H b ≠ none → b = a) → (H a ≠ none → K.lookup a = none) →
      codeAny (model P w) callerA (.call (.ref fa) ⟨[.ref a], []⟩) (fun r s' => r = .ok (.ret (.bool true)) ∧ OldK s₁.heap s'.heap ∧ s'.os = s₁.os ∧ AllBare s'.gens) s₁ := by
    intro H hO hS hok hA hK
    have base_of : ∀ {b : Addr} {o : Obj}, s₁.heap.get? b = some o → H b = none → (hidT s₁.heap H).get? b = some o := fun e n => hidT_get e n
    have noA : ∀ {b : Addr} {o : Obj} {es : Array DictEntry} {ep : Nat}, s₁.heap.get? b = some o → o.data = .dict es ep → H b = none := fun {b o es ep} e d => by
      cases q : H b with
      | none => rfl
      | some u =>
        have e' : b = a := hA b (by rw [q]; simp)
        subst e'
        rw [ha] at e; cases e
        have d' : Data.seq vs.toArray _ = Data.dict es ep := d
        cases d'
    have nsK : ∀ {b : Addr} {m : Str → Option Value}, s₁.heap.Ns b m → (hidT s₁.heap H).Ns b m := fun {b m} ⟨o, es, ep, e, d, r⟩ => ⟨o, es, ep, base_of e (noA e d), d, r⟩
    have hKb : K.In (hidT s₁.heap H) := fun b o e => base_of (KX b o e) (by
      cases q : H b with
      | none => rfl
      | some u =>
        have e' : b = a := hA b (by rw [q]; simp)
        subst e'
        rw [hK (by rw [q]; simp)] at e; cases e)
    have hM : Mod K mg (hidT s₁.heap H) := ⟨hKb, nsK hns, ⟨mb, nsK hb, hbb⟩, let ⟨mc, h1, h2⟩ := hlim; ⟨mc, nsK h1, h2⟩⟩
    have e0 : Env0 P w K mg (hidT s₁.heap H) callerA [] s₁ H := ⟨rfl, hM, fun b o e => of_hidT e, Nat.le_of_eq (hidT_size _ _), trivial, fun b hb => absurd (show b ∈ ([] : List Addr) from hb) (by simp), hok, .of_eq hg⟩
    refine codeAny_mono ((F _ hKb (nsK hns)).run callerA [] s₁ H ⟨[.ref a], []⟩ [.ref a] [.ref a] _ _ hr e0 (hbind s₁ (.ref a)) (.cons rfl .nil) (hsp H hO hS)) fun r s' h => ?_
    cases r with
    | error e => exact (hCX H e s' h).elim
    | ok fl =>
      cases fl with
      | next => exact False.elim h
      | brk => exact False.elim h
      | cont => exact False.elim h
      | ret u =>
        obtain ⟨v, H', os, bare, un, hok', r', q⟩ := h
        have q' : v = .bl true := q
        subst q'
        obtain rfl : u = Value.bool true := r'
        refine ⟨rfl, OldK.of_keep fun b o e => ?_, os, bare⟩
        cases q : H b with
        | none => exact un.keep b o e q (by intro z; exact absurd (show b ∈ ([] : List Addr) from z) (by simp)) (by simp)
        | some u =>
          rcases hO b with z | ⟨ob, xs, z⟩
          · rw [q] at z; cases z
          · have z2 := un.frzs b ob _ z
            obtain ⟨e1, _⟩ := hok b _ z
            obtain ⟨e2, _⟩ := hok' b _ z2
            rw [e] at e1; cases e1
            exact e2
  cases hk : K.lookup a with
  | some o =>
    -- the script is one of the module's own objects
    have e := KX a o hk
    rw [ha] at e
    cases e
    refine core (fun _ => none) (fun _ => .inl rfl) (.inr ⟨_, vs.toArray, _, hk, rfl, rfl, rfl, by rw [List.size_toArray, lenV]; exact hl, by simpa using rv⟩) (fun b u z => by have z' : (none : Option HO) = some u := z; cases z') (fun b z => absurd rfl z) fun z => absurd rfl z
  | none =>
    refine core (fun b => if b = a then some (.frz { cls := .type "list", data := .seq vs.toArray } (.lst (ns.map V.int))) else none) (fun b => ?_) (.inl (.inr ⟨{ cls := .type "list", data := .seq vs.toArray }, if_pos rfl⟩)) (fun b u z => ?_) (fun b z => ?_) fun _ => hk
    · by_cases hb : b = a
      · exact .inr ⟨_, _, if_pos hb⟩
      · exact .inl (if_neg hb)
    · by_cases hb : b = a
      · have z' := (if_pos hb).symm.trans z
        cases z'
        subst hb
        exact ⟨ha, by rw [List.length_map]; exact hl, vs, _, rv, ha⟩
      · have z' := (if_neg hb).symm.trans z
        cases z'
    · by_cases hb : b = a
      · exact hb
      · exact absurd (if_neg hb) z
end L2

namespace L2
open PySem PySem.Spec PyProof.Rows

/-- the goal that k_head leaves (case hc), from the law's promise. F gives the function object fd (K's own) once, then the promise over every base -/
theorem walk_of {l : PySem.W.OpenLaw} {n k : Nat} {q : Program} {loose : List Str} {XP : (Str → Option Value) → Heap → Prop} {YP : World → Heap → Prop} {d : DefRec} {K : Params → PySem.W.Frag} {CX : World → CXT} {sp : World → Sp} {x : Str}
    (hn : l.most = some n) (hn2 : n ≤ sizeLine) (hdf : d.params.defaults = []) (hr : Room k callerA)
    (hY : ∀ (w : World) (h : Heap), YP w h → (K w.params).In h)
    (F : ∀ (w : World) (mg : Str → Option Value) (fa : Addr) (h : Heap), (K w.params).In h → h.Ns mainGlobals mg → mg d.name = some (.ref fa) →
      ∃ fd : FuncData, (∀ (s : Shared) (u : Value), BindsTo s fd ⟨[u], []⟩ [(x, u)]) ∧
        ∀ base : Heap, (K w.params).In base → base.Ns mainGlobals mg → FnOk l.prog w (K w.params) mg base (CX w) k fa fd [x] (sp w))
    (hsp : ∀ (w : World) (H : Hp) (a : Addr) (ns : List Int), ns.length ≤ n → Only H → SqL (K w.params) H a (ns.map V.int) → sp w [.ref a] H (fun v _ => v = .bl true) fun _ _ _ => False)
    (hCX : ∀ (w : World) (H : Hp) (s : Shared) (e : Value) (s' : Shared), CX w [] H s (fun _ _ _ => False) e s' → False) :
    PySem.W.WalkO q loose XP YP l.row.toRowW d [] (fun f vs => PySem.call f vs) := by
  refine Att.attach_call hn hdf fun w s₀ s₁ mg mb fa o pm cd doc a vs ns G Y ho hd hcd hmg hobj hints hlen hg => ?_
  have KX := hY w _ Y
  obtain ⟨fd, hb, hF⟩ := F w mg fa _ KX G.T.g hmg
  exact law_call KX G.T.g G.T.b G.T.builtins G.T.nolimit hg hobj hints (Nat.le_trans hlen hn2) hr hF hb (fun H hO hS => hsp w H a ns hlen hO hS) fun H e s' => hCX w H s₁ e s'
end L2

/- THE LAST THEOREM (shape; LID, My.* are yours):
   My.Adr: a structure of the addresses that your layer names (classes, functions); My.Txt K t: a structure (Prop) of the equations over K;
   My.txt_mk : {K} {implicit addresses ..} (e1 : nsIn K mainGlobals "law" = some (some (.ref f))) (e2 : K.lookup f = some ⟨oc, od, .func (fnOf "law" "law" params body scope dV kV doc pm an cdv ct), sl⟩) (e3 : codeIn K cdv "law" = true) .. : ∃ t, My.Txt K t

set_option maxRecDepth 100000 in
set_option maxHeartbeats 0 in
theorem PySem.Challenge.cw_LID_holds : PySem.Challenge.rw_LID.Holds := by
  w_on; o_law; k_head; (case hw => w_witness2)
  k_fill
  refine L2.walk_of (l := PySem.Challenge.rw_LID) (n := 63) (k := 40) (x := "script") (CX := fun w => ..) (sp := fun _ => My.sp_law) rfl (by decide) rfl ⟨rfl, by decide, by decide⟩ (fun w h Y => PySem.W.kIn_of Y) ?F ?S ?C
  case F =>
    intro w mg fa h KX G hmg
    have T : ∃ t, My.Txt (L2.KOf KX) t := by
      dsimp only [L2.KOf]                          -- K must stand as «<heap const> w.params» for k_is
      refine' My.txt_mk ?e1 ?e2 ?e3 ..
      (case e1 => PySem.W.k_is)                    -- in the order: a name -> its address -> its object -> its parts
      (case e2 => PySem.W.k_is)
      ..
    obtain ⟨t, T⟩ := T
    have e0 := hmg.symm.trans (PySem.W.mg_of KX G T.law)
    cases e0                                       -- fa is the law's own address
    exact ⟨_, fun s u => .of_eq rfl, fun base kb nb => My.law_fn T kb nb⟩     -- if «.of_eq rfl» comes too early: refine' ⟨_, ?b, fun base kb nb => My.law_fn T kb nb⟩; exact fun s u => .of_eq rfl
  case S => exact fun w H a ns hl hO hS => ..
  case C => exact ..
(the tactic k_is has no namespace: write k_is) -/

/-! SHORT WORDS over the layer: a def of the text, its body, what a loop and a test want. -/
namespace L2
open PySem PySem.Spec PyProof.Rows

/-! ### the text by places -/
/-- the j-th statement of a class's body -/
def inClass (s : Stmt) (j : Nat) : Stmt := match s with
  | .ClassDef _ _ _ body _ _ _ _ _ _ _ => body.getD j (.Pass ⟨0, 0, 0, 0⟩)
  | _ => .Pass ⟨0, 0, 0, 0⟩
def defArgs (s : Stmt) : Arguments := match s with
  | .FunctionDef _ a _ _ _ _ _ _ _ _ => a
  | _ => { posonlyargs := [], args := [], vararg := none, kwonlyargs := [], kw_defaults := [], kwarg := none, defaults := [] }
def defBody (s : Stmt) : List Stmt := match s with
  | .FunctionDef _ _ b _ _ _ _ _ _ _ => b
  | _ => []
def defScope (s : Stmt) : Scope := match s with
  | .FunctionDef _ _ _ _ _ _ sc _ _ _ => sc
  | _ => { kind := .function, names := [], isGenerator := false, isCoroutine := false }

/-! ### no exception leaves a def -/
abbrev CX0 : CXT := fun _ _ _ _ _ _ => False
abbrev E0 : XK := fun _ _ _ => False
theorem pass0 {X : Cx} : Passes CX0 X E0 := fun _ _ _ _ _ _ _ h => h.elim

/-! ### a def (or method) of the text as it stands behind the top -/
structure Fun (K : PySem.W.Frag) (x qual : Str) (st : Stmt) (f : Addr) (fd : FuncData) : Prop where
  ex : ∃ (oc : Value) (od : Option Addr) (kV doc pm : Value) (an : Option Addr) (cdv ct : Value) (osl : Array (Option Value)),
    fd = PySem.W.fnOf x qual (defArgs st) (defBody st) (defScope st) .none kV doc pm an cdv ct ∧ K.lookup f = some ⟨oc, od, .func fd, osl⟩ ∧ PySem.W.codeIn K cdv qual = true
  kp : PySem.W.keepIn K (.ref f) = true
section
variable {P : Program} {w : World} {K : PySem.W.Frag} {mg : Str → Option Value} {base : Heap}
/-- THE RULE for a def: its body as a term of rules, and the reading of that term -/
theorem Fun.ok {x qual : Str} {st : Stmt} {f : Addr} {fd : FuncData} {N ps : List Str} {k : Nat} {sp : Sp} (F : Fun K x qual st f fd) (S : FnScope N ps (defScope st)) (len : ∀ vs H Q E, sp vs H Q E → vs.length = ps.length)
    (hbody : ∀ (cdv : Value) (A : Around) (outer : List Env) (s : Shared) (H : Hp) (vs : List V) (Q : VK) (E : XK), Room k (A.deeper (envOfC qual (defScope st) s.heap.objs.size f cdv)) → sp vs H Q E →
      ∃ t, PSs (cxOf CX0 P w K mg base N qual (defScope st) f cdv A outer s H E).nox (defBody st) t ∧ t { nx := fun _ H' => Q .non H', rt := Q } (start N vs) H) : FnOk P w K mg base CX0 (k + 1) f fd ps sp := by
  obtain ⟨oc, od, kV, doc, pm, an, cdv, ct, osl, rfl, lk, hcd⟩ := F.ex
  refine fn_of lk hcd S len fun A outer s H vs Q E hr hsp => ?_
  obtain ⟨t, h, q⟩ := hbody cdv A outer s H vs Q E hr hsp
  exact ⟨t, h.nox, q⟩
/-- how its arguments bind (no defaults): h is «fun _ _ _ _ _ _ us hl => match us, hl with | [_, _], _ => rfl», one _ a parameter -/
theorem Fun.binds {x qual : Str} {st : Stmt} {f : Addr} {fd : FuncData} {ps : List Str} (F : Fun K x qual st f fd)
    (h : ∀ (kV doc pm : Value) (an : Option Addr) (cdv ct : Value) (us : List Value), us.length = ps.length → bindArgs (PySem.W.fnOf x qual (defArgs st) (defBody st) (defScope st) .none kV doc pm an cdv ct) ⟨us, []⟩ = pure (ps.zip us)) : Binds K fd ps [] := by
  obtain ⟨oc, od, kV, doc, pm, an, cdv, ct, osl, rfl, lk, hcd⟩ := F.ex
  exact .all (h kV doc pm an cdv ct)
theorem fun_mk {x qual : Str} {st : Stmt} {f : Addr} {oc : Value} {od an : Option Addr} {osl : Array (Option Value)} {kV doc pm cdv ct : Value} (l : K.lookup f = some ⟨oc, od, .func (PySem.W.fnOf x qual (defArgs st) (defBody st) (defScope st) .none kV doc pm an cdv ct), osl⟩)
    (c : PySem.W.codeIn K cdv qual = true) (k : PySem.W.keepIn K (.ref f) = true) : Fun K x qual st f (PySem.W.fnOf x qual (defArgs st) (defBody st) (defScope st) .none kV doc pm an cdv ct) := ⟨⟨oc, od, kV, doc, pm, an, cdv, ct, osl, rfl, l, c⟩, k⟩
end
/-! ### expressions in short: the name that stands in the i-th slot -/
section
variable {X : Cx}
theorem pv (i : Nat) {x : Str} {pos : Pos} (hN : X.N[i]? = some x := by rfl) (hv : Vis X.env.scope x := by first | exact Or.inl rfl | exact Or.inr (Or.inl rfl) | exact Or.inr (Or.inr rfl)) (hd : (x == ("__debug__" : Str)) = false := by decide)
    (hcd : (x == ("__classdict__" : Str)) = false := by decide) : PE X (.Name x pos) (tVar i) := pe_var hN hv hd hcd
end

/-! ### tests -/
theorem iteF {A B : Prop} (h : B) : if false = true then A else B := by
  rw [if_neg Bool.false_ne_true]
  exact h
theorem iteT {A B : Prop} (h : A) : if true = true then A else B := by
  rw [if_pos rfl]
  exact h
theorem ite2 {c A B : Prop} [Decidable c] (h1 : c → A) (h2 : ¬ c → B) : if c then A else B := by
  by_cases h : c
  · rw [if_pos h]
    exact h1 h
  · rw [if_neg h]
    exact h2 h
/-! ### heaps -/
/-- all that was tracked is as it was -/
def Same (H H' : Hp) : Prop := ∀ b o, H b = some o → H' b = some o
theorem Same.refl (H : Hp) : Same H H := fun _ _ h => h
theorem Same.trans {H H1 H2 : Hp} (a : Same H H1) (b : Same H1 H2) : Same H H2 := fun c o h => b c o (a c o h)
theorem Same.free {H H' : Hp} (e : Same H H') {l : Addr} (h : H' l = Option.none) : H l = Option.none := by
  cases q : H l with
  | none => rfl
  | some o =>
    rw [e l o q] at h
    cases h
theorem Same.seq {K : PySem.W.Frag} {H H' : Hp} {a : Addr} {xs : List V} (e : Same H H') (h : SqL K H a xs) : SqL K H' a xs := by
  rcases h with (h | ⟨o, h⟩) | h
  · exact .inl (.inl (e _ _ h))
  · exact .inl (.inr ⟨o, e _ _ h⟩)
  · exact .inr h

end L2

/-! Groves as data: a grove is nil, or a first tree (tag, what is within) and the others. Words with an end sl. -/
namespace FgM
inductive Gr (A : Type) where
  | nil
  | cons (t : A) (w o : Gr A)
section
variable {A : Type}
def words (sl : A) : Gr A → List A
  | .nil => []
  | .cons t w o => t :: (words sl w ++ sl :: words sl o)
def snoc : Gr A → A → Gr A → Gr A
  | .nil, t, w => .cons t w .nil
  | .cons t' w' o, t, w => .cons t' w' (snoc o t w)
theorem words_snoc (sl : A) (t : A) (w : Gr A) : ∀ g : Gr A, words sl (snoc g t w) = words sl g ++ t :: (words sl w ++ [sl])
  | .nil => by simp [snoc, words]
  | .cons t' w' o => by simp [snoc, words, words_snoc sl t w o]
/-- rows (the innermost first) with the open tags (the innermost first): the words so far -/
def flatR (sl : A) : List (Gr A) → List A → List A
  | [r], [] => words sl r
  | r :: rs, t :: ts => flatR sl rs ts ++ t :: words sl r
  | _, _ => []
theorem flatR_open (sl : A) (t : A) {rs : List (Gr A)} {ts : List A} : flatR sl (.nil :: rs) (t :: ts) = flatR sl rs ts ++ [t] := by
  cases rs <;> simp [flatR, words]
theorem flatR_grow (sl : A) (t : A) (w : Gr A) {r : Gr A} {rs : List (Gr A)} {ts : List A} (h : rs.length = ts.length) :
    flatR sl (snoc r t w :: rs) ts = flatR sl (r :: rs) ts ++ t :: (words sl w ++ [sl]) := by
  cases ts with
  | nil =>
    have : rs = [] := List.eq_nil_of_length_eq_zero (by simpa using h)
    subst this
    simp [flatR, words_snoc]
  | cons t' ts =>
    cases rs with
    | nil => simp at h
    | cons r' rs => simp [flatR, words_snoc]
theorem flatR_close (sl : A) (t : A) {w r : Gr A} {rs : List (Gr A)} {ts : List A} (h : rs.length = ts.length) :
    flatR sl (snoc r t w :: rs) ts = flatR sl (w :: r :: rs) (t :: ts) ++ [sl] := by
  rw [flatR_grow sl t w h]
  simp [flatR]
theorem flatR_ge (sl : A) {r : Gr A} {rs : List (Gr A)} {ts : List A} (h : rs.length = ts.length) : (words sl r).length ≤ (flatR sl (r :: rs) ts).length := by
  cases ts with
  | nil =>
    have : rs = [] := List.eq_nil_of_length_eq_zero (by simpa using h)
    subst this
    simp [flatR]
  | cons t' ts =>
    cases rs with
    | nil => simp at h
    | cons r' rs => simp [flatR]; (first | lia | omega)
theorem flatR_len (sl : A) : ∀ {ts : List A} {rs : List (Gr A)}, rs.length = ts.length + 1 → ts.length ≤ (flatR sl rs ts).length
  | [], _, _ => Nat.zero_le _
  | t :: ts, [], h => by simp at h
  | t :: ts, [r], h => by simp at h
  | t :: ts, r :: r' :: rs, h => by
    have := flatR_len sl (ts := ts) (rs := r' :: rs) (by simpa using h)
    simp only [flatR, List.length_append, List.length_cons]
    (first | lia | omega)
section
variable [DecidableEq A]
/-- from h open tags on these words end all tags and no more -/
def Can (sl : A) : Nat → List A → Prop
  | h, [] => h = 0
  | h, w :: ws => if w = sl then 1 ≤ h ∧ Can sl (h - 1) ws else Can sl (h + 1) ws
theorem can_tag {sl w : A} (hw : w ≠ sl) {h : Nat} {ws : List A} : Can sl h (w :: ws) ↔ Can sl (h + 1) ws := by
  simp [Can, hw]
theorem can_end {sl : A} {h : Nat} {ws : List A} : Can sl h (sl :: ws) ↔ 1 ≤ h ∧ Can sl (h - 1) ws := by
  simp [Can]
/-- the words of a grove leave the open tags as they were -/
def Clean (sl : A) : Gr A → Prop
  | .nil => True
  | .cons t w o => t ≠ sl ∧ Clean sl w ∧ Clean sl o
theorem clean_snoc {sl t : A} {w : Gr A} (ht : t ≠ sl) (hw : Clean sl w) : ∀ {g : Gr A}, Clean sl g → Clean sl (snoc g t w)
  | .nil, _ => ⟨ht, hw, trivial⟩
  | .cons _ _ _, ⟨a, b, c⟩ => ⟨a, b, clean_snoc ht hw c⟩
end
end
end FgM

/-! RULES OF OUR OWN over the layer: isinstance, t[::-1], whole slices of tuples, extend by a tuple, text * int, == of data at any depth, calls of own defs in short. -/
namespace L2
open PySem PySem.Spec PyProof.Rows
theorem bt_list : bootBuiltins "list" = some (.type "list") := by decide +kernel
theorem bt_tuple : bootBuiltins "tuple" = some (.type "tuple") := by decide +kernel
theorem bt_dict : bootBuiltins "dict" = some (.type "dict") := by decide +kernel
/-! ### calls of own defs -/
structure Has (P : Program) (w : World) (K : PySem.W.Frag) (mg : Str → Option Value) (base : Heap) (x : Str) (ps : List Str) (k : Nat) (sp : Sp) : Prop where
  ex : ∃ (f : Addr) (fd : FuncData), FnOk P w K mg base CX0 k f fd ps sp ∧ Binds K fd ps [] ∧ PySem.W.keepIn K (.ref f) = true ∧ mg x = some (.ref f)
section
variable {X : Cx} {x : Str} {ps : List Str} {j k : Nat} {sp : Sp} {e : Expr} {es : List Expr} {t : TA} {p pos : Pos}
theorem FnOk.room {P : Program} {w : World} {K : PySem.W.Frag} {mg : Str → Option Value} {base : Heap} {CX : CXT} {f : Addr} {fd : FuncData} (F : FnOk P w K mg base CX j f fd ps sp) (h : j ≤ k) : FnOk P w K mg base CX k f fd ps sp :=
  ⟨F.len, fun A outer s H args us vs Q E hr => F.run A outer s H args us vs Q E (hr.mono h)⟩
theorem pe_has (G : Has X.prog X.w X.K X.mg X.base x ps j sp) (hr : Room k X.A) (hg : Gl X x) (ha : PA X (e :: es) t) (hk : j ≤ k := by decide) (hdb : (x == ("__debug__" : Str)) = false := by decide)
    (he : starEach (e :: es) X.env = (false, eval e X.env) :: starEach es X.env := by rfl) (hpl : (backTo pos (starEach es X.env)).any (·.1) = false := by rfl) :
    PE X (.Call (.Name x p) (e :: es) [] pos) (tCall sp [] E0 t) := by
  obtain ⟨f, fd, F, b, kp, m⟩ := G.ex
  exact pe_call (F.room hk) hr hg m kp b .nil pass0 ha hdb he hpl
end
/-! ### extend by a tuple -/
/-! ### text * int -/
end L2
namespace HT
open PySem PyProof.Rows
end HT

namespace L2
open PySem PySem.Spec PyProof.Rows
/-! ### == and != of data at any depth -/
mutual
inductive Dp (K : PySem.W.Frag) (H : Hp) : V → PyData → Prop
  | non : Dp K H .non .none
  | bl (b : Bool) : Dp K H (.bl b) (.bool b)
  | int (i : Int) : Dp K H (.int i) (.int i)
  | str (x : Str) : Dp K H (.str x) (.str x)
  | lst {a : Addr} {xs : List V} {ds : List PyData} : SqL K H a xs → DpAll K H xs ds → Dp K H (.ref a) (.list ds)
  | tup {a : Addr} {xs : List V} {ds : List PyData} : SqT K H a xs → DpAll K H xs ds → Dp K H (.ref a) (.tuple ds)
inductive DpAll (K : PySem.W.Frag) (H : Hp) : List V → List PyData → Prop
  | nil : DpAll K H [] []
  | cons {v : V} {vs : List V} {d : PyData} {ds : List PyData} : Dp K H v d → DpAll K H vs ds → DpAll K H (v :: vs) (d :: ds)
end
section
variable {X : Cx} {pins : List (Addr × Obj)} {σ : St} {H : Hp} {s : Shared}
mutual
theorem Dp.reads (I : Inv X pins σ H s) : ∀ {v : V} {d : PyData} {u : Value}, Dp X.K H v d → RelV v u → ∃ as, Reads s.heap u d as
  | _, _, u, .non, r => by
    obtain rfl : u = Value.none := r
    exact ⟨_, .none⟩
  | _, _, u, .bl b, r => by
    obtain rfl : u = Value.bool b := r
    exact ⟨_, .bool b⟩
  | _, _, _, .int i, ⟨t, e⟩ => by
    subst e
    exact ⟨_, .int i t⟩
  | _, _, _, .str x, ⟨t, e⟩ => by
    subst e
    exact ⟨_, .str x t⟩
  | _, _, u, @Dp.lst _ _ a xs ds hq hall, r => by
    obtain rfl : u = Value.ref a := r
    obtain ⟨its, rv, ⟨o, n, e, hc, _, hd⟩, _⟩ := I.list hq
    obtain ⟨as, ha⟩ := DpAll.reads I hall rv
    exact ⟨_, .list e hc hd (by simpa using ha)⟩
  | _, _, u, @Dp.tup _ _ a xs ds hq hall, r => by
    obtain rfl : u = Value.ref a := r
    obtain ⟨its, rv, ⟨o, e, hc, n, hd⟩, _⟩ := I.tuple hq
    obtain ⟨as, ha⟩ := DpAll.reads I hall rv
    exact ⟨_, .tuple e hc hd (by simpa using ha)⟩
theorem DpAll.reads (I : Inv X pins σ H s) : ∀ {vs : List V} {ds : List PyData} {us : List Value}, DpAll X.K H vs ds → Vals vs us → ∃ as, ReadsAll s.heap us ds as
  | _, _, _, .nil, .nil => ⟨_, .nil⟩
  | _, _, _, .cons h t, .cons r rs => by
    obtain ⟨as, ha⟩ := Dp.reads I h r
    obtain ⟨bs, hb⟩ := DpAll.reads I t rs
    exact ⟨_, .cons ha hb⟩
end
end
section
variable {X : Cx}
def rEqD (K : PySem.W.Frag) (neg : Bool) : R2 := fun x y H Q => ∃ d e, Dp K H x d ∧ Dp K H y e ∧ d.canLay0 = true ∧ e.canLay0 = true ∧ min d.depth e.depth ≤ 200 ∧ Q (.bl (if neg then !PyData.eqv d e else PyData.eqv d e)) H
theorem op_neD (hu : X.A.units + 200 < cLine) : OpR X (compareOp .NotEq) (rEqD X.K true) := by
  intro pins s σ H x y v u Q I rx ry h
  obtain ⟨d, e, hx, hy, h1, h2, hd, q⟩ := h
  obtain ⟨as, ra⟩ := hx.reads I rx
  obtain ⟨bs, rb⟩ := hy.reads I ry
  exact PySem.SeqAt.compareNe_reads ra rb h1 h2 (by (first | lia | omega)) ⟨.bl _, H, I, rfl, q⟩
theorem hu_room {A : Around} {k : Nat} (hr : Room k A) : A.units + 200 < cLine := by
  have := hr.un
  (first | lia | omega)
end
/-! ### t[::-1], slices of tuples whole or not -/
/-! ### heaps: tuples are kept -/
/-- what is no list that may change: the tuples stay -/
def TK (H H' : Hp) : Prop := ∀ b xs, H b = some (.tup xs) → H' b = some (.tup xs)
theorem TK.trans {H H1 H2 : Hp} (a : TK H H1) (b : TK H1 H2) : TK H H2 := fun c xs h => b c xs (a c xs h)
theorem TK.new {H : Hp} {p : Addr} {o : HO} (h : H p = none) : TK H (upd H p o) := fun b xs q => by
  rw [upd_ne (ne_of_none q h)]
  exact q
theorem TK.lst {H : Hp} {p : Addr} {xs : List V} {o : HO} (h : H p = some (.lst xs)) : TK H (upd H p o) := fun b ys q => by
  by_cases e : b = p
  · subst e
    rw [h] at q
    cases q
  · rw [upd_ne e]
    exact q
theorem Same.tk {H H' : Hp} (h : Same H H') : TK H H' := fun b xs q => h b _ q
theorem Same.new {H : Hp} {p : Addr} {o : HO} (h : H p = none) : Same H (upd H p o) := fun b u q => by
  rw [upd_ne (ne_of_none q h)]
  exact q
theorem Same.upd_new {H H' : Hp} {p : Addr} {o : HO} (h : Same H H') (hp : H p = none) : Same H (upd H' p o) := fun b u q => by
  rw [upd_ne (ne_of_none q hp)]
  exact h b u q
end L2
namespace L2
open PySem PySem.Spec PyProof.Rows
theorem upd_none {H : Hp} {p b : Addr} {o : HO} (h : upd H p o b = none) : b ≠ p ∧ H b = none := by
  by_cases e : b = p
  · subst e
    rw [upd_same] at h
    cases h
  · rw [upd_ne e] at h
    exact ⟨e, h⟩
end L2
namespace L2
open PySem PySem.Spec PyProof.Rows
end L2
namespace L2
open PySem PySem.Spec PyProof.Rows
end L2
namespace L2
end L2

namespace L2
open PySem PySem.Spec PyProof.Rows
theorem Paired.app {α β : Type} {F : α → β → Prop} : ∀ {l₁ k₁ : List α} {l₂ k₂ : List β}, Paired F l₁ l₂ → Paired F k₁ k₂ → Paired F (l₁ ++ k₁) (l₂ ++ k₂)
  | _, _, _, _, .nil, s => s
  | _, _, _, _, .cons r t, s => .cons r (Paired.app t s)
theorem snoc_last {α : Type} (l : List α) (a : α) : (l ++ [a])[(l ++ [a]).length - 1]? = some a := by
  simp
theorem snoc_drop {α : Type} (l : List α) (a : α) : (l ++ [a]).dropLast = l := by
  simp
end L2
namespace Fg
open PySem L2 FgM
abbrev SL : Str := "/"
/-- the tuples bear a grove -/
inductive RepG (H : Hp) : List V → Gr Str → Prop
  | nil : RepG H [] .nil
  | cons {p q : Addr} {t : Str} {ys vs : List V} {w o : Gr Str} : H p = some (.tup [.str t, .ref q]) → H q = some (.tup ys) → RepG H ys w → RepG H vs o → RepG H (.ref p :: vs) (.cons t w o)
theorem RepG.mono {H H' : Hp} (k : TK H H') : ∀ {vs : List V} {g : Gr Str}, RepG H vs g → RepG H' vs g
  | _, _, .nil => .nil
  | _, _, .cons h1 h2 h3 h4 => .cons (k _ _ h1) (k _ _ h2) (h3.mono k) (h4.mono k)
theorem RepG.snoc {H : Hp} {p q : Addr} {t : Str} {ys : List V} {w : Gr Str} (h1 : H p = some (.tup [.str t, .ref q])) (h2 : H q = some (.tup ys)) (h3 : RepG H ys w) :
    ∀ {vs : List V} {g : Gr Str}, RepG H vs g → RepG H (vs ++ [.ref p]) (snoc g t w)
  | _, _, .nil => .cons h1 h2 h3 .nil
  | _, _, .cons a b c d => .cons a b c (RepG.snoc h1 h2 h3 d)
theorem RepG.length {H : Hp} : ∀ {vs : List V} {g : Gr Str}, RepG H vs g → vs.length ≤ (words SL g).length
  | _, _, .nil => Nat.le_refl _
  | _, _, .cons _ _ _ d => by
    have := d.length
    simp only [List.length_cons, words, List.length_append]
    (first | lia | omega)
/-- rows under way, the innermost first -/
abbrev RowsR (H : Hp) : List Addr → List (Gr Str) → Prop := Paired fun a g => ∃ vs, H a = some (.lst vs) ∧ RepG H vs g
theorem rows_mono {H H' : Hp} (k : TK H H') : ∀ {as : List Addr} {gs : List (Gr Str)}, RowsR H as gs → (∀ b ∈ as, ∀ o, H b = some o → H' b = some o) → RowsR H' as gs
  | _, _, .nil, _ => .nil
  | _, _, .cons ⟨vs, h1, h2⟩ t, hk => .cons ⟨vs, hk _ (List.mem_cons_self ..) _ h1, h2.mono k⟩ (rows_mono k t fun b hb => hk b (List.mem_cons_of_mem _ hb))
theorem rows_there {H : Hp} : ∀ {as : List Addr} {gs : List (Gr Str)}, RowsR H as gs → ∀ b ∈ as, ∃ o, H b = some o
  | _, _, .nil, _, hb => nomatch hb
  | _, _, .cons ⟨vs, h1, _⟩ t, b, hb => by
    rcases List.mem_cons.mp hb with rfl | hb
    · exact ⟨_, h1⟩
    · exact rows_there t b hb
/-- small letters, one or more -/
def Lets (t : Str) : Prop := t.cps.toList ≠ [] ∧ ∀ c ∈ t.cps.toList, 97 ≤ c ∧ c ≤ 122
def Let0 (t : Str) : Prop := ∀ c ∈ t.cps.toList, 97 ≤ c ∧ c ≤ 122
theorem app_cps (x y : Str) : (x ++ y).cps.toList = x.cps.toList ++ y.cps.toList := by
  show (x.cps ++ y.cps).toList = _
  simp
theorem Lets.let0 {t : Str} (h : Lets t) : Let0 t := h.2
theorem Lets.ne {t : Str} (h : Lets t) : t ≠ SL := fun e => by
  subst e
  have := h.2 47 (by decide)
  (first | lia | omega)
theorem Let0.ok {t : Str} (h : Let0 t) : PyData.strOk t = true := by
  unfold PyData.strOk
  rw [Array.all_eq_true_iff_forall_mem]
  intro c hc
  have := h c (by simpa using hc)
  exact decide_eq_true (by (first | lia | omega))
theorem sl_ok : PyData.strOk SL = true := by decide +kernel
def ABC : Str := "abcdefghijklmnopqrstuvwxyz"
theorem abc_all : ∀ n : _root_.Fin 26, 97 ≤ ABC.cps.toList.getD n.val 0 ∧ ABC.cps.toList.getD n.val 0 ≤ 122 ∧ n.val < ABC.cps.toList.length := by decide
theorem abc_at {i : Int} (h0 : 0 ≤ i) (h1 : i < 26) : ∃ c, atI ABC.cps.toList i = some c ∧ 97 ≤ c ∧ c ≤ 122 := by
  obtain ⟨n, rfl⟩ := Int.eq_ofNat_of_zero_le h0
  obtain ⟨a, b, c⟩ := abc_all ⟨n, by (first | lia | omega)⟩
  refine ⟨_, atI_nat (List.getElem?_eq_getElem c), ?_, ?_⟩
  · rw [List.getD_eq_getElem?_getD, List.getElem?_eq_getElem c] at a
    exact a
  · rw [List.getD_eq_getElem?_getD, List.getElem?_eq_getElem c] at b
    exact b
theorem ints_at {ns : List Int} {k : Int} (h0 : 0 ≤ k) (h : k < (ns.length : Int)) : ∃ v : Int, atI (ns.map V.int) k = some (.int v) := by
  obtain ⟨n, rfl⟩ := Int.eq_ofNat_of_zero_le h0
  have hn : n < ns.length := by (first | lia | omega)
  exact ⟨ns[n], atI_nat (by rw [List.getElem?_map, List.getElem?_eq_getElem hn]; rfl)⟩
theorem strs_at {ws : List Str} {n : Nat} (h : n < ws.length) : atI (ws.map V.str) ((n : Nat) : Int) = some (.str ws[n]) := atI_nat (by rw [List.getElem?_map, List.getElem?_eq_getElem h]; rfl)
end Fg

namespace Fg
open PySem L2 FgM
/-! ### what the laws' own helpers promise -/
def spLaw (K : PySem.W.Frag) : Sp := fun vs H Q _ => ∃ (a : Addr) (ns : List Int), vs = [.ref a] ∧ SqL K H a (ns.map V.int) ∧ ns.length ≤ 63 ∧ ∀ H', Q (.bl true) H'
theorem len1000 {n : Nat} (h : n ≤ 100000) : n ≤ sizeLine := Nat.le_trans h (by decide)
theorem len1000' {n : Nat} (h : n ≤ 100000) : n < sizeLine := Nat.lt_of_le_of_lt h (by decide)
end Fg
namespace Fg
open PySem L2 FgM
end Fg
namespace Fg
open PySem L2 FgM
end Fg
namespace Fg
open PySem L2 FgM
theorem cut_from (xs : List V) (n : Nat) : cutV xs (some (n : Int)) none = xs.drop n := by
  unfold cutV
  rw [HT.sIx_nat, HT.sIx_none]
  rw [List.take_of_length_le (by rw [List.length_drop]; exact Nat.le_refl _)]
  by_cases h : n ≤ xs.length
  · rw [Nat.min_eq_left h]
  · rw [Nat.min_eq_right (by (first | lia | omega)), List.drop_length, List.drop_eq_nil_of_le (by (first | lia | omega))]
theorem dp_strs {K : PySem.W.Frag} {H : Hp} : ∀ ws : List Str, DpAll K H (ws.map V.str) (ws.map PyData.str)
  | [] => .nil
  | w :: ws => .cons (.str w) (dp_strs ws)
theorem lay_strs : ∀ {ws : List Str}, (∀ w ∈ ws, PyData.strOk w = true) → PyData.canLayAll0 (ws.map PyData.str) = true
  | [], _ => rfl
  | w :: ws, h => by
    show (PyData.strOk w && PyData.canLayAll0 (ws.map PyData.str)) = true
    rw [h w (List.mem_cons_self ..), lay_strs fun x hx => h x (List.mem_cons_of_mem _ hx)]
    rfl
theorem depth_strs : ∀ ws : List Str, PyData.depthAll (ws.map PyData.str) = 0
  | [] => rfl
  | w :: ws => by
    show max (PyData.depth (.str w)) (PyData.depthAll (ws.map PyData.str)) = 0
    rw [depth_strs ws]
    rfl
end Fg
namespace Fg
open PySem L2 FgM
theorem cut_upto (xs : List V) (n : Nat) : cutV xs none (some (n : Int)) = xs.take n := by
  unfold cutV
  rw [HT.sIx_nat, HT.sIx_none, List.drop_zero, Nat.sub_zero]
  by_cases h : n ≤ xs.length
  · rw [Nat.min_eq_left h]
  · rw [Nat.min_eq_right (by (first | lia | omega)), List.take_length, List.take_of_length_le (by (first | lia | omega))]
end Fg

namespace L2
open PySem PySem.Spec PyProof.Rows
theorem strsAre_of : ∀ {ys : List Str} {us : List Value}, Vals (ys.map V.str) us → StrsAre us ys
  | [], _, .nil => .nil
  | y :: ys, _, .cons r t => by
    obtain ⟨tk, e⟩ := r
    subst e
    exact .cons y tk (strsAre_of t)
section
variable {X : Cx}
/-- sep.join(xs), a list of texts -/
def rJoin (K : PySem.W.Frag) : V → List V → Hp → VK → Prop := fun x vs H Q => ∃ z a ys, x = .str z ∧ vs = [.ref a] ∧ SqL K H a (ys.map V.str) ∧ (ys.map (·.length)).sum + ys.length * z.length ≤ 16777216 ∧ Q (.str (Txt.join z ys)) H
theorem mt_join : MtM X "str.join" (rJoin X.K) := by
  intro pins s σ H x vs v us Q I rx rv h
  obtain ⟨z, a, ys, rfl, rfl, hS, hz, q⟩ := h
  obtain ⟨t, rfl⟩ := rx
  obtain ⟨u, rfl, ru⟩ := rv.one
  cases ru
  obtain ⟨its, r, pl, _⟩ := I.list hS
  exact join_list pl.isList (by simpa using strsAre_of r) hz fun t' k => ⟨.str _, H, I.tok _, ⟨_, rfl⟩, q⟩
end
end L2
namespace Fg
open PySem L2 FgM
/-! ### groves as texts -/
def cs (x : Str) : List Nat := x.cps.toList
theorem cs_app (x y : Str) : cs (x ++ y) = cs x ++ cs y := app_cps x y
def jn (sep : Str) : List Str → List Nat
  | [] => []
  | [x] => cs x
  | x :: y :: r => cs x ++ (cs sep ++ jn sep (y :: r))
theorem cs_strJoin (sep : Str) : ∀ ys : List Str, cs (Str.join sep ys) = jn sep ys
  | [] => rfl
  | [x] => rfl
  | x :: y :: r => by
    show cs (x ++ sep ++ Str.join sep (y :: r)) = _
    rw [cs_app, cs_app, cs_strJoin sep (y :: r), List.append_assoc]
    rfl
theorem cs_join (sep : Str) (ys : List Str) : cs (Txt.join sep ys) = jn sep ys := by
  have e : Txt.join sep ys = Str.join sep ys := PySem.StrLaws.glued_eq_join sep ys
  rw [e, cs_strJoin]
/-! ### what the laws want of texts -/
end Fg

/-! Texts: their signs walked, cut and compared; all(..) of truths; the comprehension of a tag's test. -/
namespace L2
open PySem PySem.Spec PyProof.Rows
section
variable {P : Program} {w : World} {H : Hp} {h h' : Heap} {a : Addr} {o : HO}
theorem ObjOk.there (x : ObjOk P w H h a o) : ∃ ob, h.get? a = some ob := by
  cases o with
  | lst xs => obtain ⟨_, _, _, _, e⟩ := x; exact ⟨_, e⟩
  | tup xs => obtain ⟨_, _, _, ob, e, _⟩ := x; exact ⟨_, e⟩
  | dK kvs => obtain ⟨_, _, _, _, ob, _, _, e, _⟩ := x; exact ⟨_, e⟩
  | dT kvs => obtain ⟨_, _, _, _, ob, _, _, e, _⟩ := x; exact ⟨_, e⟩
  | set S n => obtain ⟨ob, _, _, _, e, _⟩ := x; exact ⟨_, e⟩
  | ins C dx fs => obtain ⟨_, _, _, e, _⟩ := x; exact ⟨_, e⟩
  | own y => obtain ⟨_, e⟩ := x; exact ⟨_, e⟩
  | xd fs => obtain ⟨_, ⟨_, _, _, e, _⟩, _⟩ := x; exact ⟨_, e⟩
  | rng lo hi => obtain ⟨_, _, _, e⟩ := x; exact ⟨_, e⟩
  | frz ob u => obtain ⟨e, _⟩ := x; exact ⟨_, e⟩
  | tbl ps => exact ⟨_, (show h.get? a = some _ from x)⟩
  | met f y => exact ⟨_, (show h.get? a = some _ from x)⟩
  | ext φ => obtain ⟨_, ⟨_, e⟩, _⟩ := x; exact ⟨_, e⟩
theorem HOk.freshN (x : HOk P w H h) (e : h.get? a = none) : H a = none := by
  cases q : H a with
  | none => rfl
  | some u =>
    obtain ⟨ob, e'⟩ := (x a u q).there
    rw [e] at e'
    cases e'
end
section
variable {X : Cx} {pins : List (Addr × Obj)} {σ : St} {H : Hp} {s : Shared} {h' : Heap}
/-- a new object laid at an address where none stood -/
theorem Inv.laidN {a : Addr} {o : HO} {t' : Nat} (I : Inv X pins σ H s) (k : ∀ b u, s.heap.get? b = some u → h'.get? b = some u) (hp : s.heap.get? a = none) (new : ObjOk X.prog X.w (upd H a o) h' a o) :
    Inv X pins σ (upd H a o) { s with heap := h', toks := t' } := by
  have hn := I.hok.freshN hp
  have ne : ∀ b u, s.heap.get? b = some u → b ≠ a := fun b u e z => by
    rw [z, hp] at e
    cases e
  refine I.un ⟨fun b u q _ _ _ => k b u q, fun b u q _ _ _ => ⟨u.slots, k b u q⟩, fun b u q n _ => by rw [upd_ne (ne b u q)]; exact n, fun b u q _ => ⟨u, k b u q⟩,
    fun b xs q => by rw [upd_ne (ne_of_none q hn)]; exact q, fun b u xs q => by rw [upd_ne (ne_of_none q hn)]; exact q, fun b ps q => ⟨#[], by rw [upd_ne (ne_of_none q hn), q]; simp⟩⟩ fun b u e => ?_
  by_cases hb : b = a
  · subst hb
    rw [upd_same] at e
    cases e
    exact new
  · rw [upd_ne hb] at e
    exact (I.hok b u e).stay (fun c v _ q => k c v q) (fun c q => by rw [upd_ne (ne_of_none q hn)]; exact q) fun c xs q => by rw [upd_ne (ne_of_none q hn)]; exact q
end
/-! ### for x in text -/
/-! ### all(..), texts compared and cut -/
section
variable {X : Cx}
theorem boolsGet : ∀ {bs : List Bool} {us : List Value}, Vals (bs.map V.bl) us → ∀ (i : Nat) (v : Value), us[i]? = some v → ∃ b, bs[i]? = some b ∧ v = .bool b
  | [], _, .nil, i, v, e => by simp at e
  | b :: bs, _, .cons r t, 0, v, e => by
    obtain rfl : _ = Value.bool b := r
    simp at e
    exact ⟨b, rfl, e.symm⟩
  | b :: bs, _, .cons r t, i + 1, v, e => by
    obtain ⟨c, h1, h2⟩ := boolsGet t i v (by simpa using e)
    exact ⟨c, by simpa using h1, h2⟩
theorem all_range : ∀ (bs : List Bool), ((List.range bs.length).all fun i => (bs[i]?).getD true) = bs.all id := by
  intro bs
  rw [Bool.eq_iff_iff, List.all_eq_true, List.all_eq_true]
  constructor
  · intro h b hb
    obtain ⟨i, hi, rfl⟩ := List.getElem_of_mem hb
    have := h i (List.mem_range.mpr hi)
    rw [List.getElem?_eq_getElem hi] at this
    exact this
  · intro h i hi
    have hi' := List.mem_range.mp hi
    rw [List.getElem?_eq_getElem hi']
    exact h _ (List.getElem_mem hi')
theorem call_all (hc : X.calm = true) : CallR X (.builtin "all") (fun xs H Q => ∃ (p : Addr) (bs : List Bool), xs = [.ref p] ∧ SqL X.K H p (bs.map V.bl) ∧ Q (.bl (bs.all id)) H) := by
  intro pins s σ H xs us Q I r h
  obtain ⟨p, bs, rfl, hS, q⟩ := h
  obtain ⟨u, rfl, ru⟩ := Vals.one r
  cases ru
  obtain ⟨its, rv, pl, hz⟩ := I.list hS
  have hl := pl.isList
  have hlen : bs.length = its.length := by
    have := rv.length
    rw [List.length_map] at this
    exact this
  refine call_all_walk (wpAny_pyIter_list hl ⟨s.heap.objs.size, [s.heap.objs.size, p], [s.heap.objs.size], its.toArray.size, _, _, fun i => (bs[i]?).getD true, rfl,
    Walks.list (A := X.A.in1) (I.ok.hd hc) _ p (Nat.ne_of_lt pl.lt) its.toArray, ⟨⟨_, Heap.get?_push_size _ rfl, rfl, rfl⟩, hl.push _⟩, fun i v s' Q' E' hP hQ => ?_, fun h' tk hk => ?_⟩)
  · obtain ⟨b, e, e2⟩ := boolsGet rv i v (by simpa using hP)
    subst e2
    simp only [e, Option.getD_some] at hQ
    exact wpAny_truthy_bool hQ
  · rw [List.size_toArray, ← hlen, all_range]
    refine ⟨.bl _, H, I.kept (t' := tk) fun b o e => hk b o (fun hm => ?_) (Heap.get?_push_of_some _ e), rfl, q⟩
    rw [List.mem_singleton.mp hm] at e
    exact Nat.lt_irrefl _ (Heap.lt_size e)
end
/-! ### ['a' <= x <= 'z' for x in text] -/
def azB (c : Nat) : Bool := decide (97 ≤ c) && decide (c ≤ 122)
theorem lt_one (a b : Nat) : decide (([a] : List Nat) < [b]) = decide (a < b) := by
  have h : (([a] : List Nat) < [b]) ↔ a < b := by
    constructor
    · intro h
      cases h with
      | rel h => exact h
      | cons h => cases h
    · intro h
      exact List.Lex.rel h
  exact decide_eq_decide.mpr h
section
variable {prog : Program} {w : World} {A : Around} {E : Value → Shared → Prop} {s : Shared}
theorem le_az {x y : Str} {t u : Tok} {Q : Value → Shared → Prop} (h : Q (.bool (!decide (y.cps.toList < x.cps.toList))) s) : wpAny (model prog w) A (compareOp .LtE (.str x t) (.str y u)) Q E s := PySem.P.le_str h
theorem ld_az {s₂ : Shared} {C : Addr} {m : Str → Option Value} {sc : Scope} {env : Env} {n : Str} {pos : Pos} {v : Value} {Q : Value → Shared → Prop} (x : InComp s₂ C m s) (hk : sc.kind = .function) (hl : sc.names.lookup n = some .local)
    (hv : m n = some v) (hd : (n == ("__debug__" : Str)) = false) (h : Q v s) : wpAny (model prog w) A (eval (.Name n pos) (compEnv sc C env)) Q E s := PySem.ldK x hk hl hv h hd
theorem elt_az {scope : Scope} {C : Addr} {env : Env} {m : Str → Option Value} {x : Str} {c : Nat} {u : Tok} {j j2 : Nat} {p1 p2 p3 pos : Pos} (hk : scope.kind = .function) (hx : scope.names.lookup x = some .local) (hd : (x == ("__debug__" : Str)) = false)
    (hn : s.heap.Ns C m) (hm : m x = some (.str ⟨#[c]⟩ u)) :
    wpAny (model prog w) A (eval (.Compare (.Constant (.str "a") j p1) [.LtE, .LtE] [.Name x p2, .Constant (.str "z") j2 p3] pos) (compEnv scope C env)) (fun r s' => r = .bool (azB c) ∧ Keeps s s') E s := by
  have I0 := (InComp.start hn).tok (s.toks + 1)
  have ea : ("a" : Str).cps.toList = [97] := by decide +kernel
  have ez : ("z" : Str).cps.toList = [122] := by decide +kernel
  have e1 : decide (([c] : List Nat) < [97]) = decide (c < 97) := lt_one c 97
  have e2 : decide (([122] : List Nat) < [c]) = decide (122 < c) := lt_one 122 c
  refine Compare_chain (Calls.Constant_str ?_)
  refine chain_link ?_
  refine ld_az I0 hk hx hm hd ?_
  refine le_az ?_
  rw [ea]
  show wpAny (model prog w) A (truthy (.bool (!decide (([c] : List Nat) < [97])))) _ _ _
  rw [e1]
  refine wpAny_truthy_bool ?_
  by_cases h1 : c < 97
  · rw [decide_eq_true h1]
    refine ite_ff ⟨?_, I0.done⟩
    unfold azB
    rw [decide_eq_false (by (first | lia | omega) : ¬ 97 ≤ c)]
    rfl
  · rw [decide_eq_false h1]
    refine ite_tt ?_
    refine chain_last ?_
    refine Calls.Constant_str ?_
    refine le_az ?_
    rw [ez]
    refine ⟨?_, (I0.tok _).done⟩
    show Value.bool (!decide (([122] : List Nat) < [c])) = _
    rw [e2]
    unfold azB
    rw [decide_eq_true (by (first | lia | omega) : 97 ≤ c)]
    by_cases h2 : c ≤ 122
    · rw [decide_eq_true h2, decide_eq_false (by (first | lia | omega))]
      rfl
    · rw [decide_eq_false h2, decide_eq_true (by (first | lia | omega))]
      rfl
end
theorem azVals : ∀ {cs : List Nat} {vs us : List Value}, (∀ (j : Nat) (v : Value), vs[j]? = some v → ∃ (c : Nat) (u : Tok), cs[j]? = some c ∧ v = Value.str ⟨#[c]⟩ u) → vs.length = cs.length → Paired (fun v r => ∃ c u, v = Value.str ⟨#[c]⟩ u ∧ r = Value.bool (azB c)) vs us →
    Vals (cs.map fun c => .bl (azB c)) us
  | [], [], _, _, _, .nil => .nil
  | [], v :: vs, _, _, h, _ => by simp at h
  | c :: cs, [], _, _, h, _ => by simp at h
  | c :: cs, v :: vs, _, hP, hl, .cons hr t => by
    obtain ⟨c', u', e1, e2⟩ := hP 0 v rfl
    obtain ⟨c2, u2, e3, e4⟩ := hr
    simp at e1
    subst e1
    rw [e2] at e3
    injection e3 with e5 _
    injection e5 with e6
    simp at e6
    subst e6
    refine .cons e4 (azVals (fun j v hv => ?_) (by simpa using hl) t)
    obtain ⟨c3, u3, f1, f2⟩ := hP (j + 1) v (by simpa using hv)
    exact ⟨c3, u3, by simpa using f1, f2⟩
section
variable {X : Cx} {iter : Expr} {te : TE} {scope : Scope} {x : Str} {px p1 p2 p3 p4 pos : Pos} {j j2 : Nat}
theorem pe_comp_az (hi : PE X iter te) (hc : X.calm = true) (hfree : ∀ y ∈ scope.names, y.2 ≠ .free) (hcell : ∀ y ∈ scope.names, y.2 ≠ .cell) (hk : scope.kind = .function)
    (hnames : ∀ y ∈ scope.names, y.2 = .local → scope.names.lookup y.1 = some .local) (hx : scope.names.lookup x = some .local) (hd : (x == ("__debug__" : Str)) = false) (hs : ∀ v, foldedSetIterable iter X.env v = pure v) :
    PE X (.ListComp (.Compare (.Constant (.str "a") j p1) [.LtE, .LtE] [.Name x p2, .Constant (.str "z") j2 p3] p4) [⟨.Name x px, iter, [], 0⟩] scope pos)
      (fun σ H Q => te σ H fun v H1 => ∃ z, v = .str z ∧ z.length ≤ sizeLine ∧ ∀ p, H1 p = none → Q (.ref p) (upd H1 p (.lst (z.cps.toList.map fun c => .bl (azB c))))) := by
  intro pins s σ H Q I h
  refine wpAny_ListComp_walk (fun _ => true) (fun v r => ∃ c u, v = Value.str ⟨#[c]⟩ u ∧ r = Value.bool (azB c)) hfree hcell hk hnames hx (thn (hi pins s σ H _ I h) fun v s1 ⟨xv, H1, I1, r1, q1⟩ => ?_) hs
  obtain ⟨z, rfl, hz, q⟩ := q1
  obtain ⟨t, rfl⟩ := r1
  refine wpAny_pyIter_str fun o St W hst => ⟨s1.heap.objs.size, [s1.heap.objs.size], [s1.heap.objs.size], z.cps.size, SignAt z, St, rfl, W X.A (I1.ok.hd hc), hz, hst, fun b hb => ?_, ⟨?_, ?_⟩, ?_⟩
  · show b < (s1.heap.push o).objs.size
    rw [Heap.size_push, List.mem_singleton.mp hb]
    exact Nat.lt_succ_self _
  · intro C i v s3 m3 E' hP hn hm _ _
    exact wpAny_pure ⟨rfl, (InComp.start hn).done⟩
  · intro C i v s3 m3 E' hP hp hn hm _ _
    obtain ⟨c, u, _, e⟩ := hP
    subst e
    exact wpAny_mono (elt_az hk hx hd hn hm) (fun r s4 h4 => ⟨⟨c, u, rfl, h4.1⟩, h4.2⟩) fun _ _ e => e
  · intro D h' tk ys vs hnew hlD hplD hlen hP hF hkp
    have hF' : Paired (fun v r => ∃ c u, v = Value.str ⟨#[c]⟩ u ∧ r = Value.bool (azB c)) vs ys.toList := by
      rw [List.filter_eq_self.mpr (fun _ _ => rfl)] at hF
      exact hF
    have hV := azVals (cs := z.cps.toList) (fun j v hv => by
      obtain ⟨c, u, e1, e2⟩ := hP j v hv
      exact ⟨c, u, by rw [Array.getElem?_toList]; exact e1, e2⟩) (by rw [hlen, Array.length_toList]) hF'
    have up : ∀ b ob, s1.heap.get? b = some ob → h'.get? b = some ob := fun b ob e => hkp b ob (fun hm => by
      rw [List.mem_singleton.mp hm] at e
      exact Nat.lt_irrefl _ (Heap.lt_size e)) (Heap.get?_push_of_some _ e)
    have hD : s1.heap.get? D = none := by
      cases e : s1.heap.get? D with
      | none => rfl
      | some ob =>
        rw [Heap.get?_push_of_some _ e] at hnew
        cases hnew
    obtain ⟨nD, eD⟩ := hplD
    refine ⟨.ref D, _, I1.laidN (a := D) (o := .lst (z.cps.toList.map fun c => .bl (azB c))) (t' := tk) up hD ⟨?_, ys.toList, nD, hV, by rw [Array.toArray_toList]; exact eD⟩, rfl, q D (I1.hok.freshN hD)⟩
    rw [List.length_map, Array.length_toList]
    exact hz
end
end L2

namespace L2
open PySem
theorem bt_all : bootBuiltins "all" = some (.builtin "all") := by decide +kernel
end L2
namespace Fg
open PySem L2 FgM
def tagB (z : Str) : Bool := decide (1 ≤ z.length) && decide (z.length ≤ 8) && z.cps.toList.all azB
def spIsTag : Sp := fun vs H Q _ => ∃ z : Str, vs = [.str z] ∧ z.length ≤ 100000 ∧ ∀ H', Same H H' → Q (.bl (tagB z)) H'
theorem notin_all : ∀ c : _root_.Fin 128, (Builtin.Str.occurrences ABC ⟨#[c.val]⟩ 0 ABC.length 1).isEmpty = !azB c.val := by decide +kernel
theorem notin_az {c : Nat} (h : c < 128) : (Builtin.Str.occurrences ABC ⟨#[c]⟩ 0 ABC.length 1).isEmpty = !azB c := notin_all ⟨c, h⟩
end Fg

/-! for i, x in enumerate(xs) -/
namespace L2
open PySem PySem.Spec PyProof.Rows
end L2

/-! [elt for tg in iter]: the block as a context of its own -/
namespace L2
open PySem PySem.Spec PyProof.Rows
section
variable {prog : Program} {w : World} {A : Around} {s : Shared} {R : Result → Shared → Prop}
abbrev no0 : Value → Shared → Prop := fun _ _ => False
theorem comp_loop0 {elt target iter : Expr} {scope : Scope} {pos : Pos} {it acc : Value} {env : Env} (I : Nat → Shared → Prop)
    (turn : ∀ n s, I n s → wpAny (model prog w) A (pyNext it) (fun r s1 => match r with
      | none => R (.ok .next) s1
      | some v => wpAny (model prog w) A (letOwnedTupleGo target it v) (fun _ s2 => wpAny (model prog w) A (assign target env v) (fun _ s3 => wpAny (model prog w) A (eval elt env) (fun x s4 =>
          wpAny (model prog w) A (call (.builtin "list.append") [acc, x]) (fun _ s5 => ∃ m, m < n ∧ I m s5) no0 s4) no0 s3) no0 s2) no0 s1) no0 s)
    (n : Nat) (h : I n s) : codeAny (model prog w) A (.compLoop (.ListComp elt [⟨target, iter, [], 0⟩] scope pos) 0 it acc env) R s := by
  refine codeAny_loop rfl I (fun n s hI => ?_) n h
  show wpAny _ _ ((compTurn (.ListComp elt [⟨target, iter, [], 0⟩] scope pos) 0 it acc env).onRaise (fun x => do noteFrame x env; theTreesLotGoes x)) _ _ s
  refine wpAny_noted ?_
  rw [compTurn_list1]
  refine wpAny_bind (wpAny_standAt (wpAny_bind (wpAny_mono (turn n s hI) (fun r s1 h1 => ?_) fun _ _ h' => h'.elim)))
  cases r with
  | none => exact wpAny_pure h1
  | some v =>
    refine wpAny_bind (wpAny_mono h1 (fun _ s2 h2 => ?_) fun _ _ h' => h'.elim)
    refine wpAny_bind (wpAny_mono h2 (fun _ s3 h3 => ?_) fun _ _ h' => h'.elim)
    refine wpAny_bind (wpAny_bind (wpAny_mono h3 (fun x s4 h4 => ?_) fun _ _ h' => h'.elim))
    exact wpAny_bind (wpAny_mono h4 (fun _ s5 h5 => wpAny_pure (wpAny_pure ⟨rfl, h5⟩)) fun _ _ h' => h'.elim)
end
/-- the context of a comprehension's block: its frame at C, the cells cl of captured names, the iterator's records fp -/
def cxComp (X : Cx) (N : List Str) (scope : Scope) (cl : List (Str × Addr)) (C : Addr) (fp : List Addr) (s : Shared) (H : Hp) : Cx where
  prog := X.prog
  w := X.w
  K := X.K
  mg := X.mg
  base := X.base
  A := X.A
  N := N
  s₀ := s
  H₀ := H
  env := compEnvC scope cl C X.env
  outer := X.stack
  stack := X.stack
  ex := fp
  fn := fun _ => false
  calm := X.calm
  pn := []
  xe := no0
section
variable {X : Cx} {pins : List (Addr × Obj)} {σ : St} {H : Hp} {s : Shared}
theorem cxComp_ok {N : List Str} {scope : Scope} {cl : List (Str × Addr)} {C : Addr} {fp : List Addr} (I : Inv X pins σ H s) (hk : scope.kind = .function) (hC : s.heap.objs.size ≤ C) (hcl : ∀ x c, cl.lookup x = some c → X.env.cells.lookup x = some c)
    (hhas : ∀ x, ((compEnvC scope cl C X.env).kindOf x = some .cell ∨ (compEnvC scope cl C X.env).kindOf x = some .free) → ∃ c, cl.lookup x = some c)
    (hf : ∀ b ∈ fp, FpOk X pins H b) (hlt : ∀ b ∈ fp, b < s.heap.objs.size) : (cxComp X N scope cl C fp s H).Ok where
  mod := I.ok.mod
  kind := hk
  glob := I.ok.glob
  blt := I.ok.blt
  above := hC
  inj := fun x y c e1 e2 => I.ok.inj x y c (hcl x c e1) (hcl y c e2)
  has := hhas
  cab := fun x c e => by cases e
  hd := I.ok.hd
  frames := I.ok.frames
  stk := .inl rfl
  exf := fun b hb => ⟨fun z => absurd (Nat.lt_of_lt_of_le (hlt b hb) hC) (by rw [show b = C from z]; exact Nat.lt_irrefl _), fun x c e => (hf b hb).2.2.2.2.1 x c (hcl x c e)⟩
  bs := fun b o e => ⟨(I.bs b o e).1, (I.bs b o e).2⟩
  bsz := Nat.le_trans I.ok.bsz I.sz
  noex := fun b o e hb => by
    rcases (hf b hb).2.2.2.1 with z | z
    · exact I.ok.noex b o e z
    · exact absurd (Nat.lt_of_lt_of_le (Heap.lt_size e) (Nat.le_trans I.ok.bsz z)) (Nat.lt_irrefl _)
  exfs := fun b hb hm => by
    rcases List.mem_cons.mp (I.stkSub b hm) with z | z
    · exact (hf b hb).2.1 z
    · exact (hf b hb).2.2.1 z
  funs := I.stack
  frf := I.stkFree
/-- the values of the block's names at its start: the targets' none, the captured ones' as they stand -/
def capσ (σ : St) (k : Nat) (cap : List (Str × Nat)) : St := List.replicate k none ++ cap.map fun p => (σ[p.2]?).getD none
theorem cxComp_start {scope : Scope} {cl : List (Str × Addr)} {fp : List Addr} {tn : List Str} {cap : List (Str × Nat)} {h1 : Heap} (I : Inv X pins σ H s) (hk : scope.kind = .function) (hcl : ∀ x c, cl.lookup x = some c → X.env.cells.lookup x = some c)
    (hhas : ∀ x, ((compEnvC scope cl s.heap.objs.size X.env).kindOf x = some .cell ∨ (compEnvC scope cl s.heap.objs.size X.env).kindOf x = some .free) → ∃ c, cl.lookup x = some c)
    (hf : ∀ b ∈ fp, FpOk X pins H b) (hlt : ∀ b ∈ fp, b < s.heap.objs.size)
    (hcap : ∀ p ∈ cap, X.N[p.2]? = some p.1 ∧ X.env.scope.names.lookup p.1 = some .cell ∧ ((compEnvC scope cl s.heap.objs.size X.env).kindOf p.1 = some .cell ∨ (compEnvC scope cl s.heap.objs.size X.env).kindOf p.1 = some .free))
    (hns : h1.Ns s.heap.objs.size (fun _ => none)) (hkp : ∀ b o, s.heap.get? b = some o → h1.get? b = some o) :
    Inv (cxComp X (tn ++ cap.map (·.1)) scope cl s.heap.objs.size fp s H) [] (capσ σ tn.length cap) H { s with heap := h1 } where
  ok := cxComp_ok I hk (Nat.le_refl _) hcl hhas hf hlt
  os := rfl
  bare := I.bare
  base := Un.kept hkp
  loc := by
    refine ⟨fun _ => none, hns, fun i x v e1 e2 hv => ?_⟩
    unfold capσ at e2
    by_cases hi : i < tn.length
    · rw [List.getElem?_append_left (by rw [List.length_replicate]; exact hi), List.getElem?_replicate, if_pos hi] at e2
      cases e2
    · have hN : (cap.map (·.1))[i - tn.length]? = some x := by
        have : (tn ++ cap.map (·.1))[i]? = some x := e1
        rw [List.getElem?_append_right (by (first | lia | omega))] at this
        exact this
      rw [List.getElem?_append_right (by rw [List.length_replicate]; (first | lia | omega)), List.length_replicate, List.getElem?_map] at e2
      rw [List.getElem?_map] at hN
      cases hp : cap[i - tn.length]? with
      | none => rw [hp] at hN; cases hN
      | some p =>
        rw [hp] at hN e2
        have hx : p.1 = x := Option.some.inj hN
        have he : (σ[p.2]?).getD none = some v := Option.some.inj e2
        obtain ⟨c1, c2, c3⟩ := hcap p (List.mem_of_getElem? hp)
        subst hx
        have hs : σ[p.2]? = some (some v) := by
          cases q : σ[p.2]? with
          | none => rw [q] at he; cases he
          | some z => rw [q] at he; rw [show z = some v from he]
        obtain ⟨m, hn, hl⟩ := I.loc
        obtain ⟨u, r, l⟩ := hl p.2 p.1 v c1 hs (.inr (.inl c2))
        refine ⟨u, r, .inr ⟨c3, ?_⟩⟩
        obtain ⟨c, hc⟩ := hhas p.1 c3
        refine ⟨c, hc, ?_⟩
        rcases l with ⟨l1, _⟩ | ⟨_, c', l2, o, ho, hd⟩
        · have : X.env.kindOf p.1 = some .cell := c2
          rw [this] at l1
          cases l1
        · have : c = c' := Option.some.inj ((hcl p.1 c hc).symm.trans l2)
          subst this
          exact ⟨o, hkp _ _ ho, hd⟩
  cell := fun x c e => by
    obtain ⟨v, o, ho, hd⟩ := I.cell x c (hcl x c e)
    exact ⟨v, o, hkp _ _ ho, hd⟩
  free := I.hok.fresh (Nat.le_refl _)
  freeC := fun x c e => I.freeC x c (hcl x c e)
  pin := fun p hp => by cases hp
  hok := I.hok.kept hkp
  len := by
    unfold capσ
    show _ = (tn ++ cap.map (·.1)).length
    rw [List.length_append, List.length_append, List.length_replicate, List.length_map, List.length_map]
end
end L2

namespace L2
open PySem PySem.Spec PyProof.Rows
/-- a comprehension's reading: W by the turn, a measure, the items so far, the block's names, the heap; p: the list under way -/
def tComp (wi : TI) (k : Nat) (cap : List (Str × Nat)) (g : TG) (te : TE) : TE := fun σ H Q => wi σ H fun J H1 => ∀ p, H1 p = none → ∃ W : Nat → Nat → List V → St → Hp → Prop, (∃ m, W 0 m [] (capσ σ k cap) (upd H1 p (.lst []))) ∧
  ∀ i m ys σc H2, W i m ys σc H2 → H2 p = some (.lst ys) ∧ ((J.stop i H2 ∧ Q (.ref p) H2) ∨ (J.go i H2 ∧ ∀ x H3, J.yld i H2 x H3 → g x σc H3 fun σ3 H4 => te σ3 H4 fun v H5 =>
    H5 p = some (.lst ys) ∧ ys.length < sizeLine ∧ ∃ m', m' < m ∧ W (i + 1) m' (ys ++ [v]) σ3 (upd H5 p (.lst (ys ++ [v])))))
section
variable {X : Cx} {elt iter tg : Expr} {scope : Scope} {pos : Pos} {wi : TI} {g : TG} {te : TE} {cl : List (Str × Addr)}
theorem comp_core0 {pins : List (Addr × Obj)} {σ : St} {H2 : Hp} {s2 : Shared} {it : Addr} {fp : List Addr} {tnn : Nat → Heap → Prop} {J : It} {R : Addr → Hp → Prop} {use : Option (Value → Sem Unit)} {Qp : Value → Shared → Prop} (tn : List Str) (cap : List (Str × Nat)) (hg : ∀ C fp s H, PG (cxComp X (tn ++ cap.map (·.1)) scope cl C fp s H) tg g) (he : ∀ C fp s H, PE (cxComp X (tn ++ cap.map (·.1)) scope cl C fp s H) elt te) (hc : X.calm = true) (hcell : ∀ y ∈ scope.names, y.2 ≠ .cell) (hk : scope.kind = .function) (hcl : ∀ x c, cl.lookup x = some c → X.env.cells.lookup x = some c) (hhas : ∀ C x, ((compEnvC scope cl C X.env).kindOf x = some .cell ∨ (compEnvC scope cl C X.env).kindOf x = some .free) → ∃ c, cl.lookup x = some c) (hcap : ∀ C, ∀ p ∈ cap, X.N[p.2]? = some p.1 ∧ X.env.scope.names.lookup p.1 = some .cell ∧ ((compEnvC scope cl C X.env).kindOf p.1 = some .cell ∨ (compEnvC scope cl C X.env).kindOf p.1 = some .free))
    (I2 : Inv X pins σ H2 s2) (T : Turn X.prog X.w X.K tg J fp it tnn) (st2 : tnn 0 s2.heap) (f2 : ∀ b ∈ fp, FpOk X pins H2 b) (q2 : ∀ p, H2 p = none → ∃ W : Nat → Nat → List V → St → Hp → Prop, (∃ m, W 0 m [] (capσ σ tn.length cap) (upd H2 p (.lst []))) ∧
  ∀ i m ys σc H2, W i m ys σc H2 → H2 p = some (.lst ys) ∧ ((J.stop i H2 ∧ R p H2) ∨ (J.go i H2 ∧ ∀ x H3, J.yld i H2 x H3 → g x σc H3 fun σ3 H4 => te σ3 H4 fun v H5 => H5 p = some (.lst ys) ∧ ys.length < sizeLine ∧ ∃ m', m' < m ∧ W (i + 1) m' (ys ++ [v]) σ3 (upd H5 p (.lst (ys ++ [v]))))))
    (hfin : ∀ (s3 : Shared) (H3 : Hp), Inv X pins σ H3 s3 → (∀ b ∈ fp, FpOk X pins H3 b) → ∀ (acc : Addr) (σ6 : St) (H6 : Hp) (s6 : Shared), Inv (cxComp X (tn ++ cap.map (·.1)) scope cl s3.heap.objs.size fp s3 H3) [] σ6 H6 s6 → R acc H6 → compPost (model X.prog X.w) X.A X.xe use Qp (.ref acc) s3.heap.objs.size (.ok .next) s6) :
    wpAny (model X.prog X.w) X.A (newList []) (fun acc s₃ => wpAny (model X.prog X.w) X.A (newFunctionEnv scope X.env.globals cl [] X.env.qual none Value.none (some X.env)) (fun cenv s₄ => codeAny (model X.prog X.w) X.A (Code.compStart (.ListComp elt [⟨tg, iter, [], 0⟩] scope pos) 0 (Value.ref it) acc { cenv with scope := relabel scope X.env }) (compPost (model X.prog X.w) X.A X.xe use Qp acc cenv.locals) s₄) X.xe s₃) X.xe s2 := by
  have fresh : H2 s2.heap.objs.size = none := I2.fresh
  obtain ⟨W, ⟨m0, w0⟩, turn⟩ := q2 s2.heap.objs.size fresh
  have lt2 : ∀ b ∈ fp, b < s2.heap.objs.size := fun b hb => by
    obtain ⟨o, ho, _⟩ := T.obj _ _ st2 b hb
    exact Heap.lt_size ho
  have I3 : Inv X pins σ (upd H2 s2.heap.objs.size (.lst [])) { s2 with heap := s2.heap.push { cls := .type "list", data := .seq ([] : List Value).toArray } } := I2.lnew (its := []) (t' := s2.toks) .nil (Nat.zero_le _)
  refine wpAny_newObj_type (wpAny_newFunctionEnv hcell (by intro y hy; simp at hy) (fun h1 hns1 hsb1 => ?_) hk)
  dsimp only at hns1 hsb1 ⊢
  generalize hS3 : ({ s2 with heap := s2.heap.push { cls := .type "list", dict := none, data := .seq ([] : List Value).toArray } } : Shared) = s3 at I3
  have hh3 : s2.heap.push { cls := .type "list", dict := none, data := .seq ([] : List Value).toArray } = s3.heap := by rw [← hS3]
  rw [hh3] at hns1 hsb1 ⊢
  have sz3 : s3.heap.objs.size = s2.heap.objs.size + 1 := by rw [← hh3, Heap.size_push]
  have lt3 : ∀ b ∈ fp, b < s3.heap.objs.size := fun b hb => Nat.lt_of_lt_of_le (lt2 b hb) (by rw [sz3]; exact Nat.le_succ _)
  have f3 : ∀ b ∈ fp, FpOk X pins (upd H2 s2.heap.objs.size (.lst [])) b := fun b hb => ⟨by rw [upd_ne (Nat.ne_of_lt (lt2 b hb))]; exact (f2 b hb).1, (f2 b hb).2⟩
  have keep3 : ∀ b o, s3.heap.get? b = some o → h1.get? b = some o := fun b o q => hsb1.extBut b o (Nat.ne_of_lt (Heap.lt_size q)) (Heap.get?_push_of_some _ q)
  have st3 : tnn 0 h1 := T.keep _ _ _ st2 fun b hb o q => keep3 b o (by rw [← hh3]; exact Heap.get?_push_of_some _ q)
  have I4 := (cxComp_start (tn := tn) I3 hk hcl (hhas _) f3 lt3 (hcap _) hns1 keep3).tok (s2.toks + ([] : List (Str × Value)).length)
  have loop : codeAny (model X.prog X.w) X.A (.compLoop (.ListComp elt [⟨tg, iter, [], 0⟩] scope pos) 0 (.ref it) (.ref s2.heap.objs.size) (compEnvC scope cl s3.heap.objs.size X.env))
      (compPost (model X.prog X.w) X.A X.xe use Qp (.ref s2.heap.objs.size) s3.heap.objs.size) { s3 with heap := h1, toks := s2.toks + ([] : List (Str × Value)).length } := by
    refine comp_loop0 (fun n s' => ∃ i ys σ' H', Inv (cxComp X (tn ++ cap.map (·.1)) scope cl s3.heap.objs.size fp s3 (upd H2 s2.heap.objs.size (.lst []))) [] σ' H' s' ∧ tnn i s'.heap ∧ (∀ b ∈ fp, H' b = none) ∧ W i n ys σ' H') ?_ m0
      ⟨0, [], _, _, I4, st3, fun b hb => (f3 b hb).1, w0⟩
    rintro n s5 ⟨i, ys, σ5, H5, I5, st5, fr5, w5⟩
    obtain ⟨hD, alt⟩ := turn i n ys σ5 H5 w5
    have stat : ∀ {H' : Hp}, (∀ b ∈ fp, H' b = none) → ∀ b ∈ fp, FpOk (cxComp X (tn ++ cap.map (·.1)) scope cl s3.heap.objs.size fp s3 (upd H2 s2.heap.objs.size (.lst []))) [] H' b :=
      fun hn b hb => ⟨hn b hb, (I4.ok.exf b hb).1, I4.ok.exfs b hb, .inl hb, (I4.ok.exf b hb).2, fun p hp => by cases hp⟩
    rcases alt with ⟨stop, qn⟩ | ⟨go, step⟩
    · refine thn (T.done (cxComp X (tn ++ cap.map (·.1)) scope cl s3.heap.objs.size fp s3 (upd H2 s2.heap.objs.size (.lst []))) rfl rfl rfl hc i [] s5 σ5 H5 no0 I5 (stat fr5) st5 stop) fun r s6 ⟨hr, I6⟩ => ?_
      subst hr
      exact hfin s3 _ I3 f3 _ σ5 H5 s6 I6 qn
    · refine thn (T.item (cxComp X (tn ++ cap.map (·.1)) scope cl s3.heap.objs.size fp s3 (upd H2 s2.heap.objs.size (.lst []))) rfl rfl rfl hc i [] s5 σ5 H5 no0 I5 (stat fr5) st5 go) fun r s6 ⟨u, hr, h6⟩ => ?_
      subst hr
      refine thn h6 fun _ s7 ⟨x, H7, I7, r7, y7, st7, fr7⟩ => ?_
      have I7' := I7.pinned (stat fr7) (T.obj _ _ st7)
      refine thn (hg _ _ _ _ _ s7 σ5 H7 x u _ I7' r7 (step x H7 y7)) fun _ s8 ⟨σ8, H8, I8, q8⟩ => ?_
      refine thn (he _ _ _ _ _ s8 σ8 H8 _ I8 q8) fun xv s9 ⟨v9, H9, I9, r9, q9⟩ => ?_
      obtain ⟨hD9, hl9, m', hm', w9⟩ := q9
      refine thn (mt_append _ s9 σ8 H9 (.ref s2.heap.objs.size) [v9] (.ref s2.heap.objs.size) [xv] (fun z H' => z = .non ∧ H' = upd H9 s2.heap.objs.size (.lst (ys ++ [v9]))) I9 rfl (.cons r9 .nil)
        ⟨s2.heap.objs.size, ys, v9, rfl, rfl, hD9, hl9, rfl, rfl⟩) fun z s10 ⟨zv, H10, I10, _, _, eH⟩ => ?_
      subst eH
      refine ⟨m', hm', i + 1, ys ++ [v9], σ8, _, I10.unpinned, T.keep _ _ _ st7 fun b hb o q => (I10.pin (b, o) (List.mem_append_right _ (List.mem_append_right _ (mem_pinsAt hb q)))).1, fun b hb => ?_, w9⟩
      obtain ⟨o, q, d⟩ := T.obj _ _ st7 b hb
      exact (I10.pin (b, o) (List.mem_append_right _ (List.mem_append_right _ (mem_pinsAt hb q)))).2.1
  subst hS3
  exact codeAny_compStart_list loop (T.self X.A 0 _ _ _ st3 loop)
theorem pe_comp (tn : List Str) (cap : List (Str × Nat)) (hi : PI X tg iter wi) (hg : ∀ C fp s H, PG (cxComp X (tn ++ cap.map (·.1)) scope cl C fp s H) tg g) (he : ∀ C fp s H, PE (cxComp X (tn ++ cap.map (·.1)) scope cl C fp s H) elt te)
    (hc : X.calm = true) (hclos : closureFor scope X.env = pure cl) (hcell : ∀ y ∈ scope.names, y.2 ≠ .cell) (hk : scope.kind = .function) (hnames : ∀ y ∈ scope.names, y.2 = .local → scope.names.lookup y.1 = some .local)
    (hcl : ∀ x c, cl.lookup x = some c → X.env.cells.lookup x = some c)
    (hhas : ∀ C x, ((compEnvC scope cl C X.env).kindOf x = some .cell ∨ (compEnvC scope cl C X.env).kindOf x = some .free) → ∃ c, cl.lookup x = some c)
    (hcap : ∀ C, ∀ p ∈ cap, X.N[p.2]? = some p.1 ∧ X.env.scope.names.lookup p.1 = some .cell ∧ ((compEnvC scope cl C X.env).kindOf p.1 = some .cell ∨ (compEnvC scope cl C X.env).kindOf p.1 = some .free))
    (hs : ∀ v, foldedSetIterable iter X.env v = pure v) : PE X (.ListComp elt [⟨tg, iter, [], 0⟩] scope pos) (tComp wi tn.length cap g te) := by
  intro pins s σ H Q I h
  rw [eval_ListComp]
  refine wpAny_comprehension_free (use := none) rfl hs hclos hk hnames (thn (hi pins s σ H _ I h) fun v s1 h1 => thn h1 fun itv s2 h2 => ?_)
  obtain ⟨it, fp, tnn, J, H2, e, I2, T, st2, f2, q2⟩ := h2
  subst e
  refine comp_core0 (R := fun p H6 => Q (.ref p) H6) tn cap hg he hc hcell hk hcl hhas hcap I2 T st2 f2 q2 fun s3 H3 I3 f3 acc σ6 H6 s6 I6 q6 => ?_
  obtain ⟨m, hn, _⟩ := I6.loc
  refine ⟨m, hn, fun h' sb => ?_⟩
  have nC : ∀ b o, s3.heap.get? b = some o → b ≠ s3.heap.objs.size := fun b o q => Nat.ne_of_lt (Heap.lt_size q)
  have u : Un (frs X.stack) fp H3 H6 s3.heap h' := by
    have u0 := I6.base
    refine ⟨fun b o q n hb hx => (sb.2 b (nC b o q)).trans (u0.keep b o q n hb hx), fun b o q n hb hx => ?_, u0.free, fun b o q hx => ?_, u0.tups, u0.frzs, u0.tbls⟩
    · obtain ⟨sl, e⟩ := u0.slot b o q n hb hx
      exact ⟨sl, (sb.2 b (nC b o q)).trans e⟩
    · obtain ⟨o', e⟩ := u0.there b o q hx
      exact ⟨o', (sb.2 b (nC b o q)).trans e⟩
  have free6 : H6 s3.heap.objs.size = none := I6.free
  have ok6 : HOk X.prog X.w H6 h' := fun b o q => (I6.hok b o q).stay (fun c v hcv r => (sb.2 c (by
    rcases hcv with z | z
    · rw [z]
      exact ne_of_none q free6
    · exact ne_of_none z free6)).trans r) (fun _ q => q) fun _ _ q => q
  have I' := I3.call (g' := s6.gens) (d' := s6.drawn) (t' := s6.toks) (ch := fp) u ok6 I6.bare fun b hb => ⟨(f3 b hb).2.2.2.1, (f3 b hb).2.1, (f3 b hb).2.2.2.2.1, (f3 b hb).2.2.2.2.2⟩
  have e : ({ s6 with heap := h' } : Shared) = { s3 with heap := h', gens := s6.gens, drawn := s6.drawn, toks := s6.toks } := by
    have ho : s6.os = s3.os := I6.os
    obtain ⟨a1, a2, a3, a4, a5⟩ := s6
    obtain ⟨b1, b2, b3, b4, b5⟩ := s3
    simp only at ho
    subst ho
    rfl
  rw [e]
  exact ⟨.ref _, H6, I', rfl, q6⟩
end
end L2

/-! [elt for tg in iter if ct] -/
namespace L2
open PySem PySem.Spec PyProof.Rows
section
variable {prog : Program} {w : World} {A : Around} {s : Shared} {R : Result → Shared → Prop}
theorem comp_loop1 {elt ct target iter : Expr} {scope : Scope} {pos : Pos} {it acc : Value} {env : Env} (I : Nat → Shared → Prop)
    (turn : ∀ n s, I n s → wpAny (model prog w) A (pyNext it) (fun r s1 => match r with
      | none => R (.ok .next) s1
      | some v => wpAny (model prog w) A (letOwnedTupleGo target it v) (fun _ s2 => wpAny (model prog w) A (assign target env v) (fun _ s3 => wpAny (model prog w) A (isTrue ct env (eval ct env)) (fun ok s3' =>
          if ok = true then wpAny (model prog w) A (eval elt env) (fun x s4 =>
          wpAny (model prog w) A (call (.builtin "list.append") [acc, x]) (fun _ s5 => ∃ m, m < n ∧ I m s5) no0 s4) no0 s3' else ∃ m, m < n ∧ I m s3') no0 s3) no0 s2) no0 s1) no0 s)
    (n : Nat) (h : I n s) : codeAny (model prog w) A (.compLoop (.ListComp elt [⟨target, iter, [ct], 0⟩] scope pos) 0 it acc env) R s := by
  refine codeAny_loop rfl I (fun n s hI => ?_) n h
  show wpAny _ _ ((compTurn (.ListComp elt [⟨target, iter, [ct], 0⟩] scope pos) 0 it acc env).onRaise (fun x => do noteFrame x env; theTreesLotGoes x)) _ _ s
  refine wpAny_noted ?_
  rw [compTurn_list]
  refine wpAny_bind (wpAny_standAt (wpAny_bind (wpAny_mono (turn n s hI) (fun r s1 h1 => ?_) fun _ _ h' => h'.elim)))
  cases r with
  | none => exact wpAny_pure h1
  | some v =>
    refine wpAny_bind (wpAny_mono h1 (fun _ s2 h2 => ?_) fun _ _ h' => h'.elim)
    refine wpAny_bind (wpAny_mono h2 (fun _ s3 h3 => ?_) fun _ _ h' => h'.elim)
    refine wpAny_bind (wpAny_tests_one (wpAny_mono h3 (fun ok s3' h3' => ?_) fun _ _ h' => h'.elim))
    cases ok with
    | true =>
      simp only [if_true] at h3' ⊢
      refine wpAny_bind (wpAny_bind (wpAny_mono h3' (fun x s4 h4 => ?_) fun _ _ h' => h'.elim))
      exact wpAny_bind (wpAny_mono h4 (fun _ s5 h5 => wpAny_pure (wpAny_pure ⟨rfl, h5⟩)) fun _ _ h' => h'.elim)
    | false =>
      simp only [Bool.false_eq_true, if_false] at h3' ⊢
      exact wpAny_pure ⟨rfl, h3'⟩
end
/-- a comprehension's reading with a test: W by the turn, a measure, the items so far, the block's names, the heap; p: the list under way -/
def tCompT (wi : TI) (k : Nat) (cap : List (Str × Nat)) (g : TG) (tt : TT) (te : TE) : TE := fun σ H Q => wi σ H fun J H1 => ∀ p, H1 p = none → ∃ W : Nat → Nat → List V → St → Hp → Prop, (∃ m, W 0 m [] (capσ σ k cap) (upd H1 p (.lst []))) ∧
  ∀ i m ys σc H2, W i m ys σc H2 → H2 p = some (.lst ys) ∧ ((J.stop i H2 ∧ Q (.ref p) H2) ∨ (J.go i H2 ∧ ∀ x H3, J.yld i H2 x H3 → g x σc H3 fun σ3 H4 => tt σ3 H4 fun b H4' => if b = true then te σ3 H4' fun v H5 =>
    H5 p = some (.lst ys) ∧ ys.length < sizeLine ∧ ∃ m', m' < m ∧ W (i + 1) m' (ys ++ [v]) σ3 (upd H5 p (.lst (ys ++ [v])))
    else ∃ m', m' < m ∧ W (i + 1) m' ys σ3 H4'))
section
variable {X : Cx} {elt ct iter tg : Expr} {scope : Scope} {pos : Pos} {wi : TI} {g : TG} {tt : TT} {te : TE} {cl : List (Str × Addr)}
theorem comp_core1 {pins : List (Addr × Obj)} {σ : St} {H2 : Hp} {s2 : Shared} {it : Addr} {fp : List Addr} {tnn : Nat → Heap → Prop} {J : It} {R : Addr → Hp → Prop} {use : Option (Value → Sem Unit)} {Qp : Value → Shared → Prop} (tn : List Str) (cap : List (Str × Nat)) (hg : ∀ C fp s H, PG (cxComp X (tn ++ cap.map (·.1)) scope cl C fp s H) tg g) (ht : ∀ C fp s H, PT (cxComp X (tn ++ cap.map (·.1)) scope cl C fp s H) ct tt) (he : ∀ C fp s H, PE (cxComp X (tn ++ cap.map (·.1)) scope cl C fp s H) elt te) (hc : X.calm = true) (hcell : ∀ y ∈ scope.names, y.2 ≠ .cell) (hk : scope.kind = .function) (hcl : ∀ x c, cl.lookup x = some c → X.env.cells.lookup x = some c) (hhas : ∀ C x, ((compEnvC scope cl C X.env).kindOf x = some .cell ∨ (compEnvC scope cl C X.env).kindOf x = some .free) → ∃ c, cl.lookup x = some c) (hcap : ∀ C, ∀ p ∈ cap, X.N[p.2]? = some p.1 ∧ X.env.scope.names.lookup p.1 = some .cell ∧ ((compEnvC scope cl C X.env).kindOf p.1 = some .cell ∨ (compEnvC scope cl C X.env).kindOf p.1 = some .free))
    (I2 : Inv X pins σ H2 s2) (T : Turn X.prog X.w X.K tg J fp it tnn) (st2 : tnn 0 s2.heap) (f2 : ∀ b ∈ fp, FpOk X pins H2 b) (q2 : ∀ p, H2 p = none → ∃ W : Nat → Nat → List V → St → Hp → Prop, (∃ m, W 0 m [] (capσ σ tn.length cap) (upd H2 p (.lst []))) ∧
  ∀ i m ys σc H2, W i m ys σc H2 → H2 p = some (.lst ys) ∧ ((J.stop i H2 ∧ R p H2) ∨ (J.go i H2 ∧ ∀ x H3, J.yld i H2 x H3 → g x σc H3 fun σ3 H4 => tt σ3 H4 fun b H4' => if b = true then te σ3 H4' fun v H5 => H5 p = some (.lst ys) ∧ ys.length < sizeLine ∧ ∃ m', m' < m ∧ W (i + 1) m' (ys ++ [v]) σ3 (upd H5 p (.lst (ys ++ [v]))) else ∃ m', m' < m ∧ W (i + 1) m' ys σ3 H4')))
    (hfin : ∀ (s3 : Shared) (H3 : Hp), Inv X pins σ H3 s3 → (∀ b ∈ fp, FpOk X pins H3 b) → ∀ (acc : Addr) (σ6 : St) (H6 : Hp) (s6 : Shared), Inv (cxComp X (tn ++ cap.map (·.1)) scope cl s3.heap.objs.size fp s3 H3) [] σ6 H6 s6 → R acc H6 → compPost (model X.prog X.w) X.A X.xe use Qp (.ref acc) s3.heap.objs.size (.ok .next) s6) :
    wpAny (model X.prog X.w) X.A (newList []) (fun acc s₃ => wpAny (model X.prog X.w) X.A (newFunctionEnv scope X.env.globals cl [] X.env.qual none Value.none (some X.env)) (fun cenv s₄ => codeAny (model X.prog X.w) X.A (Code.compStart (.ListComp elt [⟨tg, iter, [ct], 0⟩] scope pos) 0 (Value.ref it) acc { cenv with scope := relabel scope X.env }) (compPost (model X.prog X.w) X.A X.xe use Qp acc cenv.locals) s₄) X.xe s₃) X.xe s2 := by
  have fresh : H2 s2.heap.objs.size = none := I2.fresh
  obtain ⟨W, ⟨m0, w0⟩, turn⟩ := q2 s2.heap.objs.size fresh
  have lt2 : ∀ b ∈ fp, b < s2.heap.objs.size := fun b hb => by
    obtain ⟨o, ho, _⟩ := T.obj _ _ st2 b hb
    exact Heap.lt_size ho
  have I3 : Inv X pins σ (upd H2 s2.heap.objs.size (.lst [])) { s2 with heap := s2.heap.push { cls := .type "list", data := .seq ([] : List Value).toArray } } := I2.lnew (its := []) (t' := s2.toks) .nil (Nat.zero_le _)
  refine wpAny_newObj_type (wpAny_newFunctionEnv hcell (by intro y hy; simp at hy) (fun h1 hns1 hsb1 => ?_) hk)
  dsimp only at hns1 hsb1 ⊢
  generalize hS3 : ({ s2 with heap := s2.heap.push { cls := .type "list", dict := none, data := .seq ([] : List Value).toArray } } : Shared) = s3 at I3
  have hh3 : s2.heap.push { cls := .type "list", dict := none, data := .seq ([] : List Value).toArray } = s3.heap := by rw [← hS3]
  rw [hh3] at hns1 hsb1 ⊢
  have sz3 : s3.heap.objs.size = s2.heap.objs.size + 1 := by rw [← hh3, Heap.size_push]
  have lt3 : ∀ b ∈ fp, b < s3.heap.objs.size := fun b hb => Nat.lt_of_lt_of_le (lt2 b hb) (by rw [sz3]; exact Nat.le_succ _)
  have f3 : ∀ b ∈ fp, FpOk X pins (upd H2 s2.heap.objs.size (.lst [])) b := fun b hb => ⟨by rw [upd_ne (Nat.ne_of_lt (lt2 b hb))]; exact (f2 b hb).1, (f2 b hb).2⟩
  have keep3 : ∀ b o, s3.heap.get? b = some o → h1.get? b = some o := fun b o q => hsb1.extBut b o (Nat.ne_of_lt (Heap.lt_size q)) (Heap.get?_push_of_some _ q)
  have st3 : tnn 0 h1 := T.keep _ _ _ st2 fun b hb o q => keep3 b o (by rw [← hh3]; exact Heap.get?_push_of_some _ q)
  have I4 := (cxComp_start (tn := tn) I3 hk hcl (hhas _) f3 lt3 (hcap _) hns1 keep3).tok (s2.toks + ([] : List (Str × Value)).length)
  have loop : codeAny (model X.prog X.w) X.A (.compLoop (.ListComp elt [⟨tg, iter, [ct], 0⟩] scope pos) 0 (.ref it) (.ref s2.heap.objs.size) (compEnvC scope cl s3.heap.objs.size X.env))
      (compPost (model X.prog X.w) X.A X.xe use Qp (.ref s2.heap.objs.size) s3.heap.objs.size) { s3 with heap := h1, toks := s2.toks + ([] : List (Str × Value)).length } := by
    refine comp_loop1 (fun n s' => ∃ i ys σ' H', Inv (cxComp X (tn ++ cap.map (·.1)) scope cl s3.heap.objs.size fp s3 (upd H2 s2.heap.objs.size (.lst []))) [] σ' H' s' ∧ tnn i s'.heap ∧ (∀ b ∈ fp, H' b = none) ∧ W i n ys σ' H') ?_ m0
      ⟨0, [], _, _, I4, st3, fun b hb => (f3 b hb).1, w0⟩
    rintro n s5 ⟨i, ys, σ5, H5, I5, st5, fr5, w5⟩
    obtain ⟨hD, alt⟩ := turn i n ys σ5 H5 w5
    have stat : ∀ {H' : Hp}, (∀ b ∈ fp, H' b = none) → ∀ b ∈ fp, FpOk (cxComp X (tn ++ cap.map (·.1)) scope cl s3.heap.objs.size fp s3 (upd H2 s2.heap.objs.size (.lst []))) [] H' b :=
      fun hn b hb => ⟨hn b hb, (I4.ok.exf b hb).1, I4.ok.exfs b hb, .inl hb, (I4.ok.exf b hb).2, fun p hp => by cases hp⟩
    rcases alt with ⟨stop, qn⟩ | ⟨go, step⟩
    · refine thn (T.done (cxComp X (tn ++ cap.map (·.1)) scope cl s3.heap.objs.size fp s3 (upd H2 s2.heap.objs.size (.lst []))) rfl rfl rfl hc i [] s5 σ5 H5 no0 I5 (stat fr5) st5 stop) fun r s6 ⟨hr, I6⟩ => ?_
      subst hr
      exact hfin s3 _ I3 f3 _ σ5 H5 s6 I6 qn
    · refine thn (T.item (cxComp X (tn ++ cap.map (·.1)) scope cl s3.heap.objs.size fp s3 (upd H2 s2.heap.objs.size (.lst []))) rfl rfl rfl hc i [] s5 σ5 H5 no0 I5 (stat fr5) st5 go) fun r s6 ⟨u, hr, h6⟩ => ?_
      subst hr
      refine thn h6 fun _ s7 ⟨x, H7, I7, r7, y7, st7, fr7⟩ => ?_
      have I7' := I7.pinned (stat fr7) (T.obj _ _ st7)
      refine thn (hg _ _ _ _ _ s7 σ5 H7 x u _ I7' r7 (step x H7 y7)) fun _ s8 ⟨σ8, H8, I8, q8⟩ => ?_
      refine thn (ht _ _ _ _ _ s8 σ8 H8 _ I8 q8) fun ok s8' ⟨H8', I8', q8'⟩ => ?_
      cases ok with
      | true =>
        simp only [if_true] at q8' ⊢
        refine thn (he _ _ _ _ _ s8' σ8 H8' _ I8' q8') fun xv s9 ⟨v9, H9, I9, r9, q9⟩ => ?_
        obtain ⟨hD9, hl9, m', hm', w9⟩ := q9
        refine thn (mt_append _ s9 σ8 H9 (.ref s2.heap.objs.size) [v9] (.ref s2.heap.objs.size) [xv] (fun z H' => z = .non ∧ H' = upd H9 s2.heap.objs.size (.lst (ys ++ [v9]))) I9 rfl (.cons r9 .nil)
          ⟨s2.heap.objs.size, ys, v9, rfl, rfl, hD9, hl9, rfl, rfl⟩) fun z s10 ⟨zv, H10, I10, _, _, eH⟩ => ?_
        subst eH
        refine ⟨m', hm', i + 1, ys ++ [v9], σ8, _, I10.unpinned, T.keep _ _ _ st7 fun b hb o q => (I10.pin (b, o) (List.mem_append_right _ (List.mem_append_right _ (mem_pinsAt hb q)))).1, fun b hb => ?_, w9⟩
        obtain ⟨o, q, d⟩ := T.obj _ _ st7 b hb
        exact (I10.pin (b, o) (List.mem_append_right _ (List.mem_append_right _ (mem_pinsAt hb q)))).2.1
      | false =>
        simp only [Bool.false_eq_true, if_false] at q8' ⊢
        obtain ⟨m', hm', w9⟩ := q8'
        refine ⟨m', hm', i + 1, ys, σ8, _, I8'.unpinned, T.keep _ _ _ st7 fun b hb o q => (I8'.pin (b, o) (List.mem_append_right _ (List.mem_append_right _ (mem_pinsAt hb q)))).1, fun b hb => ?_, w9⟩
        obtain ⟨o, q, d⟩ := T.obj _ _ st7 b hb
        exact (I8'.pin (b, o) (List.mem_append_right _ (List.mem_append_right _ (mem_pinsAt hb q)))).2.1
  subst hS3
  exact codeAny_compStart_list loop (T.self X.A 0 _ _ _ st3 loop)
theorem pe_comp_if (tn : List Str) (cap : List (Str × Nat)) (hi : PI X tg iter wi) (hg : ∀ C fp s H, PG (cxComp X (tn ++ cap.map (·.1)) scope cl C fp s H) tg g) (ht : ∀ C fp s H, PT (cxComp X (tn ++ cap.map (·.1)) scope cl C fp s H) ct tt) (he : ∀ C fp s H, PE (cxComp X (tn ++ cap.map (·.1)) scope cl C fp s H) elt te)
    (hc : X.calm = true) (hclos : closureFor scope X.env = pure cl) (hcell : ∀ y ∈ scope.names, y.2 ≠ .cell) (hk : scope.kind = .function) (hnames : ∀ y ∈ scope.names, y.2 = .local → scope.names.lookup y.1 = some .local)
    (hcl : ∀ x c, cl.lookup x = some c → X.env.cells.lookup x = some c)
    (hhas : ∀ C x, ((compEnvC scope cl C X.env).kindOf x = some .cell ∨ (compEnvC scope cl C X.env).kindOf x = some .free) → ∃ c, cl.lookup x = some c)
    (hcap : ∀ C, ∀ p ∈ cap, X.N[p.2]? = some p.1 ∧ X.env.scope.names.lookup p.1 = some .cell ∧ ((compEnvC scope cl C X.env).kindOf p.1 = some .cell ∨ (compEnvC scope cl C X.env).kindOf p.1 = some .free))
    (hs : ∀ v, foldedSetIterable iter X.env v = pure v) : PE X (.ListComp elt [⟨tg, iter, [ct], 0⟩] scope pos) (tCompT wi tn.length cap g tt te) := by
  intro pins s σ H Q I h
  rw [eval_ListComp]
  refine wpAny_comprehension_free (use := none) rfl hs hclos hk hnames (thn (hi pins s σ H _ I h) fun v s1 h1 => thn h1 fun itv s2 h2 => ?_)
  obtain ⟨it, fp, tnn, J, H2, e, I2, T, st2, f2, q2⟩ := h2
  subst e
  refine comp_core1 (R := fun p H6 => Q (.ref p) H6) tn cap hg ht he hc hcell hk hcl hhas hcap I2 T st2 f2 q2 fun s3 H3 I3 f3 acc σ6 H6 s6 I6 q6 => ?_
  obtain ⟨m, hn, _⟩ := I6.loc
  refine ⟨m, hn, fun h' sb => ?_⟩
  have nC : ∀ b o, s3.heap.get? b = some o → b ≠ s3.heap.objs.size := fun b o q => Nat.ne_of_lt (Heap.lt_size q)
  have u : Un (frs X.stack) fp H3 H6 s3.heap h' := by
    have u0 := I6.base
    refine ⟨fun b o q n hb hx => (sb.2 b (nC b o q)).trans (u0.keep b o q n hb hx), fun b o q n hb hx => ?_, u0.free, fun b o q hx => ?_, u0.tups, u0.frzs, u0.tbls⟩
    · obtain ⟨sl, e⟩ := u0.slot b o q n hb hx
      exact ⟨sl, (sb.2 b (nC b o q)).trans e⟩
    · obtain ⟨o', e⟩ := u0.there b o q hx
      exact ⟨o', (sb.2 b (nC b o q)).trans e⟩
  have free6 : H6 s3.heap.objs.size = none := I6.free
  have ok6 : HOk X.prog X.w H6 h' := fun b o q => (I6.hok b o q).stay (fun c v hcv r => (sb.2 c (by
    rcases hcv with z | z
    · rw [z]
      exact ne_of_none q free6
    · exact ne_of_none z free6)).trans r) (fun _ q => q) fun _ _ q => q
  have I' := I3.call (g' := s6.gens) (d' := s6.drawn) (t' := s6.toks) (ch := fp) u ok6 I6.bare fun b hb => ⟨(f3 b hb).2.2.2.1, (f3 b hb).2.1, (f3 b hb).2.2.2.2.1, (f3 b hb).2.2.2.2.2⟩
  have e : ({ s6 with heap := h' } : Shared) = { s3 with heap := h', gens := s6.gens, drawn := s6.drawn, toks := s6.toks } := by
    have ho : s6.os = s3.os := I6.os
    obtain ⟨a1, a2, a3, a4, a5⟩ := s6
    obtain ⟨b1, b2, b3, b4, b5⟩ := s3
    simp only at ho
    subst ho
    rfl
  rw [e]
  exact ⟨.ref _, H6, I', rfl, q6⟩
end
end L2

/-! < of lists and of tuples, place by place, of data at any depth -/
namespace PySem.SeqAt
open AutoSeq1 (wpAny_loadPart')
open MeetsSeq MeetsSeq2 MeetsSeq3 SeqRoads2
end PySem.SeqAt

/-! < of data: one relation for ints, texts, lists and tuples of them -/
namespace L2
open PySem PySem.Spec PyProof.Rows PySem.SeqAt
end L2

/-! min(l, key=f, default=d) over a list, the key a def of the text -/
namespace L2
open PySem PySem.Spec PyProof.Rows PySem.SeqAt
end L2
namespace L2
open PySem PySem.Spec PyProof.Rows PySem.SeqAt
end L2
namespace L2
open PySem PySem.Spec PyProof.Rows PySem.SeqAt
end L2
namespace L2
open PySem PySem.Spec PyProof.Rows PySem.SeqAt
end L2

/-! the order of groves: the promises of rank, before, least_among -/
namespace Fg
open PySem L2 FgM PySem.SeqAt
theorem eqv_str (x y : Str) : PyData.eqv (.str x) (.str y) = decide (x = y) := by
  show (x == y) = _
  by_cases e : x = y
  · subst e; simp
  · rw [decide_eq_false e]; exact beq_eq_false_iff_ne.mpr e
theorem eqv_strs : ∀ xs ys : List Str, PyData.eqvAll (xs.map PyData.str) (ys.map PyData.str) = decide (xs = ys)
  | [], [] => rfl
  | [], _ :: _ => by simp [PyData.eqvAll]
  | _ :: _, [] => by simp [PyData.eqvAll]
  | x :: xs, y :: ys => by
    show (PyData.eqv (.str x) (.str y) && PyData.eqvAll (xs.map PyData.str) (ys.map PyData.str)) = _
    rw [eqv_str, eqv_strs xs ys]
    by_cases e : x = y <;> by_cases e2 : xs = ys <;> simp [e, e2]
def OkW (ws : List Str) : Prop := ∀ x ∈ ws, PyData.strOk x = true
end Fg

/-! == of groves, whatever their depth: the data of a grove -/
namespace L2
open PySem PySem.Spec PyProof.Rows
section
variable {X : Cx}
def rEqDn (K : PySem.W.Frag) (n : Nat) (neg : Bool) : R2 := fun x y H Q => ∃ d e, Dp K H x d ∧ Dp K H y e ∧ d.canLay0 = true ∧ e.canLay0 = true ∧ min d.depth e.depth ≤ n ∧ Q (.bl (if neg then !PyData.eqv d e else PyData.eqv d e)) H
end
end L2
namespace Fg
open PySem L2 FgM
end Fg

namespace L2
open PySem PySem.Spec PyProof.Rows PySem.SeqAt
/-! list(reversed(l)) -/
end L2

/-! the reading of [e for x in l], and what a block without captured names is -/
namespace L2
open PySem PySem.Spec PyProof.Rows
def CW (n : Nat) (Pv : Nat → List V → St → Hp → Prop) : Nat → Nat → List V → St → Hp → Prop := fun i m ys σ H => m = n - i ∧ i ≤ n ∧ Pv i ys σ H
theorem CW.next {n i : Nat} {Pv : Nat → List V → St → Hp → Prop} {ys : List V} {σ : St} {H : Hp} (hi : i < n) (h : Pv (i + 1) ys σ H) : ∃ m', m' < n - i ∧ CW n Pv (i + 1) m' ys σ H := ⟨_, by (first | lia | omega), rfl, hi, h⟩
theorem nd1 {x : Str} : [x].Nodup := by simp
theorem comp_list {K : PySem.W.Frag} {a p : Addr} {xs : List V} {g : TG} {te : TE} {R : Hp → Prop} {σ0 : St} {H0 : Hp} (Pv : Nat → List V → St → Hp → Prop) (h0 : Pv 0 [] σ0 H0)
    (hl : ∀ i ys σ H, i ≤ xs.length → Pv i ys σ H → SqL K H a xs ∧ H p = some (.lst ys))
    (hs : ∀ i ys x σ H, i < xs.length → xs[i]? = some x → Pv i ys σ H → g x σ H fun σ3 H4 => te σ3 H4 fun v H5 => H5 p = some (.lst ys) ∧ ys.length < sizeLine ∧ ∃ m', m' < xs.length - i ∧ CW xs.length Pv (i + 1) m' (ys ++ [v]) σ3 (upd H5 p (.lst (ys ++ [v]))))
    (hd : ∀ ys σ H, Pv xs.length ys σ H → R H) :
    ∃ W : Nat → Nat → List V → St → Hp → Prop, (∃ m, W 0 m [] σ0 H0) ∧ ∀ i m ys σc H2, W i m ys σc H2 → H2 p = some (.lst ys) ∧ (((Itl K a).stop i H2 ∧ R H2) ∨ ((Itl K a).go i H2 ∧ ∀ x H3, (Itl K a).yld i H2 x H3 → g x σc H3 fun σ3 H4 => te σ3 H4 fun v H5 =>
      H5 p = some (.lst ys) ∧ ys.length < sizeLine ∧ ∃ m', m' < m ∧ W (i + 1) m' (ys ++ [v]) σ3 (upd H5 p (.lst (ys ++ [v]))))) := by
  refine ⟨CW xs.length Pv, ⟨_, rfl, Nat.zero_le _, h0⟩, ?_⟩
  rintro i m ys σ H ⟨rfl, hi, hp⟩
  obtain ⟨h1, h2⟩ := hl i ys σ H hi hp
  refine ⟨h2, ?_⟩
  by_cases hlt : i < xs.length
  · refine .inr ⟨⟨xs, xs[i], h1, List.getElem?_eq_getElem hlt⟩, ?_⟩
    rintro x H3 ⟨rfl, hx⟩
    exact hs i ys x σ _ hlt (hx xs h1) hp
  · refine .inl ⟨⟨xs, h1, by (first | lia | omega)⟩, hd ys σ H ?_⟩
    have e : i = xs.length := by (first | lia | omega)
    rw [← e]
    exact hp
theorem nofree {scope : Scope} {env : Env} (h : ∀ y ∈ scope.names, y.2 ≠ .cell ∧ y.2 ≠ .free) {cl : List (Str × Addr)} : ∀ (C : Addr) (x : Str), ((compEnvC scope cl C env).kindOf x = some .cell ∨ (compEnvC scope cl C env).kindOf x = some .free) → ∃ c, cl.lookup x = some c := by
  have key : ∀ (l : List (Str × NameKind)) (x : Str), (∀ y ∈ l, y.2 ≠ .cell ∧ y.2 ≠ .free) → ∀ k, (l.map fun (n, k) => if (k == .free && env.scope.kind == .function && env.kindOf n == some .cell) then (n, .cell) else (n, k)).lookup x = some k → k ≠ .cell ∧ k ≠ .free := by
    intro l
    induction l with
    | nil => intro x _ k e; simp at e
    | cons y l ih =>
      intro x hy k e
      obtain ⟨n, kd⟩ := y
      have hk := hy _ (List.mem_cons_self ..)
      have e0 : (kd == NameKind.free && env.scope.kind == .function && env.kindOf n == some .cell) = false := by
        have : (kd == NameKind.free) = false := by
          cases kd <;> first | rfl | exact absurd rfl hk.2
        rw [this]; rfl
      simp only [List.map_cons, e0, Bool.false_eq_true, if_false, List.lookup_cons] at e
      cases hx : x == n with
      | true =>
        rw [hx] at e
        cases e
        exact hk
      | false =>
        rw [hx] at e
        exact ih x (fun y hm => hy y (List.mem_cons_of_mem _ hm)) k e
  intro C x hx
  rcases hx with e | e
  · exact absurd rfl (key _ x h _ e).1
  · exact absurd rfl (key _ x h _ e).2
end L2
namespace FgM
end FgM

/-! x = [elt for tg in iter], x = [elt for tg in iter if ct]: the name is bound ahead of the block's end -/
namespace L2
open PySem PySem.Spec PyProof.Rows
end L2
namespace L2
open PySem PySem.Spec PyProof.Rows
end L2

namespace L2
open PySem PySem.Spec PyProof.Rows

/-! ### lists of pairs as tables -/
section
variable {κ : Type} [DecidableEq κ]
def valV (kvs : List (κ × V)) (k : κ) : Option V := (kvs.find? fun kv => decide (kv.1 = k)).map (·.2)
/-- in its place, or at the end -/
def putK (kvs : List (κ × V)) (k : κ) (v : V) : List (κ × V) :=
  if (kvs.any fun kv => decide (kv.1 = k)) = true then kvs.map (fun kv => if kv.1 = k then (kv.1, v) else kv) else kvs ++ [(k, v)]
theorem valV_pos {p : κ × V} {r : List (κ × V)} {k : κ} (e : p.1 = k) : valV (p :: r) k = some p.2 := by simp [valV, List.find?_cons, e]
theorem valV_neg {p : κ × V} {r : List (κ × V)} {k : κ} (e : ¬ p.1 = k) : valV (p :: r) k = valV r k := by simp [valV, List.find?_cons, e]
theorem valV_any (k : κ) : ∀ kvs : List (κ × V), (kvs.any fun kv => decide (kv.1 = k)) = (valV kvs k).isSome
  | [] => rfl
  | p :: r => by
    rw [List.any_cons]
    by_cases e : p.1 = k
    · simp only [valV_pos e, decide_eq_true e, Bool.true_or, Option.isSome_some]
    · rw [valV_neg e, decide_eq_false e, Bool.false_or]; exact valV_any k r
theorem valV_map (k j : κ) (y : V) : ∀ kvs : List (κ × V), valV (kvs.map fun kv => if kv.1 = k then (kv.1, y) else kv) j = (valV kvs j).map fun x => if j = k then y else x
  | [] => rfl
  | p :: r => by
    have ih := valV_map k j y r
    rw [List.map_cons]
    by_cases h : p.1 = k
    · rw [if_pos h]
      by_cases e : p.1 = j
      · rw [valV_pos (p := (p.1, y)) e, valV_pos e, Option.map_some, if_pos (e.symm.trans h)]
      · rw [valV_neg (p := (p.1, y)) e, valV_neg e, ih]
    · rw [if_neg h]
      by_cases e : p.1 = j
      · rw [valV_pos (p := p) e, valV_pos e, Option.map_some, if_neg (fun z => h (e.trans z))]
      · rw [valV_neg (p := p) e, valV_neg e, ih]
theorem valV_snoc (k j : κ) (y : V) : ∀ kvs : List (κ × V), valV kvs k = none → valV (kvs ++ [(k, y)]) j = if j = k then some y else valV kvs j
  | [], _ => by
    by_cases e : k = j
    · rw [if_pos e.symm]; exact valV_pos (p := (k, y)) e
    · rw [if_neg (fun z => e z.symm)]; exact valV_neg (p := (k, y)) e
  | p :: r, hn => by
    rw [List.cons_append]
    have hk : ¬ p.1 = k := fun z => by rw [valV_pos z] at hn; cases hn
    rw [valV_neg hk] at hn
    have ih := valV_snoc k j y r hn
    by_cases e : p.1 = j
    · rw [valV_pos e, valV_pos e, if_neg (fun z => hk (e.trans z))]
    · rw [valV_neg e, valV_neg e, ih]
theorem valV_put (kvs : List (κ × V)) (k j : κ) (y : V) : valV (putK kvs k y) j = if j = k then some y else valV kvs j := by
  unfold putK
  by_cases a : (kvs.any fun kv => decide (kv.1 = k)) = true
  · rw [if_pos a, valV_map]
    rw [valV_any] at a
    by_cases e : j = k
    · obtain ⟨x, hx⟩ := Option.isSome_iff_exists.mp a
      rw [if_pos e, e, hx, Option.map_some, if_pos rfl]
    · rw [if_neg e]
      cases valV kvs j with
      | none => rfl
      | some x => rw [Option.map_some, if_neg e]
  · rw [if_neg a]
    refine valV_snoc k j y kvs ?_
    rw [valV_any] at a
    cases q : valV kvs k with
    | none => rfl
    | some x => rw [q] at a; exact (a rfl).elim
theorem length_putK (kvs : List (κ × V)) (k : κ) (v : V) : (putK kvs k v).length ≤ kvs.length + 1 := by
  unfold putK
  split
  · rw [List.length_map]; (first | lia | omega)
  · rw [List.length_append, List.length_cons, List.length_nil]; (first | lia | omega)
theorem RelO.isSome_eq {o : Option V} {u : Option Value} (r : RelO o u) : o.isSome = u.isSome := by
  cases o with
  | none => cases u with
    | none => rfl
    | some _ => exact (show False from r).elim
  | some _ => cases u with
    | none => exact (show False from r).elim
    | some _ => rfl
theorem RelO.getD {o : Option V} {u : Option Value} {d : V} {d' : Value} (r : RelO o u) (rd : RelV d d') : RelV (o.getD d) (u.getD d') := by
  cases o with
  | none => cases u with
    | none => exact rd
    | some _ => exact (show False from r).elim
  | some _ => cases u with
    | none => exact (show False from r).elim
    | some _ => exact r

/-- raw tables of the same keys -/
theorem KV.val {kvs : List (κ × V)} {vs : List (κ × Value)} (r : KV kvs vs) (k : κ) : RelO (valV kvs k) (valueAt vs k) := by
  unfold KV at r
  induction r with
  | nil => exact True.intro
  | @cons p q ps qs h t ih =>
    obtain ⟨h1, h2⟩ := h
    by_cases e : p.1 = k
    · have e' : q.1 = k := h1.symm.trans e
      have b : valueAt (q :: qs) k = some q.2 := by simp [valueAt, List.find?_cons, e']
      rw [valV_pos e, b]; exact h2
    · have e' : ¬ q.1 = k := fun z => e (h1.trans z)
      have b : valueAt (q :: qs) k = valueAt qs k := by simp [valueAt, List.find?_cons, e']
      rw [valV_neg e, b]; exact ih
theorem KV.any {kvs : List (κ × V)} {vs : List (κ × Value)} (r : KV kvs vs) (k : κ) : (kvs.any fun kv => decide (kv.1 = k)) = vs.any fun kv => decide (kv.1 = k) := by
  unfold KV at r
  induction r with
  | nil => rfl
  | cons h t ih => rw [List.any_cons, List.any_cons, ih, h.1]
theorem KV.repl {kvs : List (κ × V)} {vs : List (κ × Value)} (r : KV kvs vs) (k : κ) {y : V} {u : Value} (ry : RelV y u) :
    KV (kvs.map fun kv => if kv.1 = k then (kv.1, y) else kv) (vs.map fun kv => if kv.1 = k then (kv.1, u) else kv) := by
  unfold KV at r ⊢
  induction r with
  | nil => exact .nil
  | @cons p q ps qs h t ih =>
    rw [List.map_cons, List.map_cons]
    refine .cons ?_ ih
    obtain ⟨h1, h2⟩ := h
    by_cases e : p.1 = k
    · rw [if_pos e, if_pos (h1.symm.trans e)]; exact ⟨h1, ry⟩
    · rw [if_neg e, if_neg (fun z => e (h1.trans z))]; exact ⟨h1, h2⟩
theorem KV.put {kvs : List (κ × V)} {vs : List (κ × Value)} (r : KV kvs vs) (k : κ) {y : V} {u : Value} (ry : RelV y u) : KV (putK kvs k y) (stored vs k u) := by
  unfold putK stored
  rw [r.any k]
  by_cases e : (vs.any fun kv => decide (kv.1 = k)) = true
  · rw [if_pos e, if_pos e]; exact r.repl k ry
  · rw [if_neg e, if_neg e]; exact Paired.snoc r ⟨rfl, ry⟩
theorem KV.length {kvs : List (κ × V)} {vs : List (κ × Value)} (r : KV kvs vs) : kvs.length = vs.length := Paired.length r
end


/-! ### a tracked dict, its keys ints and texts or tuples of these -/
theorem kV_is {P : Program} {w : World} {k : Key} {u : Value} (r : RelV (kV k) u) : (mixKind P w).is k u = true := by
  cases k with
  | inl i => obtain ⟨t, e⟩ := (show ∃ t, u = Value.int i t from r); subst e; exact mixKind_int P w i t
  | inr x => obtain ⟨t, e⟩ := (show ∃ t, u = Value.str x t from r); subst e; exact mixKind_str P w x t
theorem items_are {P : Program} {w : World} : ∀ {ks : List Key} {us : List Value}, Vals (ks.map kV) us → ItemsAre (mixKind P w) ks us
  | [], _, r => by rw [List.map_nil] at r; cases r; exact .nil
  | k :: ks, _, r => by
    rw [List.map_cons] at r
    cases r with
    | cons h t => exact .cons (kV_is h) (items_are t)

/-- raw entries of a dict with tuple keys -/
abbrev KT (H : Hp) : List (List Key × V) → List (List Key × Addr × Value) → Prop := Paired fun p q => p.1 = q.1 ∧ H q.2.1 = some (.tup (p.1.map kV)) ∧ RelV p.2 q.2.2
theorem KT.val {H : Hp} {kvs : List (List Key × V)} {xs : List (List Key × Addr × Value)} (r : KT H kvs xs) (k : List Key) : RelO (valV kvs k) ((atKey xs k).map (·.2)) := by
  induction r with
  | nil => exact True.intro
  | @cons p q ps qs h t ih =>
    obtain ⟨h1, _, h2⟩ := h
    by_cases e : p.1 = k
    · have e' : q.1 = k := h1.symm.trans e
      have b : atKey (q :: qs) k = some q.2 := by simp [atKey, List.find?_cons, e']
      rw [valV_pos e, b]; exact h2
    · have e' : ¬ q.1 = k := fun z => e (h1.trans z)
      have b : atKey (q :: qs) k = atKey qs k := by simp [atKey, List.find?_cons, e']
      rw [valV_neg e, b]; exact ih
theorem KT.repl {H : Hp} {kvs : List (List Key × V)} {xs : List (List Key × Addr × Value)} (r : KT H kvs xs) (k : List Key) {y : V} {u : Value} (ry : RelV y u) :
    KT H (kvs.map fun kv => if kv.1 = k then (kv.1, y) else kv) (xs.map (putAt k u)) := by
  induction r with
  | nil => exact .nil
  | @cons p q ps qs h t ih =>
    rw [List.map_cons, List.map_cons]
    refine .cons ?_ ih
    obtain ⟨h1, h2, h3⟩ := h
    unfold putAt
    by_cases e : p.1 = k
    · rw [if_pos e, if_pos (h1.symm.trans e)]; exact ⟨h1, h2, ry⟩
    · rw [if_neg e, if_neg (fun z => e (h1.trans z))]; exact ⟨h1, h2, h3⟩
theorem KT.put {H : Hp} {kvs : List (List Key × V)} {xs : List (List Key × Addr × Value)} (r : KT H kvs xs) (k : List Key) {b : Addr} {y : V} {u : Value} (hb : H b = some (.tup (k.map kV))) (ry : RelV y u) :
    KT H (putK kvs k y) (storedH xs k b u) := by
  have e : (kvs.any fun kv => decide (kv.1 = k)) = (atKey xs k).isSome := by
    rw [valV_any, (r.val k).isSome_eq, Option.isSome_map]
  unfold putK storedH
  rw [e]
  by_cases q : (atKey xs k).isSome = true
  · rw [if_pos q, if_pos q]; exact r.repl k ry
  · rw [if_neg q, if_neg q]; exact Paired.snoc r ⟨rfl, hb, ry⟩
theorem KT.keeps {H H' : Hp} {kvs : List (List Key × V)} {xs : List (List Key × Addr × Value)} (r : KT H kvs xs) (ht : ∀ b ys, H b = some (.tup ys) → H' b = some (.tup ys)) : KT H' kvs xs :=
  Paired.mapP r fun _ _ z => ⟨z.1, ht _ _ z.2.1, z.2.2⟩

section
variable {P : Program} {w : World} {H : Hp} {h : Heap} {a : Addr}
theorem rd_of {u : HO} (ok : HOk P w H h) (e : Rd H a u) : ObjOk P w H h a u := e.ok ok
theorem dk_rd {kvs : List (Key × V)} (ok : HOk P w H h) (e : Rd H a (.dK kvs)) : kvs.length ≤ sizeLine ∧ (a == sysModules) = false ∧ ∃ vs, KV kvs vs ∧ h.DictOf (mixKind P w) a vs :=
  show ObjOk P w H h a (.dK kvs) from rd_of ok e
theorem dk_of {kvs : List (Key × V)} (ok : HOk P w H h) (e : H a = some (.dK kvs)) : kvs.length ≤ sizeLine ∧ (a == sysModules) = false ∧ ∃ vs, KV kvs vs ∧ h.DictOf (mixKind P w) a vs := dk_rd ok (.inl e)
/-- a tracked tuple of ints and texts is a key -/
theorem key_of {ks : List Key} (ok : HOk P w H h) (e : H a = some (.tup (ks.map kV))) : (tupleKind (mixKind P w)).is h ks a := by
  obtain ⟨_, its, r, o, h1, h2, n, h3⟩ := (show ObjOk P w H h a (.tup (ks.map kV)) from ok a _ e)
  exact ⟨o, its.toArray, n, h1, h2, h3, by simpa using items_are r⟩
theorem dt_rd {kvs : List (List Key × V)} (ok : HOk P w H h) (e : Rd H a (.dT kvs)) : kvs.length ≤ sizeLine ∧ (a == sysModules) = false ∧
    ∃ xs, KT H kvs xs ∧ h.DictOfH (tupleKind (mixKind P w)) a xs := by
  obtain ⟨z, y, xs, r, o, es, ep, h1, h2, h3, h4, h5⟩ := (show ObjOk P w H h a (.dT kvs) from rd_of ok e)
  refine ⟨z, y, xs, r, o, es, ep, h1, h2, h3, h4, fun x hx => ?_, h5⟩
  have all : ∀ {l : List (List Key × V)} {m : List (List Key × Addr × Value)}, KT H l m → ∀ x ∈ m, (tupleKind (mixKind P w)).is h x.1 x.2.1 := by
    intro l m q
    induction q with
    | nil => intro x hx; exact nomatch hx
    | @cons p q ps qs hq t ih =>
      intro x hx
      rcases List.mem_cons.mp hx with e | hx
      · subst e
        exact key_of ok (by rw [← hq.1]; exact hq.2.1)
      · exact ih x hx
  exact all r x hx
theorem dt_of {kvs : List (List Key × V)} (ok : HOk P w H h) (e : H a = some (.dT kvs)) : kvs.length ≤ sizeLine ∧ (a == sysModules) = false ∧
    ∃ xs, KT H kvs xs ∧ h.DictOfH (tupleKind (mixKind P w)) a xs := dt_rd ok (.inl e)
end

/-- what the dict at a holds at the key y -/
def DGet (H : Hp) (a : Addr) (y : V) (r : Option V) : Prop :=
  (∃ kvs k, Rd H a (.dK kvs) ∧ y = kV k ∧ r = valV kvs k) ∨ ∃ kvs k b, Rd H a (.dT kvs) ∧ y = .ref b ∧ H b = some (.tup (k.map kV)) ∧ r = valV kvs k
/-- the heap behind a[y] = v -/
def DPut (H : Hp) (a : Addr) (y v : V) (H' : Hp) : Prop :=
  (∃ kvs k, H a = some (.dK kvs) ∧ y = kV k ∧ kvs.length < sizeLine ∧ H' = upd H a (.dK (putK kvs k v))) ∨
  ∃ kvs k b, H a = some (.dT kvs) ∧ y = .ref b ∧ H b = some (.tup (k.map kV)) ∧ kvs.length < sizeLine ∧ H' = upd H a (.dT (putK kvs k v))
theorem DGet.t {H : Hp} {a b : Addr} {kvs : List (List Key × V)} {k : List Key} (e : H a = some (.dT kvs)) (eb : H b = some (.tup (k.map kV))) : DGet H a (.ref b) (valV kvs k) := .inr ⟨kvs, k, b, .inl e, rfl, eb, rfl⟩
theorem DPut.t {H : Hp} {a b : Addr} {kvs : List (List Key × V)} {k : List Key} {v : V} (e : H a = some (.dT kvs)) (eb : H b = some (.tup (k.map kV))) (hl : kvs.length < sizeLine) :
    DPut H a (.ref b) v (upd H a (.dT (putK kvs k v))) := .inr ⟨kvs, k, b, e, rfl, eb, hl, rfl⟩


section
variable {X : Cx} {pins : List (Addr × Obj)} {σ : St} {H : Hp} {s : Shared} {a : Addr} {y v : V} {u r : Value} {o : Option V} {A : Around} {E : Value → Shared → Prop}

theorem Inv.big (I : Inv X pins σ H s) : sysModules < s.heap.objs.size := by
  have h : mainGlobals < s.heap.objs.size := (I.mod.glob.keeps I.bk).lt
  exact Nat.lt_trans (by decide) h

/-- d[y], there -/
theorem d_getItem {Q : Value → Shared → Prop} (hu : A.units + 1 < cLine) (I : Inv X pins σ H s) (g : DGet H a y (some v)) (ry : RelV y u) (h : ∀ w' s', Inv X pins σ H s' → RelV v w' → Q w' s') :
    wpAny (model X.prog X.w) A (getItem (.ref a) u) Q E s := by
  rcases g with ⟨kvs, k, e, ey, l⟩ | ⟨kvs, k, b, e, ey, eb, l⟩
  · subst ey
    obtain ⟨z, hd, vs, rel, dd⟩ := dk_rd I.hok e
    obtain ⟨w', hw, rw'⟩ := RelO.some_of (v := v) (o := valueAt vs k) (by rw [l]; exact rel.val k)
    exact wpAny_getItem_of (kV_is ry) dd.mapOf hw (h w' _ (I.tok _) rw')
  · subst ey
    cases (show u = Value.ref b from ry)
    obtain ⟨z, hd, xs, rel, dd⟩ := dt_rd I.hok e
    obtain ⟨w', hw, rw'⟩ := RelO.some_of (v := v) (o := (atKey xs k).map (·.2)) (by rw [l]; exact rel.val k)
    obtain ⟨p, hp, hp2⟩ := Option.map_eq_some_iff.mp hw
    refine wpAny_getItem_heap (tupleKind_room_in1 hu) (key_of I.hok eb) dd hp ?_
    rw [hp2]
    exact h w' _ (I.tok _) rw'
/-- y in d -/
theorem d_in {Q : Value → Shared → Prop} (hu : A.units + 1 < cLine) (I : Inv X pins σ H s) (g : DGet H a y o) (ry : RelV y u) (h : ∀ s', Inv X pins σ H s' → Q (.bool o.isSome) s') :
    wpAny (model X.prog X.w) A (compareOp .In u (.ref a)) Q E s := by
  rcases g with ⟨kvs, k, e, ey, l⟩ | ⟨kvs, k, b, e, ey, eb, l⟩
  · subst ey
    obtain ⟨z, hd, vs, rel, dd⟩ := dk_rd I.hok e
    refine wpAny_in_of (kV_is ry) hd dd.mapOf ?_
    rw [← (rel.val k).isSome_eq, ← l]
    exact h _ (I.tok _)
  · subst ey
    cases (show u = Value.ref b from ry)
    obtain ⟨z, hd, xs, rel, dd⟩ := dt_rd I.hok e
    refine wpAny_in_heap (tupleKind_room_in1 hu) (key_of I.hok eb) hd dd ?_
    have q := (rel.val k).isSome_eq
    rw [Option.isSome_map] at q
    rw [← q, ← l]
    exact h _ (I.tok _)
/-- a dict's object is replaced -/
theorem d_write {h' : Heap} {t' : Nat} {ob : HO} (I : Inv X pins σ H s) (mu : Mut (H a)) (hs : Heap.SameBut a s.heap h') (he : ∃ q, h'.get? a = some q) (new : ObjOk X.prog X.w (upd H a ob) h' a ob) :
    Inv X pins σ (upd H a ob) { s with heap := h', toks := t' } :=
  I.write (x := a) (e := a) mu (.inl rfl) (fun b q hb z => (hs.2 b hb).trans z) he new
theorem dk_new {P : Program} {w : World} {H' : Hp} {h' : Heap} {kvs : List (Key × V)} {vs : List (Key × Value)} (z : kvs.length ≤ sizeLine) (hd : (a == sysModules) = false) (rel : KV kvs vs) (dd : h'.DictOf (mixKind P w) a vs) :
    ObjOk P w H' h' a (.dK kvs) := ⟨z, hd, vs, rel, dd⟩
/-- d[y] = v -/
theorem d_setItem {H' : Hp} {Q : Unit → Shared → Prop} (hu : A.units + 1 < cLine) (I : Inv X pins σ H s) (g : DPut H a y v H') (ry : RelV y u) (rv : RelV v r) (h : ∀ s', Inv X pins σ H' s' → Q () s') :
    wpAny (model X.prog X.w) A (setItem (.ref a) u r) Q E s := by
  rcases g with ⟨kvs, k, e, ey, l, eH⟩ | ⟨kvs, k, b, e, ey, eb, l, eH⟩
  · subst ey eH
    obtain ⟨z, hd, vs, rel, dd⟩ := dk_of I.hok e
    have hz : vs.length ≤ sizeLine := by rw [← rel.length]; exact z
    have hl : (putK kvs k v).length ≤ sizeLine := by have := length_putK kvs k v; (first | lia | omega)
    refine wpAny_setItem_pairs (hsz := hz) (kV_is ry) dd fun h' dd' hs => h _ ?_
    have he : ∃ q, h'.get? a = some q := let ⟨q, _, _, hq, _⟩ := dd'; ⟨q, hq⟩
    exact d_write I (by rw [e]; exact True.intro) hs he (dk_new hl hd (rel.put k rv) dd')
  · subst ey eH
    cases (show u = Value.ref b from ry)
    obtain ⟨z, hd, xs, rel, dd⟩ := dt_of I.hok e
    have hz : xs.length ≤ sizeLine := by rw [← Paired.length rel]; exact z
    have hl : (putK kvs k v).length ≤ sizeLine := by have := length_putK kvs k v; (first | lia | omega)
    refine wpAny_setItem_heap (hsz := hz) (tupleKind_room_in1 hu) (key_of I.hok eb) dd fun h' dd' hs => h _ ?_
    obtain ⟨q, es, ep, hq, h2, h3, h4, _, h5⟩ := dd'
    refine d_write I (by rw [e]; exact True.intro) hs ⟨q, hq⟩ ⟨hl, hd, _, (rel.put k eb rv).keeps fun c ys ec => ?_, q, es, ep, hq, h2, h3, h4, h5⟩
    rw [upd_ne (ne_of ec e (fun z => nomatch z))]
    exact ec
end



/-! ### readings and rules -/
/-- the element of a subscription, not a slice -/
def NoSl (i : Expr) : Prop := ∀ ov iv, subscripted i false ov iv = operate [ov, iv] (getItem ov iv)
theorem subD_of {prog : Program} {w : World} {A : Around} {E : Value → Shared → Prop} {s : Shared} {env : Env} {value slice : Expr} {pos : Pos} {T id : String} {Q : Value → Shared → Prop}
    (hl : typeLookup (.type T) "__getitem__" = pure (some (.builtin id))) (hs : NoSl slice)
    (h : wpAny (model prog w) A (eval value env) (fun o s₁ => wpAny (model prog w) A (eval slice env) (fun i s₂ => s₂.TypeIs o T ∧ wpAny (model prog w) A (getItem o i) Q E s₂) E s₁) E s) :
    wpAny (model prog w) A (eval (.Subscript value slice pos) env) Q E s := by
  refine Subscript_ (wpAny_mono h (fun o s₁ h₁ => wpAny_mono h₁ (fun i s₂ h₂ => ?_) fun _ _ x => x) fun _ _ x => x)
  obtain ⟨hT, h₂⟩ := h₂
  unfold subscriptTail
  refine wpAny_bind ?_
  rw [getitemInPython_of_ne hT.not_modules]
  refine wpAny_bind (wpAny_specialOf hT hl ?_)
  have fin : wpAny (model prog w) A (subscripted slice false o i) (fun r s₃ => wpAny (model prog w) A (letTemporaryGo value o r >>= fun _ => pure r) Q E s₃) E s₂ := by
    rw [hs o i]
    exact wpAny_operating (wpAny_mono h₂ (fun r s₃ h₃ => wpAny_bind (wpAny_letTemporaryGo (wpAny_pure h₃))) fun _ _ x => x)
  first
    | exact wpAny_pure (wpAny_bind fin)
    | exact wpAny_bind (wpAny_pure (wpAny_bind fin))
    | exact wpAny_bind fin

theorem dict_typeIs {X : Cx} {pins : List (Addr × Obj)} {σ : St} {H : Hp} {s : Shared} {a : Addr} {y : V} {o : Option V} (I : Inv X pins σ H s) (g : DGet H a y o) : s.TypeIs (.ref a) "dict" := by
  rcases g with ⟨kvs, k, e, _, _⟩ | ⟨kvs, k, b, e, _, _, _⟩
  · obtain ⟨_, _, vs, _, dd⟩ := dk_rd I.hok e
    exact dd.typeIs
  · obtain ⟨_, _, xs, _, dd⟩ := dt_rd I.hok e
    exact dd.typeIs
/-- d[y] -/
def tDGet (td ty : TE) : TE := fun σ H Q => td σ H fun x H1 => ty σ H1 fun y H2 => ∃ a v, x = .ref a ∧ DGet H2 a y (some v) ∧ Q v H2
/-- y in d, y not in d -/
def tDIn (ty td : TE) : TE := fun σ H Q => ty σ H fun y H1 => td σ H1 fun x H2 => ∃ a o, x = .ref a ∧ DGet H2 a y o ∧ Q (.bl o.isSome) H2
/-- d[y] = v -/
def sDPut (td ty tv : TE) : TS := fun D σ H => tv σ H fun v H1 => td σ H1 fun x H2 => ty σ H2 fun y H3 => ∃ a H4, x = .ref a ∧ DPut H3 a y v H4 ∧ D.nx σ H4
section
variable {X : Cx} {o i e value : Expr} {pos pos' tpos : Pos} {td ty tv : TE}
theorem pe_dget (hu : X.A.units + 1 < cLine) (ho : PE X o td) (hi : PE X i ty) (hs : NoSl i) : PE X (.Subscript o i pos) (tDGet td ty) := by
  intro pins s σ H Q I h
  refine subD_of PySem.F.slot_dict_getitem.lookup hs (thn (ho pins s σ H _ I h) fun u s1 ⟨x, H1, I1, rx, q1⟩ => thn (hi pins s1 σ H1 _ I1 q1) fun iv s2 ⟨y, H2, I2, ry, a, v, ex, g, q2⟩ => ?_)
  subst ex
  obtain rfl : u = Value.ref a := rx
  exact ⟨dict_typeIs I2 g, d_getItem hu I2 g ry fun w' s3 I3 rw' => ⟨v, H2, I3, rw', q2⟩⟩
theorem pc_din (hu : X.A.units + 1 < cLine) (hi : PE X i ty) (ho : PE X o td) : PC X .In i o (tDIn ty td) := by
  intro pins s σ H Q I h
  refine thn (hi pins s σ H _ I h) fun iv s1 ⟨y, H1, I1, ry, q1⟩ => thn (ho pins s1 σ H1 _ I1 q1) fun u s2 ⟨x, H2, I2, rx, a, ov, ex, g, q2⟩ => ?_
  subst ex
  obtain rfl : u = Value.ref a := rx
  exact d_in hu I2 g ry fun s3 I3 => ⟨.bl ov.isSome, H2, I3, rfl, q2⟩
theorem ps_dput (hu : X.A.units + 1 < cLine) (ho : PE X o td) (hi : PE X i ty) (hv : PE X value tv) (hs : swapsWith value (some (.Subscript o i pos')) pos.line X.env = pure false) :
    PS X (.Assign [.Subscript o i pos'] value pos) (sDPut td ty tv) := by
  intro pins s σ H D I h
  refine wpAny_Assign_Subscript (thn (hv pins s σ H _ I h) fun r s1 ⟨v, H1, I1, rv, q1⟩ => thn (ho pins s1 σ H1 _ I1 q1) fun u s2 ⟨x, H2, I2, rx, q2⟩ => thn (hi pins s2 σ H2 _ I2 q2) fun iv s3 ⟨y, H3, I3, ry, a, H4, ex, g, q3⟩ => ?_) hs
  subst ex
  obtain rfl : u = Value.ref a := rx
  exact d_setItem hu I3 g ry rv fun s4 I4 => ⟨σ, H4, I4, q3⟩
end


/-! ### displays -/
theorem dt_empty {P : Program} {w : World} {H : Hp} (h : Heap) (hb : sysModules < h.objs.size) : ObjOk P w H (h.push { cls := .type "dict", data := .dict #[] }) h.objs.size (.dT []) :=
  ⟨Nat.zero_le _, beq_eq_false_iff_ne.mpr (Ne.symm (Nat.ne_of_lt hb)), [], .nil, _, #[], 0, Heap.get?_push_size _ rfl, ⟨rfl, rfl, rfl⟩, rfl, rfl, List.nodup_nil⟩
def tDNewT : TE := fun _ H Q => ∀ p, H p = none → Q (.ref p) (upd H p (.dT []))
section
variable {X : Cx} {pos : Pos}
theorem pe_dnewT : PE X (.Dict [] [] pos) tDNewT := fun pins s σ H Q I h =>
  wpAny_Dict_empty ⟨.ref s.heap.objs.size, _, I.laid (a := s.heap.objs.size) (o := .dT []) (t' := s.toks) (fun _ _ q => Heap.get?_push_of_some _ q) (Nat.le_refl _) (dt_empty s.heap I.big), rfl, h _ (I.hok.fresh (Nat.le_refl _))⟩
end

/-! ### methods -/
structure M2 (X : Cx) (o : Expr) (m : Str) (apos : Pos) (e f : Expr) (cpos : Pos) : Prop where
  base : attributeBase o m X.env (eval o X.env) = eval o X.env
  few : ((backTo cpos (starEach [e, f] X.env)).all (fun x => !x.1) && (backToKw cpos (keywordEach [] X.env)).all (fun x => x.1.isSome)
    && decide (([e, f] : List Expr).length + ([] : List Keyword).length + (if ([] : List Keyword).isEmpty then 0 else 1) < 30)) = true
  line : (apos.endLine == cpos.line) = true
  trees : backTo cpos (starEach [e, f] X.env) = [(false, eval e X.env), (false, eval f X.env)]

/-- a is a dict, whatever its keys -/
def IsD (H : Hp) (a : Addr) : Prop := (∃ kvs, Rd H a (.dK kvs)) ∨ ∃ kvs, Rd H a (.dT kvs)
theorem isD_at {X : Cx} {pins : List (Addr × Obj)} {σ : St} {H : Hp} {s : Shared} {a : Addr} (I : Inv X pins σ H s) (d : IsD H a) :
    s.TypeIs (.ref a) "dict" ∧ (∀ b, Value.ref a = .ref b → ∃ ob, s.heap.get? b = some ob ∧ ob.dict = none) ∧ (a == sysModules) = false := by
  rcases d with ⟨kvs, e⟩ | ⟨kvs, e⟩
  · obtain ⟨_, hd, vs, _, dd⟩ := dk_rd I.hok e
    refine ⟨dd.typeIs, fun b q => ?_, hd⟩
    cases q
    obtain ⟨ob, _, _, h1, h2, _⟩ := dd
    exact ⟨ob, h1, h2.2.1⟩
  · obtain ⟨_, hd, xs, _, dd⟩ := dt_rd I.hok e
    refine ⟨dd.typeIs, fun b q => ?_, hd⟩
    cases q
    obtain ⟨ob, _, _, h1, h2, _⟩ := dd
    exact ⟨ob, h1, h2.2.1⟩

section
variable {X : Cx} {pins : List (Addr × Obj)} {σ : St} {H : Hp} {s : Shared} {a : Addr} {y d : V} {u r : Value} {o : Option V} {A : Around} {E : Value → Shared → Prop}
/-- d.get(y, x) -/
theorem d_get2 {Q : Value → Shared → Prop} (hu : A.units + 1 < cLine) (I : Inv X pins σ H s) (g : DGet H a y o) (ry : RelV y u) (rd : RelV d r) (h : ∀ w' s', Inv X pins σ H s' → RelV (o.getD d) w' → Q w' s') :
    wpAny (model X.prog X.w) A (call (.builtin "dict.get") [.ref a, u, r]) Q E s := by
  rcases g with ⟨kvs, k, e, ey, l⟩ | ⟨kvs, k, b, e, ey, eb, l⟩
  · subst ey
    obtain ⟨z, hd, vs, rel, dd⟩ := dk_rd I.hok e
    refine call_meetsIn PySem.F.slot_dict_get dd.typeIs PySem.F.entry_dict_get (PySem.F.args_dict_get_3 _ _ _) (meets_dict_get_default (mixKind X.prog X.w) a (kV_is ry) hd r) ⟨_, dd.mapOf, h _ _ (I.tok _) ?_⟩
    rw [l]
    exact (rel.val k).getD rd
  · subst ey
    cases (show u = Value.ref b from ry)
    obtain ⟨z, hd, xs, rel, dd⟩ := dt_rd I.hok e
    refine call_meetsIn PySem.F.slot_dict_get dd.typeIs PySem.F.entry_dict_get (PySem.F.args_dict_get_3 _ _ _) (meetsH_dict_get_default (tupleKind (mixKind X.prog X.w)) a b hd r) ⟨tupleKind_room_in1 hu, k, xs, key_of I.hok eb, dd, h _ _ (I.tok _) ?_⟩
    rw [l]
    exact (rel.val k).getD rd
end

def tDGet2 (td ty tx : TE) : TE := fun σ H Q => td σ H fun x H1 => ∃ a, x = .ref a ∧ IsD H1 a ∧ ty σ H1 fun y H2 => tx σ H2 fun z H3 => ∃ o, DGet H3 a y o ∧ Q (o.getD z) H3
section
variable {X : Cx} {o e f : Expr} {apos cpos : Pos} {td ty tx : TE}
theorem pe_dget2 (hu : X.A.units + 1 < cLine) (ho : PE X o td) (he : PE X e ty) (hf : PE X f tx) (m : M2 X o "get" apos e f cpos) : PE X (.Call (.Attribute o "get" apos) [e, f] [] cpos) (tDGet2 td ty tx) := by
  intro pins s σ H Q I h
  refine wpAny_Call_method m.base m.few m.line PySem.F.plainAttrs_dict PySem.F.slot_dict_get PySem.F.type_dict_get (thn (ho pins s σ H _ I h) fun u s1 ⟨x, H1, I1, rx, a, ex, d, q1⟩ => ?_)
  subst ex
  obtain rfl : u = Value.ref a := rx
  obtain ⟨t1, t2, _⟩ := isD_at I1 d
  refine ⟨t1, t2, ?_⟩
  rw [m.trees]
  refine Calls.callWith_builtin rfl (Calls.evalArgs_plain (Calls.spliced_cons (thn (he pins s1 σ H1 _ I1 q1) fun iv s2 ⟨y, H2, I2, ry, q2⟩ =>
    Calls.spliced_cons (thn (hf pins s2 σ H2 _ I2 q2) fun fv s3 ⟨z, H3, I3, rz, ov, g, q3⟩ => Calls.spliced_nil ?_))))
  exact d_get2 hu I3 g ry rz fun w' s4 I4 rw' => ⟨_, H3, I4, rw', q3⟩
end

/-! ### dict(d): a copy -/


end L2
namespace L2
open PySem PySem.Spec PyProof.Rows
/-! ### a dict's pairs: keys that differ -/
end L2
/-! own classes: their methods and their making, as Has; a statement that is never come to; int(truth) -/
namespace L2
open PySem PySem.Spec PyProof.Rows
structure HasM (P : Program) (w : World) (K : PySem.W.Frag) (mg : Str → Option Value) (base : Heap) (C : Addr) (m : Str) (ps : List Str) (j : Nat) (sp : Sp) : Prop where
  ex : ∃ f fd, FnOk P w K mg base CX0 j f fd ps sp ∧ Binds K fd ps [] ∧ Meth K C m f
structure HasC (P : Program) (w : World) (K : PySem.W.Frag) (mg : Str → Option Value) (base : Heap) (C : Addr) (x : Str) (ps : List Str) (j : Nat) (sp : Sp) : Prop where
  ex : ∃ f fd, FnOk P w K mg base CX0 j f fd ps sp ∧ Binds K fd ps [] ∧ Mk K C f ∧ mg x = some (.ref C)
section
variable {X : Cx} {C : Addr} {m x : Str} {ps : List Str} {j k : Nat} {sp : Sp} {o e : Expr} {es : List Expr} {ta : TE} {t : TA} {p pos apos : Pos}
theorem pe_hasm {pl : Sem Bool} (G : HasM X.prog X.w X.K X.mg X.base C m ps j sp) (hr : Room k X.A) (he : PE X o ta) (c : Cls X.K C) (ha : PA X (e :: es) t) (hk : j ≤ k := by decide)
    (hst : starEach (e :: es) X.env = (false, eval e X.env) :: starEach es X.env := by rfl) (hpl : (backTo pos (starEach es X.env)).any (·.1) = false := by rfl)
    (ht : eval (.Call (.Attribute o m apos) (e :: es) [] pos) X.env = (do
      let ov ← eval o X.env
      standAt apos.atName
      let (f, first) ← holding [ov] (getMethod ov m pl)
      callWith pos f first (backTo pos (starEach (e :: es) X.env)) (backToKw pos (keywordEach [] X.env))) := by rfl) : PE X (.Call (.Attribute o m apos) (e :: es) [] pos) (tMeth C m sp [] E0 ta t) := by
  obtain ⟨f, fd, F, b, hm⟩ := G.ex
  exact pe_meth (pl := pl) he c hm (F.room hk) hr b .nil pass0 ha hst hpl ht
end
end L2
namespace L2
open PySem PySem.Spec PyProof.Rows
end L2

/-! for i, c in enumerate(text) -/
namespace L2
open PySem PySem.Spec PyProof.Rows
end L2

/-! t + u of tuples, == of lists of texts, groves behind one another -/
namespace L2
open PySem PySem.Spec PyProof.Rows
end L2
namespace Fg
open PySem L2 FgM
theorem eqn_lists {K : PySem.W.Frag} {H : Hp} {a b : Addr} {xs ys : List Str} {n : Nat} {neg : Bool} {Q : VK} (hA : SqL K H a (xs.map V.str)) (hB : SqL K H b (ys.map V.str)) (o1 : OkW xs) (o2 : OkW ys) (hn : 1 ≤ n)
    (q : Q (.bl (if neg then !decide (xs = ys) else decide (xs = ys))) H) : rEqDn K n neg (.ref a) (.ref b) H Q := by
  refine ⟨.list (xs.map PyData.str), .list (ys.map PyData.str), .lst hA (dp_strs xs), .lst hB (dp_strs ys), lay_strs o1, lay_strs o2, ?_, ?_⟩
  · show min (PyData.depthAll (xs.map PyData.str) + 1) (PyData.depthAll (ys.map PyData.str) + 1) ≤ n
    rw [depth_strs, depth_strs]
    exact hn
  · have e : PyData.eqv (.list (xs.map PyData.str)) (.list (ys.map PyData.str)) = decide (xs = ys) := eqv_strs xs ys
    rw [e]
    exact q
end Fg
namespace FgM
section
variable {A : Type}
def gapp : Gr A → Gr A → Gr A
  | .nil, h => h
  | .cons t w o, h => .cons t w (gapp o h)
variable [DecidableEq A]
end
end FgM
namespace Fg
open PySem L2 FgM
end Fg

/-! recursion's ground, constants of the module, == of tuples by their lengths, blocks with captured names -/
namespace L2
open PySem PySem.Spec PyProof.Rows
theorem FnOk.none {P : Program} {w : World} {K : PySem.W.Frag} {mg : Str → Option Value} {base : Heap} {CX : CXT} {k : Nat} {f : Addr} {fd : FuncData} {ps : List Str} {sp : Sp} (h : ∀ vs H Q E, ¬ sp vs H Q E) : FnOk P w K mg base CX k f fd ps sp :=
  ⟨fun vs H Q E z => absurd z (h vs H Q E), fun A outer s H args us vs Q E hr e0 hb r z => absurd z (h vs H Q E)⟩
/-! captured names -/
theorem lookup_mem {β : Type} {x : Str} {c : β} : ∀ {l : List (Str × β)}, l.lookup x = some c → (x, c) ∈ l
  | [], h => by cases h
  | (y, d) :: l, h => by
    rw [List.lookup_cons] at h
    cases e : x == y with
    | true =>
      rw [e] at h
      cases h
      rw [beq_iff_eq.mp e]
      exact List.mem_cons_self ..
    | false =>
      rw [e] at h
      exact List.mem_cons_of_mem _ (lookup_mem h)
theorem cap_cl {env : Env} {cl : List (Str × Addr)} (h : ∀ p ∈ cl, env.cells.lookup p.1 = some p.2) : ∀ x c, cl.lookup x = some c → env.cells.lookup x = some c := fun x c e => h (x, c) (lookup_mem e)
theorem cap_has {scope : Scope} {env : Env} {cl : List (Str × Addr)} (h : ∀ y ∈ scope.names, (y.2 = .cell ∨ y.2 = .free) → ∃ c, cl.lookup y.1 = some c) : ∀ (C : Addr) (x : Str), ((compEnvC scope cl C env).kindOf x = some .cell ∨ (compEnvC scope cl C env).kindOf x = some .free) → ∃ c, cl.lookup x = some c := by
  have key : ∀ (k : NameKind) (x : Str), (k = .cell ∨ k = .free) → (scope.names.map fun (n, k) => if (k == .free && env.scope.kind == .function && env.kindOf n == some .cell) then (n, .cell) else (n, k)).lookup x = some k → ∃ c, cl.lookup x = some c := by
    intro k x hk e
    obtain ⟨⟨n, k0⟩, hy, he⟩ := List.mem_map.mp (lookup_mem e)
    by_cases hc : (k0 == .free && env.scope.kind == .function && env.kindOf n == some .cell) = true
    · simp only [hc, if_true] at he
      have h0 : k0 = .free := by
        simp only [Bool.and_eq_true] at hc
        have := hc.1.1
        cases k0 <;> first | rfl | exact absurd this (by decide)
      injection he with e1 e2
      subst e1
      exact h _ hy (.inr h0)
    · simp only [hc] at he
      injection he with e1 e2
      subst e1 e2
      exact h _ hy hk
  intro C x hx
  rcases hx with e | e
  · exact key _ x (.inl rfl) e
  · exact key _ x (.inr rfl) e
end L2
namespace L2
open PySem PySem.Spec PyProof.Rows
theorem ix_tupK {X : Cx} {K : PySem.W.Frag} (h : X.K = K) : IxR X (rIxT K) := by
  subst h
  exact ix_tup
end L2

/-! a block's parts by names of their own (what comes behind a statement is then one word in a proof) -/
namespace L2
open PySem PySem.Spec PyProof.Rows
def sBody : Stmt → List Stmt
  | .For _ _ b _ _ => b
  | .While _ b _ _ => b
  | .If _ b _ _ => b
  | _ => []
def sElse : Stmt → List Stmt
  | .If _ _ b _ => b
  | _ => []
theorem hideI {X : Cx} {b : List Stmt} {D : Ends} {σ : St} {H : Hp} (s : List Stmt) {t : TS} (h : PSs X s t) (k : ∀ u, PSs X s u → u = t → ∃ t, PSs X b t ∧ t D σ H) : ∃ t, PSs X b t ∧ t D σ H := k t h rfl
theorem by_eq {u t : TS} (e : u = t) {D : Ends} {σ : St} {H : Hp} (h : t D σ H) : u D σ H := e ▸ h
theorem len1 {α : Type} : ∀ {us : List α}, us.length = 1 → ∃ a, us = [a]
  | [a], _ => ⟨a, rfl⟩
theorem lenS {α : Type} {n : Nat} : ∀ {us : List α}, us.length = n + 1 → ∃ a vs, us = a :: vs ∧ vs.length = n
  | a :: vs, h => ⟨a, vs, rfl, Nat.succ.inj h⟩
theorem len2 {α : Type} {us : List α} (h : us.length = 2) : ∃ a b, us = [a, b] := by
  obtain ⟨a, vs, rfl, h2⟩ := lenS h
  obtain ⟨b, rfl⟩ := len1 h2
  exact ⟨a, b, rfl⟩
theorem len3 {α : Type} {us : List α} (h : us.length = 3) : ∃ a b c, us = [a, b, c] := by
  obtain ⟨a, vs, rfl, h2⟩ := lenS h
  obtain ⟨b, c, rfl⟩ := len2 h2
  exact ⟨a, b, c, rfl⟩
theorem Vals.inv {v : V} {vs : List V} {us : List Value} (h : Vals (v :: vs) us) : ∃ u us', us = u :: us' ∧ RelV v u ∧ Vals vs us' := by
  cases h with
  | cons r t => exact ⟨_, _, rfl, r, t⟩
theorem Vals.end_ {us : List Value} (h : Vals [] us) : us = [] := by
  cases h
  rfl
end L2

/-! exceptions of own classes: raised, passed on, caught -/
namespace L2
open PySem PySem.Spec PyProof.Rows
end L2

namespace L2
open PySem PySem.Spec PyProof.Rows
/-! ### callees that may raise -/
/-! ### which classes an except names -/
end L2

namespace L2
open PySem PySem.Spec PyProof.Rows
/-! ### try -/
end L2

namespace L2
open PySem PySem.Spec PyProof.Rows PySem.W
/-! ### an own class of errors, under ValueError by one class more -/
end L2

namespace L2
open PySem PySem.Spec PyProof.Rows PySem.W Builtin Builtin.ObjectAttr
end L2

namespace L2
open PySem PySem.Spec PyProof.Rows PySem.W Builtin Builtin.ObjectAttr
end L2

namespace L2
open PySem PySem.Spec PyProof.Rows PySem.W
end L2

namespace L2
open PySem PySem.Spec PyProof.Rows PySem.W
end L2

namespace L2
open PySem PySem.Spec PyProof.Rows PySem.W
end L2

/-! texts with values put in -/
namespace L2
open PySem PySem.Spec PyProof.Rows
end L2

/-! a display of many written texts -/
namespace L2
open PySem PySem.Spec PyProof.Rows
end L2
namespace L2
open PySem PySem.Spec PyProof.Rows
end L2
namespace L2
open PySem PySem.Spec PyProof.Rows PySem.W
variable {X : Cx}
end L2

/-! sorted: what it gives is what it was given, in some order, at any length -/
namespace Srt
open PySem PyProof.Rows
def gallop' : Bool → Keyed → Array Keyed → Nat → Nat → Nat → StateT SortSt Sem (Option Nat) := sortPriv% PySem.Builtin.gallop
def mergeLo' : Array Keyed → Array Keyed → StateT SortSt Sem (Array Keyed) := sortPriv% PySem.Builtin.mergeLo
def mergeHi' : Array Keyed → Array Keyed → StateT SortSt Sem (Array Keyed) := sortPriv% PySem.Builtin.mergeHi
/-- as another state but for how soon it gallops -/
structure Like (st st' : SortSt) : Prop where
  arr : arrOf st' = arrOf st
  kind : kindOf st' = kindOf st
  fail : failedOf st' = failedOf st
  pend : pendingOf st' = pendingOf st
theorem Like.refl (st : SortSt) : Like st st := ⟨rfl, rfl, rfl, rfl⟩
theorem Like.trans {a b c : SortSt} (x : Like a b) (y : Like b c) : Like a c := ⟨y.arr.trans x.arr, y.kind.trans x.kind, y.fail.trans x.fail, y.pend.trans x.pend⟩
section
variable {prog : Program} {w : World} {A : Around} {E : Value → Shared → Prop} {s : Shared} {κ : SortKind} {Ok : Keyed → Prop} {st : SortSt}
theorem wpS_elem {arr : Array Keyed} {i : Nat} {Q : Keyed → SortSt → Prop} (hi : i < arr.size) (h : ∀ p, p ∈ arr.toList → arr[i]? = some p → Q p st) : wpS (model prog w) A E s (elem' arr i) Q st := by
  have e : arr[i]? = some arr[i] := getElem?_pos arr i hi
  rw [elem'_eq, e]
  exact wpS_pure (h _ (by simp) e)
end
end Srt

namespace Srt
open PySem PyProof.Rows
/-- what is out: these many of the one, these of the other -/
def Out (a b : Array Keyed) (out : Array Keyed) (ia ib : Nat) : Prop := out.toList.Perm (a.toList.take ia ++ b.toList.take ib)
section
variable {a b out : Array Keyed} {ia ib : Nat}
theorem perm4 {α : Type} (x y z w : List α) : (x ++ y ++ (z ++ w)).Perm (x ++ z ++ (y ++ w)) := by
  rw [List.append_assoc, List.append_assoc]
  refine List.Perm.append_left x ?_
  rw [← List.append_assoc, ← List.append_assoc]
  exact List.Perm.append_right w List.perm_append_comm
theorem Out.done (h : Out a b out ia ib) : (out ++ a.extract ia a.size ++ b.extract ib b.size).toList.Perm (a.toList ++ b.toList) := by
  rw [Array.toList_append, Array.toList_append, Array.toList_extract, Array.toList_extract]
  have e1 : a.toList.extract ia a.size = a.toList.drop ia := by rw [List.extract_eq_drop_take]; apply List.take_of_length_le; rw [List.length_drop, Array.length_toList]; exact Nat.le_refl _
  have e2 : b.toList.extract ib b.size = b.toList.drop ib := by rw [List.extract_eq_drop_take]; apply List.take_of_length_le; rw [List.length_drop, Array.length_toList]; exact Nat.le_refl _
  rw [e1, e2, List.append_assoc]
  refine (List.Perm.append_right _ h).trans ((perm4 ..).trans ?_)
  rw [List.take_append_drop, List.take_append_drop]
theorem Out.last (h : Out a b out ia ib) : (out ++ b.extract ib b.size ++ a.extract ia a.size).toList.Perm (a.toList ++ b.toList) := by
  refine List.Perm.trans ?_ h.done
  rw [Array.toList_append, Array.toList_append, Array.toList_append, Array.toList_append, List.append_assoc, List.append_assoc]
  exact List.Perm.append_left _ List.perm_append_comm
theorem Out.extA {k : Nat} (h : Out a b out ia ib) (hk : ia + k ≤ a.size) : Out a b (out ++ a.extract ia (ia + k)) (ia + k) ib := by
  unfold Out
  rw [Array.toList_append, Array.toList_extract, List.extract_eq_drop_take]
  have e : a.toList.take (ia + k) = a.toList.take ia ++ (a.toList.drop ia).take k := List.take_add ..
  rw [e, show ia + k - ia = k by (first | lia | omega)]
  refine (List.Perm.append_right _ h).trans ?_
  rw [List.append_assoc, List.append_assoc]
  exact List.Perm.append_left _ List.perm_append_comm
theorem Out.extB {k : Nat} (h : Out a b out ia ib) (hk : ib + k ≤ b.size) : Out a b (out ++ b.extract ib (ib + k)) ia (ib + k) := by
  unfold Out
  rw [Array.toList_append, Array.toList_extract, List.extract_eq_drop_take]
  have e : b.toList.take (ib + k) = b.toList.take ib ++ (b.toList.drop ib).take k := List.take_add ..
  rw [e, show ib + k - ib = k by (first | lia | omega)]
  refine (List.Perm.append_right _ h).trans ?_
  rw [List.append_assoc]
theorem take_one {α : Type} {xs : List α} {i : Nat} {p : α} (h : xs[i]? = some p) : xs.take (i + 1) = xs.take i ++ [p] := by
  obtain ⟨hi, e⟩ := List.getElem?_eq_some_iff.mp h
  rw [List.take_succ_eq_append_getElem hi, e]
theorem Out.pushA {p : Keyed} (h : Out a b out ia ib) (hp : a[ia]? = some p) : Out a b (out.push p) (ia + 1) ib := by
  have hp' : a.toList[ia]? = some p := by rw [← hp]; simp
  unfold Out
  rw [Array.toList_push, take_one hp']
  refine (List.Perm.append_right _ h).trans ?_
  rw [List.append_assoc, List.append_assoc]
  exact List.Perm.append_left _ List.perm_append_comm
theorem Out.pushB {p : Keyed} (h : Out a b out ia ib) (hp : b[ib]? = some p) : Out a b (out.push p) ia (ib + 1) := by
  have hp' : b.toList[ib]? = some p := by rw [← hp]; simp
  unfold Out
  rw [Array.toList_push, take_one hp']
  refine (List.Perm.append_right _ h).trans ?_
  rw [List.append_assoc]
theorem out0 {p : Keyed} (hp : b[0]? = some p) : Out a b #[p] 0 1 := by
  have h0 : Out a b #[] 0 0 := by
    unfold Out
    rw [List.take_zero, List.take_zero]
    exact List.Perm.refl _
  exact h0.pushB hp
end
end Srt

namespace Srt
open PySem PyProof.Rows
section
variable {prog : Program} {w : World} {A : Around} {E : Value → Shared → Prop} {s : Shared} {κ : SortKind} {Ok : Keyed → Prop} {st : SortSt}
theorem like_gallop (st : SortSt) (g : Nat) : Like st (SortSt.mk' (kindOf st) (arrOf st) (pendingOf st) g (failedOf st)) := ⟨rfl, rfl, rfl, rfl⟩
end
end Srt

namespace Srt
open PySem PyProof.Rows
/-- what is out from the right: all from these places on -/
def OutH (a b : Array Keyed) (out : Array Keyed) (na nb : Nat) : Prop := out.toList.Perm (a.toList.drop na ++ b.toList.drop nb)
section
variable {a b out : Array Keyed} {na nb : Nat}
theorem ex0 (a : Array Keyed) (n : Nat) : (a.extract 0 n).toList = a.toList.take n := by
  rw [Array.toList_extract, List.extract_eq_drop_take, List.drop_zero, Nat.sub_zero]
theorem OutH.done (h : OutH a b out na nb) : (a.extract 0 na ++ b.extract 0 nb ++ out.reverse).toList.Perm (a.toList ++ b.toList) := by
  rw [Array.toList_append, Array.toList_append, ex0, ex0, Array.toList_reverse]
  refine (List.Perm.append_left _ ((List.reverse_perm _).trans h)).trans ((perm4 ..).trans ?_)
  rw [List.take_append_drop, List.take_append_drop]
theorem OutH.first (h : OutH a b out na nb) : (b.extract 0 nb ++ a.extract 0 na ++ out.reverse).toList.Perm (a.toList ++ b.toList) := by
  refine List.Perm.trans ?_ h.done
  rw [Array.toList_append, Array.toList_append, Array.toList_append, Array.toList_append]
  exact List.Perm.append_right _ List.perm_append_comm
theorem drop_one {α : Type} {xs : List α} {i : Nat} {p : α} (h : xs[i]? = some p) : xs.drop i = p :: xs.drop (i + 1) := by
  obtain ⟨hi, e⟩ := List.getElem?_eq_some_iff.mp h
  rw [← e]
  exact List.drop_eq_getElem_cons hi
theorem OutH.pushA {p : Keyed} (h : OutH a b out na nb) (h1 : 1 ≤ na) (hp : a[na - 1]? = some p) : OutH a b (out.push p) (na - 1) nb := by
  have hp' : a.toList[na - 1]? = some p := by rw [← hp]; simp
  unfold OutH
  rw [Array.toList_push, drop_one hp', Nat.sub_add_cancel h1]
  refine (List.Perm.append_right _ h).trans ?_
  exact List.perm_append_comm
theorem OutH.pushB {p : Keyed} (h : OutH a b out na nb) (h1 : 1 ≤ nb) (hp : b[nb - 1]? = some p) : OutH a b (out.push p) na (nb - 1) := by
  have hp' : b.toList[nb - 1]? = some p := by rw [← hp]; simp
  unfold OutH
  rw [Array.toList_push, drop_one hp', Nat.sub_add_cancel h1]
  refine (List.Perm.append_right _ h).trans ?_
  rw [List.append_assoc]
  refine List.Perm.append_left _ ?_
  exact List.perm_append_comm
theorem drop_mid {α : Type} (xs : List α) {i j : Nat} (h : i ≤ j) : xs.drop i = (xs.drop i).take (j - i) ++ xs.drop j := by
  have := List.take_append_drop (j - i) (xs.drop i)
  rw [List.drop_drop, Nat.add_sub_cancel' h] at this
  exact this.symm
theorem OutH.extA {k : Nat} (h : OutH a b out na nb) (hk : k ≤ na) : OutH a b (out ++ (a.extract k na).reverse) k nb := by
  unfold OutH
  rw [Array.toList_append, Array.toList_reverse, Array.toList_extract, List.extract_eq_drop_take]
  refine (List.Perm.append h (List.reverse_perm _)).trans ?_
  refine List.perm_append_comm.trans ?_
  rw [← List.append_assoc, ← drop_mid a.toList hk]
theorem OutH.extB {k : Nat} (h : OutH a b out na nb) (hk : k ≤ nb) : OutH a b (out ++ (b.extract k nb).reverse) na k := by
  unfold OutH
  rw [Array.toList_append, Array.toList_reverse, Array.toList_extract, List.extract_eq_drop_take]
  refine (List.Perm.append h (List.reverse_perm _)).trans ?_
  rw [List.append_assoc]
  refine List.Perm.append_left _ (List.perm_append_comm.trans ?_)
  rw [← drop_mid b.toList hk]
theorem outH0 {p : Keyed} (h1 : 1 ≤ a.size) (hp : a[a.size - 1]? = some p) : OutH a b #[p] (a.size - 1) b.size := by
  have h0 : OutH a b #[] a.size b.size := by
    unfold OutH
    rw [List.drop_eq_nil_of_le (by rw [Array.length_toList]; exact Nat.le_refl _), List.drop_eq_nil_of_le (by rw [Array.length_toList]; exact Nat.le_refl _)]
    exact List.Perm.refl _
  exact h0.pushA h1 hp
end
end Srt

namespace Srt
open PySem PyProof.Rows
/-- the same items in some order, all else as it was -/
structure Pm (st st' : SortSt) : Prop where
  arr : (arrOf st').toList.Perm (arrOf st).toList
  kind : kindOf st' = kindOf st
  fail : failedOf st' = failedOf st
  pend : pendingOf st' = pendingOf st
theorem Pm.refl (st : SortSt) : Pm st st := ⟨List.Perm.refl _, rfl, rfl, rfl⟩
theorem Pm.trans {a b c : SortSt} (x : Pm a b) (y : Pm b c) : Pm a c := ⟨y.arr.trans x.arr, y.kind.trans x.kind, y.fail.trans x.fail, y.pend.trans x.pend⟩
theorem Pm.size {a b : SortSt} (x : Pm a b) : (arrOf b).size = (arrOf a).size := by
  have := x.arr.length_eq
  rw [Array.length_toList, Array.length_toList] at this
  exact this
theorem Pm.ok {a b : SortSt} {Ok : Keyed → Prop} (x : Pm a b) (h : ∀ p ∈ (arrOf a).toList, Ok p) : ∀ p ∈ (arrOf b).toList, Ok p := fun p hp => h p (x.arr.mem_iff.mp hp)
theorem Pm.mirror (st : SortSt) (i j : Nat) : Pm st (setArr st (mirror (arrOf st) i j ((j - i) / 2))) := ⟨Array.perm_iff_toList_perm.mp (mirror_perm _ _ _ _), rfl, rfl, rfl⟩
theorem Pm.bubble (st : SortSt) (i j : Nat) : Pm st (setArr st (bubble (arrOf st) i (i - j))) := ⟨Array.perm_iff_toList_perm.mp (bubble_perm _ _ _), rfl, rfl, rfl⟩
end Srt

namespace Srt
open PySem PyProof.Rows
/-- runs one behind the other, from here to there -/
def Cov : List (Nat × Nat × Nat) → Nat → Nat → Prop
  | [], lo, hi => lo = hi
  | x :: r, lo, hi => x.1 = lo ∧ 1 ≤ x.2.1 ∧ Cov r (lo + x.2.1) hi
theorem Cov.le : ∀ {l : List (Nat × Nat × Nat)} {lo hi : Nat}, Cov l lo hi → lo + l.length ≤ hi
  | [], lo, hi, h => Nat.le_of_eq h
  | x :: r, lo, hi, ⟨_, h1, h2⟩ => by
    have := Cov.le h2
    rw [List.length_cons]
    (first | lia | omega)
theorem Cov.push : ∀ {l : List (Nat × Nat × Nat)} {lo hi n p : Nat}, Cov l lo hi → 1 ≤ n → Cov (l ++ [(hi, n, p)]) lo (hi + n)
  | [], lo, hi, n, p, h, h1 => by
    have e : lo = hi := h
    subst e
    exact ⟨rfl, h1, rfl⟩
  | x :: r, lo, hi, n, p, ⟨a, b, c⟩, h1 => ⟨a, b, c.push h1⟩
theorem Cov.at : ∀ {l : List (Nat × Nat × Nat)} {i lo hi sa na p sb nb q : Nat}, Cov l lo hi → l[i]? = some (sa, na, p) → l[i + 1]? = some (sb, nb, q) →
    sb = sa + na ∧ 1 ≤ na ∧ 1 ≤ nb ∧ sb + nb ≤ hi ∧ Cov ((l.set i (sa, na + nb, p)).eraseIdx (i + 1)) lo hi
  | x :: y :: r, 0, lo, hi, sa, na, p, sb, nb, q, ⟨a, b, c1, c2, c3⟩, h1, h2 => by
    have e1 : x = (sa, na, p) := by simpa using h1
    have e2 : y = (sb, nb, q) := by simpa using h2
    subst e1
    subst e2
    have a' : sa = lo := a
    have c1' : sb = lo + na := c1
    have hle := c3.le
    subst a'
    refine ⟨c1', b, c2, ?_, rfl, ?_, ?_⟩
    · have : sa + na + nb ≤ hi := by
        have h3 : sa + na + nb + r.length ≤ hi := hle
        (first | lia | omega)
      (first | lia | omega)
    · show 1 ≤ na + nb
      have : 1 ≤ na := b
      (first | lia | omega)
    · show Cov r (sa + (na + nb)) hi
      rw [← Nat.add_assoc]
      exact c3
  | x :: r, i + 1, lo, hi, sa, na, p, sb, nb, q, ⟨a, b, c⟩, h1, h2 => by
    obtain ⟨k1, k2, k3, k4, k5⟩ := Cov.at (l := r) (i := i) c (by simpa using h1) (by simpa using h2)
    exact ⟨k1, k2, k3, k4, a, b, k5⟩
  | [x], 0, _, _, _, _, _, _, _, _, _, _, h2 => by simp at h2
  | [], _, _, _, _, _, _, _, _, _, _, h1, _ => by simp at h1
theorem Cov.last : ∀ {l : List (Nat × Nat × Nat)} {lo hi : Nat} (f : Nat × Nat × Nat → Nat × Nat × Nat) (_ : ∀ x, (f x).1 = x.1 ∧ (f x).2.1 = x.2.1) (i : Nat), Cov l lo hi → Cov (l.modify i f) lo hi
  | [], lo, hi, f, hf, i, h => by cases i <;> exact h
  | x :: r, lo, hi, f, hf, 0, ⟨a, b, c⟩ => by
    refine ⟨(hf x).1.trans a, by rw [(hf x).2]; exact b, ?_⟩
    rw [(hf x).2]
    exact c
  | x :: r, lo, hi, f, hf, i + 1, ⟨a, b, c⟩ => ⟨a, b, Cov.last f hf i c⟩
/-- items put in one behind the other -/
theorem splice (base : Nat) : ∀ (m : List Keyed) (n : Nat) (arr : Array Keyed), base + n + m.length ≤ arr.size →
    ((m.zipIdx n).foldl (fun (a : Array Keyed) (x : Keyed × Nat) => match x with | (p, j) => a.setIfInBounds (base + j) p) arr).toList = arr.toList.take (base + n) ++ m ++ arr.toList.drop (base + n + m.length)
  | [], n, arr, _ => by
    show arr.toList = _
    rw [List.append_nil, List.length_nil, Nat.add_zero, List.take_append_drop]
  | p :: m, n, arr, h => by
    rw [List.length_cons] at h
    rw [List.zipIdx_cons, List.foldl_cons]
    have hs : (arr.setIfInBounds (base + n) p).size = arr.size := Array.size_setIfInBounds
    rw [splice base m (n + 1) _ (by rw [hs]; (first | lia | omega)), Array.toList_setIfInBounds]
    have hl : base + n < arr.toList.length := by rw [Array.length_toList]; (first | lia | omega)
    rw [← Nat.add_assoc, List.take_set, List.drop_set_of_lt (by (first | lia | omega))]
    have e1 : (arr.toList.take (base + n + 1)).set (base + n) p = arr.toList.take (base + n) ++ [p] := by
      rw [List.take_succ_eq_append_getElem hl, List.set_append_right _ _ (by rw [List.length_take]; (first | lia | omega))]
      rw [show base + n - (arr.toList.take (base + n)).length = 0 by rw [List.length_take]; (first | lia | omega)]
      rfl
    rw [e1, List.length_cons, show base + n + 1 + m.length = base + n + (m.length + 1) by (first | lia | omega)]
    simp
section
variable {prog : Program} {w : World} {A : Around} {E : Value → Shared → Prop} {s : Shared} {κ : SortKind} {Ok : Keyed → Prop} {st : SortSt}
/-- some order of what was given, and the runs cover it up to here -/
structure SB (a₀ : Array Keyed) (κ : SortKind) (hi : Nat) (st : SortSt) : Prop where
  arr : (arrOf st).toList.Perm a₀.toList
  kind : kindOf st = κ
  fail : failedOf st = none
  cov : Cov (pendingOf st).toList 0 hi
theorem SB.size {a₀ : Array Keyed} {hi : Nat} (x : SB a₀ κ hi st) : (arrOf st).size = a₀.size := by
  have := x.arr.length_eq
  rw [Array.length_toList, Array.length_toList] at this
  exact this
theorem SB.ok {a₀ : Array Keyed} {hi : Nat} (x : SB a₀ κ hi st) (h : ∀ p ∈ a₀.toList, Ok p) : ∀ p ∈ (arrOf st).toList, Ok p := fun p hp => h p (x.arr.mem_iff.mp hp)
theorem SB.pm {a₀ : Array Keyed} {hi : Nat} {st' : SortSt} (x : SB a₀ κ hi st) (p : Pm st st') : SB a₀ κ hi st' := ⟨p.arr.trans x.arr, p.kind.trans x.kind, p.fail.trans x.fail, by rw [p.pend]; exact x.cov⟩
end
end Srt

namespace Srt
open PySem PyProof.Rows
section
variable {prog : Program} {w : World} {A : Around} {E : Value → Shared → Prop} {s : Shared} {κ : SortKind} {Ok : Keyed → Prop} {st : SortSt}
theorem wpS_set {v : SortSt} {Q : PUnit → SortSt → Prop} (h : Q ⟨⟩ v) : wpS (model prog w) A E s (set v : StateT SortSt Sem PUnit) Q st := by
  unfold wpS
  rw [StateT.run_set]
  exact wpAny_pure ⟨rfl, h⟩
theorem splice2 (base : Nat) (m : List Keyed) (arr : Array Keyed) (h : base + m.length ≤ arr.size) :
    (m.zipIdx.foldl (fun (a : Array Keyed) (x : Keyed × Nat) => a.setIfInBounds (base + x.2) x.1) arr).toList = arr.toList.take base ++ m ++ arr.toList.drop (base + m.length) := splice base m 0 arr h
theorem ex_mid (L : List Keyed) {m b e : Nat} (h1 : m ≤ b) (h2 : b ≤ e) : L.extract m b ++ L.extract b e = (L.drop m).take (e - m) := by
  rw [List.extract_eq_drop_take, List.extract_eq_drop_take, show e - m = (b - m) + (e - b) by (first | lia | omega), List.take_add, List.drop_drop, Nat.add_sub_cancel' h1]
theorem perm_mid {L r : List Keyed} {m c : Nat} (h : r.Perm ((L.drop m).take c)) (hc : r.length = c) : (L.take m ++ r ++ L.drop (m + r.length)).Perm L := by
  subst hc
  have e : L = L.take m ++ (L.drop m).take r.length ++ L.drop (m + r.length) := by
    rw [List.append_assoc, ← List.drop_drop, List.take_append_drop, List.take_append_drop]
  refine List.Perm.trans ?_ (List.Perm.of_eq e.symm)
  exact List.Perm.append_right _ (List.Perm.append_left _ h)
end
end Srt

namespace Srt
open PySem PyProof.Rows
end Srt

namespace Srt
open PySem PyProof.Rows
section
variable {prog : Program} {w : World} {A : Around} {E : Value → Shared → Prop} {s : Shared}
theorem snds_perm {vs : List Value} {xs : Array Keyed} (h : xs.toList.Perm (pairsOf vs).toList) : (xs.map (·.2)).toList.Perm vs := by
  rw [Array.toList_map]
  refine (h.map (·.2)).trans (List.Perm.of_eq ?_)
  rw [pairsOf_toList, show (fun p : Keyed => p.2) = Prod.snd from rfl, List.map_snd_zip (Nat.le_refl _)]
end
end Srt

namespace Srt
open PySem PyProof.Rows
end Srt

namespace Srt
open PySem PyProof.Rows PySem.W
end Srt

namespace L2
open PySem PySem.Spec PyProof.Rows
theorem vals_mem : ∀ {vs : List V} {us : List Value}, Vals vs us → ∀ u ∈ us, ∃ v ∈ vs, RelV v u
  | _, _, .cons a t, u, hu => by
    rcases List.mem_cons.mp hu with rfl | hu
    · exact ⟨_, List.mem_cons_self .., a⟩
    · obtain ⟨v, hv, r⟩ := vals_mem t u hu
      exact ⟨v, List.mem_cons_of_mem _ hv, r⟩
end L2

namespace L2
open PySem PySem.Spec PyProof.Rows PySem.W
/-- a dict as it stands, whatever its keys -/
def RawD (h : Heap) (d : Addr) (es : Array DictEntry) (ep : Nat) : Prop := ∃ o, h.get? d = some o ∧ o.ExactDict ∧ o.data = .dict es ep
theorem RawD.tyIs {s : Shared} {d : Addr} {es : Array DictEntry} {ep : Nat} (x : RawD s.heap d es ep) : s.TypeIs (.ref d) "dict" := let ⟨o, ho, hc, _⟩ := x; ⟨o, ho, hc.1⟩
theorem RawD.to {h h' : Heap} {d : Addr} {es : Array DictEntry} {ep : Nat} (x : RawD h d es ep) (e : ∀ o, h.get? d = some o → h'.get? d = some o) : RawD h' d es ep := let ⟨o, ho, r⟩ := x; ⟨o, e _ ho, r⟩
section
variable {prog : Program} {w : World} {A : Around} {E : Value → Shared → Prop} {s : Shared} {it d : Addr} {es : Array DictEntry} {i ep : Nat}
theorem raw_iter {Q : Value → Shared → Prop} (lo : (d == sysModules) = false) (x : RawD s.heap d es ep)
    (q : Q (.ref s.heap.objs.size) { s with heap := s.heap.push { cls := .type "dict_keyiterator", data := .fields #[.ref d, .int 0 0, .int es.size 0, .int ep 0] } }) : wpAny (model prog w) A (pyIter (.ref d)) Q E s := by
  obtain ⟨o, ho, hx, hdat⟩ := id x
  have hT := x.tyIs
  refine wpAny_pyIter_slot hT PySem.F.slot_dict_iter (wpAny_call_entry PySem.F.slot_dict_iter hT PySem.F.entry_dict_iter ?_ (PySem.F.args_dict_iter_1 _))
  unfold Builtin.«dict.__iter__»; refine wpAny_bind ?_
  unfold Builtin.Dict.dictSlotNone; refine wpAny_bind (wpAny_notOrdered_dict hT ?_)
  refine wpAny_pure (?_ : wpAny _ _ (Builtin.Dict.showsAll d >>= _) _ _ s)
  unfold Builtin.Dict.showsAll; rw [if_neg (by rw [lo]; exact Bool.false_ne_true)]
  refine wpAny_bind (wpAny_pure (wpAny_bind (wpAny_dictEntries ho hdat (wpAny_bind (wpAny_dictEpoch ho hdat ?_)))))
  exact wpAny_bind (wpAny_newObj_type (wpAny_pure ⟨_, rfl, "dict_keyiterator", _, ⟨_, Heap.get?_push_size _ rfl, rfl⟩, PySem.F.slot_dict_keyiterator_next.lookup, q⟩))
theorem raw_item {Q : Option Value → Shared → Prop} (st : s.heap.IsKeyIter it d i es.size ep) (x : RawD s.heap d es ep) (hi : i < es.size)
    (q : ∀ h', h'.IsKeyIter it d (i + 1) es.size ep → Heap.SameBut it s.heap h' → Q (some es[i].key) { s with heap := h' }) : wpAny (model prog w) A (pyNext (.ref it)) Q E s := by
  obtain ⟨o, ho, hc, hd⟩ := id st
  obtain ⟨od, hod, hxd, hdd⟩ := id x
  unfold pyNext; refine wpAny_bind (wpAny_attempt (wpAny_callSpecial?_slot (name := Str.ofString "__next__") st.typeIs PySem.F.slot_dict_keyiterator_next (wpAny_call_entry PySem.F.slot_dict_keyiterator_next st.typeIs PySem.F.entry_dict_keyiterator_next ?_ (PySem.F.args_dict_keyiterator_next_1 _))))
  refine wpAny_bind (wpAny_pure (wpAny_bind (wpAny_bind ?_)))
  first | refine wpAny_bind (wpAny_typeNameOfWhole_keyiter st.typeIs (wpAny_pure (wpAny_bind (wpAny_fieldsOf ho hd ?_)))) | refine wpAny_bind (wpAny_typeNameOf_keyiter st.typeIs (wpAny_pure (wpAny_bind (wpAny_fieldsOf ho hd ?_))))
  have own : Builtin.Dict_items.ownsTuple "dict_keyiterator" = false := by decide
  simp only [own, Bool.false_eq_true, if_false]; change wpAny _ _ (if (Value.ref d == Value.none) = true then _ else _) _ _ s
  rw [if_neg (fun z : (Value.ref d == Value.none) = true => Bool.false_ne_true z)]
  refine wpAny_bind (wpAny_pure (wpAny_bind (wpAny_dictEntries hod hdd ?_)))
  rw [if_neg (by simp)]; refine wpAny_bind (wpAny_pure (wpAny_bind (wpAny_dictEpoch hod hdd ?_)))
  rw [if_neg (by simp)]; refine wpAny_pure ?_
  simp only [show ¬ ((i : Int) < 0) by (first | lia | omega), if_false, Int.toNat_natCast, Array.getElem?_eq_getElem hi]
  refine wpAny_bind ?_; first | refine wpAny_bind (wpAny_typeNameOfWhole_keyiter st.typeIs (wpAny_pure (wpAny_bind (wpAny_isOneOf_keyiter st.typeIs ?_)))) | refine wpAny_bind (wpAny_typeNameOf_keyiter st.typeIs (wpAny_pure (wpAny_bind (wpAny_isOneOf_keyiter st.typeIs ?_))))
  change wpAny _ _ (setField (.ref it) 1 (rawInt ((i : Int) + 1)) >>= _) _ _ s
  refine wpAny_bind (wpAny_setField ho hd (by simp) ?_)
  have st2 : (s.heap.update it (Obj.mapFields (·.setIfInBounds 1 (rawInt ((i : Int) + 1))))).IsKeyIter it d (i + 1) es.size ep := ⟨_, Heap.get?_update_self _ ho (Obj.isFreed_of_fields (Obj.data_mapFields hd _)), (Obj.cls_mapFields ..).trans hc, by rw [Obj.data_mapFields hd]; simp [rawInt]⟩
  refine wpAny_bind (wpAny_holding (wpAny_bind (wpAny_isOneOf_keyiter (s := { s with heap := s.heap.update it (Obj.mapFields (·.setIfInBounds 1 (rawInt ((i : Int) + 1)))) }) st2.typeIs ?_)))
  change wpAny _ _ (pure es[i].key) _ _ _
  exact wpAny_pure (wpAny_pure ⟨_, rfl, wpAny_pure (q _ st2 (Heap.SameBut.update ..))⟩)
theorem raw_end {Q : Option Value → Shared → Prop} (hh : A.handled = none) (st : s.heap.IsKeyIter it d i es.size ep) (x : RawD s.heap d es ep) (hi : es.size ≤ i)
    (q : ∀ h', Heap.ExtBut it s.heap h' → Q none { s with heap := h' }) : wpAny (model prog w) A (pyNext (.ref it)) Q E s := by
  obtain ⟨o, ho, hc, hd⟩ := id st
  obtain ⟨od, hod, hxd, hdd⟩ := id x
  unfold pyNext; refine wpAny_bind (wpAny_attempt (wpAny_callSpecial?_slot (name := Str.ofString "__next__") st.typeIs PySem.F.slot_dict_keyiterator_next (wpAny_call_entry PySem.F.slot_dict_keyiterator_next st.typeIs PySem.F.entry_dict_keyiterator_next ?_ (PySem.F.args_dict_keyiterator_next_1 _))))
  refine wpAny_bind (wpAny_pure (wpAny_bind (wpAny_bind ?_)))
  first | refine wpAny_bind (wpAny_typeNameOfWhole_keyiter st.typeIs (wpAny_pure (wpAny_bind (wpAny_fieldsOf ho hd ?_)))) | refine wpAny_bind (wpAny_typeNameOf_keyiter st.typeIs (wpAny_pure (wpAny_bind (wpAny_fieldsOf ho hd ?_))))
  have own : Builtin.Dict_items.ownsTuple "dict_keyiterator" = false := by decide
  simp only [own, Bool.false_eq_true, if_false]; change wpAny _ _ (if (Value.ref d == Value.none) = true then _ else _) _ _ s
  rw [if_neg (fun z : (Value.ref d == Value.none) = true => Bool.false_ne_true z)]
  refine wpAny_bind (wpAny_pure (wpAny_bind (wpAny_dictEntries hod hdd ?_)))
  rw [if_neg (by simp)]; refine wpAny_bind (wpAny_pure (wpAny_bind (wpAny_dictEpoch hod hdd ?_)))
  rw [if_neg (by simp)]; refine wpAny_pure ?_
  simp only [show ¬ ((i : Int) < 0) by (first | lia | omega), if_false, Int.toNat_natCast, Array.getElem?_eq_none hi]
  refine wpAny_bind ?_; first | refine wpAny_bind (wpAny_typeNameOfWhole_keyiter st.typeIs (wpAny_pure ?_)) | refine wpAny_bind (wpAny_typeNameOf_keyiter st.typeIs (wpAny_pure ?_))
  change wpAny _ _ (setField (.ref it) 0 .none >>= _) _ _ s
  refine wpAny_bind (wpAny_setField ho hd (by simp) ?_)
  change wpAny _ _ (newExc (.type "StopIteration") [] >>= _) _ _ _
  refine wpAny_bind ?_; simp only [newExc, newTuple]
  refine wpAny_bind (wpAny_newObj_type (wpAny_bind (m := firstArgMember _ _) (wpAny_of_eq (a := Value.none) (by first | rfl | (simp only [firstArgMember]; rfl)) (wpAny_newObj_type ?_ (by size_fits)))) (by size_fits))
  simp only [raiseNew]; refine wpAny_bind (wpAny_handled ?_)
  rw [show A.in1.handled = none from hh]; refine wpAny_bind (wpAny_pure (wpAny_throw ?_))
  refine wpAny_bind (wpAny_isInstance (T := "StopIteration") (b := true) (v := .ref _) (by exact ⟨_, Heap.get?_push_size _ rfl, rfl⟩) isSubtype_stop ?_)
  exact wpAny_pure (q _ (((Heap.SameBut.update ..).extBut.push _).push _))
theorem raw_walks (hh : A.handled = none) (hne : d ≠ it) : Walks prog w A it [it, d] [it] es.size (fun i v => ∃ e, es[i]? = some e ∧ v = e.key) (fun i h => h.IsKeyIter it d i es.size ep ∧ RawD h d es ep) where
  sub := fun b hb => List.mem_cons.mpr (.inl (List.mem_singleton.mp hb))
  frame := fun _ _ _ st hk => ⟨st.1.at fun o e => hk it (List.mem_cons_self ..) o e, st.2.to fun o e => hk d (List.mem_cons_of_mem _ (List.mem_cons_self ..)) o e⟩
  item := fun j s Q E hj st hQ => raw_item st.1 st.2 hj fun h' st' sb => hQ _ h' s.toks ⟨_, Array.getElem?_eq_getElem hj, rfl⟩ ⟨st', st.2.to fun o e => sb.extBut d o hne e⟩ fun b o hb e => sb.extBut b o (fun z => hb (List.mem_singleton.mpr z)) e
  done := fun s Q E st hQ => raw_end hh st.1 st.2 (Nat.le_refl _) fun h' he => hQ h' s.toks fun b o hb e => he b o (fun z => hb (List.mem_singleton.mpr z)) e
  self := fun _ _ _ _ st hQ => wpAny_pyIter_keyiter st.1 hQ
theorem raw_src (lo : (d == sysModules) = false) : KdlSrc prog w "dict" d d es.size (fun i v => ∃ e, es[i]? = some e ∧ v = e.key) (fun h => RawD h d es ep) where
  type := fun _ x => x.tyIs
  there := fun _ ⟨o, ho, _⟩ => ⟨Heap.lt_size ho, Heap.lt_size ho⟩
  keep := fun _ _ x hk => x.to fun o e => hk d (.inl rfl) o e
  notList := by decide
  notTuple := by decide
  hint := fun _ _ _ _ x hq => kdl_hint_dict x.tyIs hq
  iter := fun _ _ hh x => ⟨_, _, (fun _ _ hq => raw_iter lo x hq), raw_walks hh (let ⟨o, ho, _⟩ := x; Nat.ne_of_lt (Heap.lt_size ho)), ⟨⟨_, Heap.get?_push_size _ rfl, rfl, rfl⟩, x.to fun _ e => Heap.get?_push_of_some _ e⟩⟩
end
end L2

namespace L2
open PySem PySem.Spec PyProof.Rows PySem.W
end L2
namespace Srt
open PySem PyProof.Rows PySem.W
end Srt
namespace L2
open PySem PySem.Spec PyProof.Rows
end L2

namespace L2
open PySem PySem.Spec PyProof.Rows
end L2

/-! the table of a set: a search always ends -/
namespace Sts
open PySem
/-! the steps of a search -/
end Sts

/-! a table laid anew holds all its elements -/
namespace Sts
open PySem
end Sts

/-! places in rising order -/
namespace Sts
open PySem
end Sts

/-! tuples in a set -/
namespace Sts
open PySem
end Sts

/-! a tuple added to a set -/
namespace Sts
open PySem
end Sts

namespace Sts
open PySem
end Sts

/-! set(list of tuples) -/
namespace Sts
open PySem PyProof.Rows
end Sts

namespace Sts
open PySem PyProof.Rows
end Sts

/-! a set walked -/
namespace Sts
open PySem PyProof.Rows
end Sts

namespace Sts
open PySem PyProof.Rows
end Sts

namespace Sts
open PySem PyProof.Rows
end Sts

namespace Sts
open PySem PyProof.Rows PySem.W
end Sts

namespace Srt
open PySem PyProof.Rows PySem.W
end Srt

namespace Sts
open PySem PyProof.Rows PySem.W Srt
end Sts
namespace L2
open PySem PySem.Spec PyProof.Rows PySem.W
section
variable {X : Cx} {e : Expr} {te : TE} {p p' pos pos' : Pos}
theorem Inv.draws {pins : List (Addr × Obj)} {σ : St} {H : Hp} {s : Shared} {d : Drawn} (I : Inv X pins σ H s) : Inv X pins σ H { s with drawn := d } :=
  I.step (g' := s.gens) (d' := d) (t' := s.toks) (ch := []) (fun _ z => nomatch z) (fun _ _ _ _ _ e _ => e) (fun _ o _ _ _ e _ => ⟨o.slots, e⟩) (fun _ _ _ _ n => n) (fun _ o _ e => ⟨o, e⟩) (fun _ _ h => h) (fun _ _ _ h => h) (fun _ ps h => ⟨#[], by simpa using h⟩) (fun _ h => h) I.hok I.bare
end
end L2

/-! sorted: the order too -/
namespace Srd
open PySem PyProof.Rows Srt
/-- a strict weak order -/
structure Swo (lt : Keyed → Keyed → Bool) : Prop where
  asym : ∀ x y, lt x y = true → lt y x = false
  neg : ∀ x y z, lt x y = false → lt y z = false → lt x z = false
def Le (lt : Keyed → Keyed → Bool) (x y : Keyed) : Prop := lt y x = false
section
variable {lt : Keyed → Keyed → Bool} (o : Swo lt) {x y z : Keyed}
include o
theorem Swo.le_trans (h1 : Le lt x y) (h2 : Le lt y z) : Le lt x z := o.neg z y x h2 h1
theorem Swo.le_of (h : lt x y = true) : Le lt x y := o.asym x y h
theorem Swo.lt_le (h1 : lt x y = true) (h2 : Le lt y z) : lt x z = true := by
  cases h : lt x z with
  | true => rfl
  | false => rw [o.neg x z y h h2] at h1; cases h1
theorem Swo.le_lt (h1 : Le lt x y) (h2 : lt y z = true) : lt x z = true := by
  cases h : lt x z with
  | true => rfl
  | false => rw [o.neg y x z h1 h] at h2; cases h2
theorem Swo.le_refl (x : Keyed) : Le lt x x := by
  show lt x x = false
  cases h : lt x x with
  | false => rfl
  | true => have := o.asym x x h; rw [h] at this; exact this
end
/-- which of any two is less, and nothing else happens -/
def CmpL (prog : Program) (w : World) (A : Around) (s : Shared) (κ : SortKind) (Ok : Keyed → Prop) (lt : Keyed → Keyed → Bool) : Prop :=
  ∀ x y, Ok x → Ok y → ∀ E : Value → Shared → Prop, wpAny (model prog w) A (keyLt' κ x.1 y.1) (fun b s' => s' = s ∧ b = lt x y) E s
/-- this piece rises -/
def Up (lt : Keyed → Keyed → Bool) (arr : Array Keyed) (i j : Nat) : Prop := ∀ x y p q, i ≤ x → x < y → y < j → arr[x]? = some p → arr[y]? = some q → Le lt p q
/-- beyond: on the near side of the key -/
def bv (lt : Keyed → Keyed → Bool) (l : Bool) (key p : Keyed) : Bool := if l = true then lt p key else !lt key p
/-- the places that lie on the near side -/
def BV (lt : Keyed → Keyed → Bool) (l : Bool) (key : Keyed) (a : Array Keyed) (base i : Nat) : Bool := match a[base + i]? with | some p => bv lt l key p | none => false
theorem BV.anti {lt : Keyed → Keyed → Bool} (o : Swo lt) {l : Bool} {key : Keyed} {a : Array Keyed} {base n : Nat} (hb : base + n ≤ a.size) (hu : Up lt a base (base + n)) {i j : Nat} (hij : i ≤ j) (hj : j < n) (h : BV lt l key a base j = true) : BV lt l key a base i = true := by
  rcases Nat.eq_or_lt_of_le hij with rfl | hlt
  · exact h
  have ei : a[base + i]? = some a[base + i] := getElem?_pos a _ (by (first | lia | omega))
  have ej : a[base + j]? = some a[base + j] := getElem?_pos a _ (by (first | lia | omega))
  have hle := hu (base + i) (base + j) _ _ (by (first | lia | omega)) (by (first | lia | omega)) (by (first | lia | omega)) ei ej
  unfold BV at h ⊢
  rw [ej] at h
  rw [ei]
  dsimp only at h ⊢
  unfold bv at h ⊢
  cases l with
  | true =>
    rw [if_pos rfl] at h ⊢
    exact o.le_lt hle h
  | false =>
    rw [if_neg (by decide)] at h ⊢
    have h1 : lt key a[base + j] = false := by simpa using h
    have : lt key a[base + i] = false := o.le_trans (lt := lt) hle h1
    rw [this]
    rfl
section
variable {prog : Program} {w : World} {A : Around} {E : Value → Shared → Prop} {s : Shared} {κ : SortKind} {Ok : Keyed → Prop} {st : SortSt} {lt : Keyed → Keyed → Bool}
theorem wpS_ltL {x y : Keyed} {Q : Option Bool → SortSt → Prop} (hc : CmpL prog w A s κ Ok lt) (hk : kindOf st = κ) (hx : Ok x) (hy : Ok y) (h : Q (some (lt x y)) st) : wpS (model prog w) A E s (lt' x y) Q st := by
  rw [lt'_eq]
  refine wpS_bind (wpS_get ?_)
  rw [hk]
  refine wpS_bind (wpS_lift (wpAny_attempt (wpAny_mono (hc x y hx hy _) (fun b s' e => ⟨e.1, ?_⟩) fun _ _ z => z)))
  rw [e.2]
  exact wpS_pure h
theorem beyL {l : Bool} {key : Keyed} {a : Array Keyed} {base n i : Nat} {Q : Option Bool → SortSt → Prop} (hc : CmpL prog w A s κ Ok lt) (hk : kindOf st = κ) (hkey : Ok key) (ha : ∀ p ∈ a.toList, Ok p) (hb : base + n ≤ a.size) (hi : i < n) (h : Q (some (BV lt l key a base i)) st) :
    wpS (model prog w) A E s (elem' a (base + i) >>= fun x => if l = true then lt' x key else (lt' key x >>= fun r => pure (Option.map (fun z => !z) r))) Q st := by
  refine wpS_bind (wpS_elem (by (first | lia | omega)) fun p hp e => ?_)
  unfold BV at h
  rw [e] at h
  dsimp only at h
  unfold bv at h
  cases l with
  | true =>
    rw [if_pos rfl] at h ⊢
    exact wpS_ltL hc hk (ha p hp) hkey h
  | false =>
    rw [if_neg Bool.false_ne_true] at h ⊢
    exact wpS_bind (wpS_ltL hc hk hkey (ha p hp) (wpS_pure h))
set_option maxHeartbeats 1000000 in
theorem wpS_gallopL {l : Bool} {key : Keyed} {a : Array Keyed} {base n hint : Nat} {Q : Option Nat → SortSt → Prop} (o : Swo lt) (hc : CmpL prog w A s κ Ok lt) (hk : kindOf st = κ) (hkey : Ok key) (ha : ∀ p ∈ a.toList, Ok p) (hb : base + n ≤ a.size) (hh : hint < n) (hu : Up lt a base (base + n))
    (h : ∀ k, k ≤ n → (∀ i, i < k → BV lt l key a base i = true) → (∀ i, k ≤ i → i < n → BV lt l key a base i = false) → Q (some k) st) : wpS (model prog w) A E s (gallop' l key a base n hint) Q st := by
  have up : ∀ {i j}, i ≤ j → j < n → BV lt l key a base j = true → BV lt l key a base i = true := fun hij hj h => BV.anti o hb hu hij hj h
  have dn : ∀ {i j}, i ≤ j → j < n → BV lt l key a base i = false → BV lt l key a base j = false := fun {i j} hij hj h => by
    cases e : BV lt l key a base j with
    | false => rfl
    | true => rw [up hij hj e] at h; cases h
  generalize hBB : BV lt l key a base = BB at up dn h
  have bey : ∀ {st' : SortSt} {i : Nat} {Q' : Option Bool → SortSt → Prop}, st' = st → i < n → Q' (some (BB i)) st' → wpS (model prog w) A E s (elem' a (base + i) >>= fun x => if l = true then lt' x key else (lt' key x >>= fun r => pure (Option.map (fun z => !z) r))) Q' st' := fun {st' i Q'} e hi hq => by
    subst e
    exact beyL hc hk hkey ha hb hi (by rw [hBB]; exact hq)
  refine wpS_bind (bey rfl hh ?_)
  cases hright : BB hint with
  | true =>
    dsimp only
    rw [if_pos rfl]
    refine wpS_bind (wpS_mono (wpS_forRange (I := fun x c st' => st' = st ∧ ∃ lo of, c = (none, lo, of) ∧ lo < n - hint ∧ lo < of ∧ BB (hint + lo) = true ∧ x + 1 ≤ of) (Q := fun c st' => st' = st ∧ ∃ lo of, c = (none, lo, of) ∧ lo < n - hint ∧ lo < of ∧ BB (hint + lo) = true ∧ (n - hint ≤ of ∨ BB (hint + of) = false)) ?_ ?_ ⟨rfl, 0, 1, rfl, by (first | lia | omega), by (first | lia | omega), hright, by (first | lia | omega)⟩) ?_)
    · rintro i c st' _ _ ⟨rfl, lo, of, rfl, h1, h2, h3, h4⟩
      dsimp only
      by_cases hlt : of ≥ n - hint
      · rw [if_pos hlt]
        exact wpS_pure ⟨rfl, lo, of, rfl, h1, h2, h3, .inl hlt⟩
      · rw [if_neg hlt]
        refine wpS_bind (bey rfl (by (first | lia | omega)) ?_)
        cases hb2 : BB (hint + of) with
        | true => exact wpS_pure ⟨rfl, _, _, rfl, by (first | lia | omega), by (first | lia | omega), hb2, by (first | lia | omega)⟩
        | false => exact wpS_pure ⟨rfl, lo, of, rfl, h1, h2, h3, .inr hb2⟩
    · rintro c st' ⟨rfl, lo, of, rfl, h1, h2, h3, h4⟩
      exact ⟨rfl, lo, of, rfl, h1, h2, h3, .inl (by (first | lia | omega))⟩
    · rintro c st'' ⟨rfl, lo, of, rfl, h1, h2, h3, h4⟩
      dsimp only
      have g1 : hint + lo + 1 ≤ hint + min of (n - hint) := by (first | lia | omega)
      have g2 : hint + min of (n - hint) ≤ n := by (first | lia | omega)
      have g3 : ∀ i, i < hint + lo + 1 → BB i = true := fun i hi => up (show i ≤ hint + lo by (first | lia | omega)) (by (first | lia | omega)) h3
      have g4 : ∀ i, hint + min of (n - hint) ≤ i → i < n → BB i = false := fun i hi hin => by
        rcases h4 with h4 | h4
        · (first | lia | omega)
        · exact dn (show hint + of ≤ i by (first | lia | omega)) hin h4
      generalize hint + lo + 1 = lo1 at g1 g3
      generalize hint + min of (n - hint) = hi1 at g1 g2 g4
      refine wpS_bind (wpS_mono (wpS_forRange (I := fun x c st' => st' = st'' ∧ ∃ lo hi, c = (none, lo, hi) ∧ lo ≤ hi ∧ hi ≤ n ∧ (∀ i, i < lo → BB i = true) ∧ (∀ i, hi ≤ i → i < n → BB i = false) ∧ hi - lo + x ≤ n) (Q := fun c st' => st' = st'' ∧ ∃ lo hi, c = (none, lo, hi) ∧ lo = hi ∧ hi ≤ n ∧ (∀ i, i < lo → BB i = true) ∧ (∀ i, hi ≤ i → i < n → BB i = false)) ?_ ?_ ⟨rfl, lo1, hi1, rfl, g1, g2, g3, g4, by (first | lia | omega)⟩) ?_)
      · rintro i c st' _ _ ⟨rfl, lo, hi, rfl, h1, h2, h3, h4, h5⟩
        dsimp only
        by_cases hlt : lo ≥ hi
        · rw [if_pos hlt]
          exact wpS_pure ⟨rfl, lo, hi, rfl, by (first | lia | omega), h2, h3, h4⟩
        · rw [if_neg hlt]
          refine wpS_bind (bey rfl (by (first | lia | omega)) ?_)
          cases hb2 : BB (lo + (hi - lo) / 2) with
          | true => exact wpS_pure ⟨rfl, _, _, rfl, by (first | lia | omega), by (first | lia | omega), fun i hi' => up (show i ≤ lo + (hi - lo) / 2 by (first | lia | omega)) (by (first | lia | omega)) hb2, h4, by (first | lia | omega)⟩
          | false => exact wpS_pure ⟨rfl, _, _, rfl, by (first | lia | omega), by (first | lia | omega), h3, fun i hi' hin => dn hi' hin hb2, by (first | lia | omega)⟩
      · rintro c st' ⟨rfl, lo, hi, rfl, h1, h2, h3, h4, h5⟩
        exact ⟨rfl, lo, hi, rfl, by (first | lia | omega), h2, h3, h4⟩
      · rintro c st' ⟨rfl, lo, hi, rfl, h1, h2, h3, h4⟩
        exact wpS_pure (h hi h2 (fun i hi' => h3 i (by (first | lia | omega))) h4)
  | false =>
    dsimp only
    rw [if_neg Bool.false_ne_true]
    refine wpS_bind (wpS_mono (wpS_forRange (I := fun x c st' => st' = st ∧ ∃ lo of, c = (none, lo, of) ∧ lo < hint + 1 ∧ lo < of ∧ BB (hint - lo) = false ∧ x + 1 ≤ of) (Q := fun c st' => st' = st ∧ ∃ lo of, c = (none, lo, of) ∧ lo < hint + 1 ∧ lo < of ∧ BB (hint - lo) = false ∧ (hint + 1 ≤ of ∨ BB (hint - of) = true)) ?_ ?_ ⟨rfl, 0, 1, rfl, by (first | lia | omega), by (first | lia | omega), hright, by (first | lia | omega)⟩) ?_)
    · rintro i c st' _ _ ⟨rfl, lo, of, rfl, h1, h2, h3, h4⟩
      dsimp only
      by_cases hlt : of ≥ hint + 1
      · rw [if_pos hlt]
        exact wpS_pure ⟨rfl, lo, of, rfl, h1, h2, h3, .inl hlt⟩
      · rw [if_neg hlt]
        refine wpS_bind (bey rfl (by (first | lia | omega)) ?_)
        cases hb2 : BB (hint - of) with
        | true => exact wpS_pure ⟨rfl, lo, of, rfl, h1, h2, h3, .inr hb2⟩
        | false => exact wpS_pure ⟨rfl, _, _, rfl, by (first | lia | omega), by (first | lia | omega), hb2, by (first | lia | omega)⟩
    · rintro c st' ⟨rfl, lo, of, rfl, h1, h2, h3, h4⟩
      exact ⟨rfl, lo, of, rfl, h1, h2, h3, .inl (by (first | lia | omega))⟩
    · rintro c st'' ⟨rfl, lo, of, rfl, h1, h2, h3, h4⟩
      dsimp only
      have g1 : hint + 1 - min of (hint + 1) ≤ hint - lo := by (first | lia | omega)
      have g2 : hint - lo ≤ n := by (first | lia | omega)
      have g3 : ∀ i, i < hint + 1 - min of (hint + 1) → BB i = true := fun i hi => by
        rcases h4 with h4 | h4
        · (first | lia | omega)
        · exact up (show i ≤ hint - of by (first | lia | omega)) (by (first | lia | omega)) h4
      have g4 : ∀ i, hint - lo ≤ i → i < n → BB i = false := fun i hi hin => dn hi hin h3
      generalize hint + 1 - min of (hint + 1) = lo1 at g1 g3
      generalize hint - lo = hi1 at g1 g2 g4
      refine wpS_bind (wpS_mono (wpS_forRange (I := fun x c st' => st' = st'' ∧ ∃ lo hi, c = (none, lo, hi) ∧ lo ≤ hi ∧ hi ≤ n ∧ (∀ i, i < lo → BB i = true) ∧ (∀ i, hi ≤ i → i < n → BB i = false) ∧ hi - lo + x ≤ n) (Q := fun c st' => st' = st'' ∧ ∃ lo hi, c = (none, lo, hi) ∧ lo = hi ∧ hi ≤ n ∧ (∀ i, i < lo → BB i = true) ∧ (∀ i, hi ≤ i → i < n → BB i = false)) ?_ ?_ ⟨rfl, lo1, hi1, rfl, g1, g2, g3, g4, by (first | lia | omega)⟩) ?_)
      · rintro i c st' _ _ ⟨rfl, lo, hi, rfl, h1, h2, h3, h4, h5⟩
        dsimp only
        by_cases hlt : lo ≥ hi
        · rw [if_pos hlt]
          exact wpS_pure ⟨rfl, lo, hi, rfl, by (first | lia | omega), h2, h3, h4⟩
        · rw [if_neg hlt]
          refine wpS_bind (bey rfl (by (first | lia | omega)) ?_)
          cases hb2 : BB (lo + (hi - lo) / 2) with
          | true => exact wpS_pure ⟨rfl, _, _, rfl, by (first | lia | omega), by (first | lia | omega), fun i hi' => up (show i ≤ lo + (hi - lo) / 2 by (first | lia | omega)) (by (first | lia | omega)) hb2, h4, by (first | lia | omega)⟩
          | false => exact wpS_pure ⟨rfl, _, _, rfl, by (first | lia | omega), by (first | lia | omega), h3, fun i hi' hin => dn hi' hin hb2, by (first | lia | omega)⟩
      · rintro c st' ⟨rfl, lo, hi, rfl, h1, h2, h3, h4, h5⟩
        exact ⟨rfl, lo, hi, rfl, by (first | lia | omega), h2, h3, h4⟩
      · rintro c st' ⟨rfl, lo, hi, rfl, h1, h2, h3, h4⟩
        exact wpS_pure (h hi h2 (fun i hi' => h3 i (by (first | lia | omega))) h4)
end
end Srd

namespace Srd
open PySem PyProof.Rows Srt
section
variable {lt : Keyed → Keyed → Bool} {a b out : Array Keyed} {ia ib k : Nat} {p q : Keyed}
abbrev So (lt : Keyed → Keyed → Bool) (l : List Keyed) : Prop := l.Pairwise (Le lt)
theorem getD' (h : a[ia]? = some p) : a.toList[ia]? = some p := by rw [← h]; simp
theorem some_inj {i : Nat} {x y : Keyed} (h1 : a[i]? = some x) (h2 : a[i]? = some y) : x = y := by
  rw [h1] at h2
  exact Option.some.inj h2
theorem drop_head (h : a[ia]? = some p) : a.toList.drop ia = p :: a.toList.drop (ia + 1) := by
  obtain ⟨hi, e⟩ := List.getElem?_eq_some_iff.mp (getD' h)
  rw [List.drop_eq_getElem_cons hi, e]
theorem So.drop {l : List Keyed} (h : So lt l) (n : Nat) : So lt (l.drop n) := List.Pairwise.sublist (List.drop_sublist n l) h
theorem So.head (h : So lt a.toList) (hp : a[ia]? = some p) : ∀ y ∈ a.toList.drop (ia + 1), Le lt p y := by
  have := h.drop ia
  rw [drop_head hp] at this
  exact (List.pairwise_cons.mp this).1
theorem headLe (o : Swo lt) (h : So lt a.toList) (hp : a[ia]? = some p) {x : Keyed} (hx : Le lt x p) : ∀ y ∈ a.toList.drop ia, Le lt x y := fun y hy => by
  rw [drop_head hp] at hy
  rcases List.mem_cons.mp hy with rfl | hy
  · exact hx
  · exact o.le_trans hx (h.head hp y hy)
theorem up_of (h : So lt a.toList) (i j : Nat) : Up lt a i j := fun x y p q _ hxy _ ex ey => by
  obtain ⟨hx, rfl⟩ := List.getElem?_eq_some_iff.mp (getD' ex)
  obtain ⟨hy, rfl⟩ := List.getElem?_eq_some_iff.mp (getD' ey)
  exact (List.pairwise_iff_getElem.mp h) x y hx hy hxy
theorem so_of {n : Nat} (h : Up lt a 0 n) (hn : a.size ≤ n) : So lt a.toList := by
  refine List.pairwise_iff_getElem.mpr fun i j hi hj hij => ?_
  have hi' : i < a.size := by rw [← Array.length_toList]; exact hi
  have hj' : j < a.size := by rw [← Array.length_toList]; exact hj
  exact h i j _ _ (Nat.zero_le _) hij (by (first | lia | omega)) (by rw [← Array.getElem?_toList]; exact List.getElem?_eq_getElem hi) (by rw [← Array.getElem?_toList]; exact List.getElem?_eq_getElem hj)
theorem mem_dropI {l : List Keyed} {n : Nat} {y : Keyed} (h : y ∈ l.drop n) : ∃ i, l[n + i]? = some y := by
  obtain ⟨i, hi⟩ := List.mem_iff_getElem?.mp h
  rw [List.getElem?_drop] at hi
  exact ⟨i, hi⟩
/-- behind a leap -/
theorem galA (F : ∀ i, k ≤ i → i < a.size - ia → BV lt false p a ia i = false) (o : Swo lt) : ∀ y ∈ a.toList.drop (ia + k), Le lt p y := fun y hy => by
  obtain ⟨i, hi⟩ := mem_dropI hy
  obtain ⟨hl, _⟩ := List.getElem?_eq_some_iff.mp hi
  rw [Array.length_toList] at hl
  have h1 := F (k + i) (by (first | lia | omega)) (by (first | lia | omega))
  unfold BV at h1
  rw [show ia + (k + i) = ia + k + i by (first | lia | omega), ← Array.getElem?_toList, hi] at h1
  have h2 : (!lt p y) = false := h1
  exact o.le_of (by simpa using h2)
theorem galA1 (F : ∀ i, i < k → BV lt false p a ia i = true) : ∀ x ∈ (a.toList.drop ia).take k, Le lt x p := fun x hx => by
  obtain ⟨i, hi⟩ := List.mem_iff_getElem?.mp hx
  have hik : i < k := by
    have := (List.getElem?_eq_some_iff.mp hi).1
    rw [List.length_take] at this
    (first | lia | omega)
  rw [List.getElem?_take_of_lt hik, List.getElem?_drop] at hi
  have h1 := F i hik
  unfold BV at h1
  rw [← Array.getElem?_toList, hi] at h1
  have h2 : (!lt p x) = true := h1
  show lt p x = false
  simpa using h2
theorem galB (F : ∀ i, k ≤ i → i < b.size - ib → BV lt true q b ib i = false) : ∀ y ∈ b.toList.drop (ib + k), Le lt q y := fun y hy => by
  obtain ⟨i, hi⟩ := mem_dropI hy
  obtain ⟨hl, _⟩ := List.getElem?_eq_some_iff.mp hi
  rw [Array.length_toList] at hl
  have h1 := F (k + i) (by (first | lia | omega)) (by (first | lia | omega))
  unfold BV at h1
  rw [show ib + (k + i) = ib + k + i by (first | lia | omega), ← Array.getElem?_toList, hi] at h1
  exact h1
theorem galB1 (F : ∀ i, i < k → BV lt true q b ib i = true) (o : Swo lt) : ∀ x ∈ (b.toList.drop ib).take k, Le lt x q := fun x hx => by
  obtain ⟨i, hi⟩ := List.mem_iff_getElem?.mp hx
  have hik : i < k := by
    have := (List.getElem?_eq_some_iff.mp hi).1
    rw [List.length_take] at this
    (first | lia | omega)
  rw [List.getElem?_take_of_lt hik, List.getElem?_drop] at hi
  have h1 := F i hik
  unfold BV at h1
  rw [← Array.getElem?_toList, hi] at h1
  exact o.le_of h1
/-- what is out: in order, and all that is left is no less -/
structure OutL (lt : Keyed → Keyed → Bool) (a b out : Array Keyed) (ia ib : Nat) : Prop where
  perm : Out a b out ia ib
  sort : So lt out.toList
  lowA : ∀ x ∈ out.toList, ∀ y ∈ a.toList.drop ia, Le lt x y
  lowB : ∀ x ∈ out.toList, ∀ y ∈ b.toList.drop ib, Le lt x y
/-- both, in order -/
structure Rs (lt : Keyed → Keyed → Bool) (a b r : Array Keyed) : Prop where
  perm : r.toList.Perm (a.toList ++ b.toList)
  sort : So lt r.toList
theorem mem_push {x : Keyed} (h : x ∈ (out.push p).toList) : x ∈ out.toList ∨ x = p := by
  rw [Array.toList_push] at h
  rcases List.mem_append.mp h with h | h
  · exact .inl h
  · exact .inr (List.mem_singleton.mp h)
theorem so_push (h : So lt out.toList) (hp : ∀ x ∈ out.toList, Le lt x p) : So lt (out.push p).toList := by
  rw [Array.toList_push]
  refine List.pairwise_append.mpr ⟨h, List.pairwise_singleton _ _, fun x hx y hy => ?_⟩
  rw [List.mem_singleton.mp hy]
  exact hp x hx
theorem drop_in {l : List Keyed} {i j : Nat} (h : i ≤ j) {y : Keyed} (hy : y ∈ l.drop j) : y ∈ l.drop i := by
  rw [show j = i + (j - i) by (first | lia | omega), ← List.drop_drop] at hy
  exact List.mem_of_mem_drop hy
theorem OutL.pushA (h : OutL lt a b out ia ib) (SA : So lt a.toList) (hp : a[ia]? = some p) (hb : ∀ y ∈ b.toList.drop ib, Le lt p y) : OutL lt a b (out.push p) (ia + 1) ib := by
  have hm : p ∈ a.toList.drop ia := by rw [drop_head hp]; exact List.mem_cons_self ..
  refine ⟨h.perm.pushA hp, so_push h.sort fun x hx => h.lowA x hx p hm, fun x hx y hy => ?_, fun x hx y hy => ?_⟩
  · rcases mem_push hx with hx | rfl
    · exact h.lowA x hx y (drop_in (by (first | lia | omega)) hy)
    · exact SA.head hp y hy
  · rcases mem_push hx with hx | rfl
    · exact h.lowB x hx y hy
    · exact hb y hy
theorem OutL.pushB (h : OutL lt a b out ia ib) (SB : So lt b.toList) (hp : b[ib]? = some p) (ha : ∀ y ∈ a.toList.drop ia, Le lt p y) : OutL lt a b (out.push p) ia (ib + 1) := by
  have hm : p ∈ b.toList.drop ib := by rw [drop_head hp]; exact List.mem_cons_self ..
  refine ⟨h.perm.pushB hp, so_push h.sort fun x hx => h.lowB x hx p hm, fun x hx y hy => ?_, fun x hx y hy => ?_⟩
  · rcases mem_push hx with hx | rfl
    · exact h.lowA x hx y hy
    · exact ha y hy
  · rcases mem_push hx with hx | rfl
    · exact h.lowB x hx y (drop_in (by (first | lia | omega)) hy)
    · exact SB.head hp y hy
theorem ext_list (a : Array Keyed) (i k : Nat) : (a.extract i (i + k)).toList = (a.toList.drop i).take k := by
  rw [Array.toList_extract, List.extract_eq_drop_take, show i + k - i = k by (first | lia | omega)]
theorem ext_all (a : Array Keyed) (i : Nat) : (a.extract i a.size).toList = a.toList.drop i := by
  rw [Array.toList_extract, List.extract_eq_drop_take]
  apply List.take_of_length_le
  rw [List.length_drop, Array.length_toList]
  exact Nat.le_refl _
theorem take_drop_le {l : List Keyed} {i k : Nat} (h : So lt l) {x y : Keyed} (hx : x ∈ (l.drop i).take k) (hy : y ∈ l.drop (i + k)) : Le lt x y := by
  have h1 := h.drop i
  rw [← List.take_append_drop k (l.drop i), List.drop_drop] at h1
  exact (List.pairwise_append.mp h1).2.2 x hx y hy
theorem OutL.extA (h : OutL lt a b out ia ib) (SA : So lt a.toList) (hk : ia + k ≤ a.size) (hb : ∀ x ∈ (a.toList.drop ia).take k, ∀ y ∈ b.toList.drop ib, Le lt x y) : OutL lt a b (out ++ a.extract ia (ia + k)) (ia + k) ib := by
  have hm : ∀ x, x ∈ (out ++ a.extract ia (ia + k)).toList → x ∈ out.toList ∨ x ∈ (a.toList.drop ia).take k := fun x hx => by
    rw [Array.toList_append, ext_list] at hx
    exact List.mem_append.mp hx
  refine ⟨h.perm.extA hk, ?_, fun x hx y hy => ?_, fun x hx y hy => ?_⟩
  · rw [Array.toList_append, ext_list]
    exact List.pairwise_append.mpr ⟨h.sort, List.Pairwise.sublist (List.take_sublist _ _) (SA.drop ia), fun x hx y hy => h.lowA x hx y (List.mem_of_mem_take hy)⟩
  · rcases hm x hx with hx | hx
    · exact h.lowA x hx y (drop_in (by (first | lia | omega)) hy)
    · exact take_drop_le SA hx hy
  · rcases hm x hx with hx | hx
    · exact h.lowB x hx y hy
    · exact hb x hx y hy
theorem OutL.extB (h : OutL lt a b out ia ib) (SB : So lt b.toList) (hk : ib + k ≤ b.size) (ha : ∀ x ∈ (b.toList.drop ib).take k, ∀ y ∈ a.toList.drop ia, Le lt x y) : OutL lt a b (out ++ b.extract ib (ib + k)) ia (ib + k) := by
  have hm : ∀ x, x ∈ (out ++ b.extract ib (ib + k)).toList → x ∈ out.toList ∨ x ∈ (b.toList.drop ib).take k := fun x hx => by
    rw [Array.toList_append, ext_list] at hx
    exact List.mem_append.mp hx
  refine ⟨h.perm.extB hk, ?_, fun x hx y hy => ?_, fun x hx y hy => ?_⟩
  · rw [Array.toList_append, ext_list]
    exact List.pairwise_append.mpr ⟨h.sort, List.Pairwise.sublist (List.take_sublist _ _) (SB.drop ib), fun x hx y hy => h.lowB x hx y (List.mem_of_mem_take hy)⟩
  · rcases hm x hx with hx | hx
    · exact h.lowA x hx y hy
    · exact ha x hx y hy
  · rcases hm x hx with hx | hx
    · exact h.lowB x hx y (drop_in (by (first | lia | omega)) hy)
    · exact take_drop_le SB hx hy
theorem OutL.doneB (h : OutL lt a b out ia ib) (SA : So lt a.toList) (e : (ib == b.size) = true) : Rs lt a b (out ++ a.extract ia a.size ++ b.extract ib b.size) := by
  refine ⟨h.perm.done, ?_⟩
  have e' : b.toList.drop ib = [] := List.drop_eq_nil_of_le (by rw [Array.length_toList, eq_of_beq e]; exact Nat.le_refl _)
  rw [Array.toList_append, Array.toList_append, ext_all, ext_all, e', List.append_nil]
  exact List.pairwise_append.mpr ⟨h.sort, SA.drop ia, fun x hx y hy => h.lowA x hx y hy⟩
theorem OutL.doneA (h : OutL lt a b out ia ib) (SB : So lt b.toList) (e : (ia == a.size) = true) : Rs lt a b (out ++ a.extract ia a.size ++ b.extract ib b.size) := by
  refine ⟨h.perm.done, ?_⟩
  have e' : a.toList.drop ia = [] := List.drop_eq_nil_of_le (by rw [Array.length_toList, eq_of_beq e]; exact Nat.le_refl _)
  rw [Array.toList_append, Array.toList_append, ext_all, ext_all, e', List.append_nil]
  exact List.pairwise_append.mpr ⟨h.sort, SB.drop ib, fun x hx y hy => h.lowB x hx y hy⟩
theorem OutL.lastL (h : OutL lt a b out ia ib) (SA : So lt a.toList) (SB : So lt b.toList) (LA : ∀ x ∈ b.toList, ∀ q, a[a.size - 1]? = some q → Le lt x q) (e : (ia + 1 == a.size) = true) : Rs lt a b (out ++ b.extract ib b.size ++ a.extract ia a.size) := by
  refine ⟨h.perm.last, ?_⟩
  have e1 := eq_of_beq e
  rw [Array.toList_append, Array.toList_append, ext_all, ext_all]
  refine List.pairwise_append.mpr ⟨List.pairwise_append.mpr ⟨h.sort, SB.drop ib, fun x hx y hy => h.lowB x hx y hy⟩, SA.drop ia, fun x hx y hy => ?_⟩
  rcases List.mem_append.mp hx with hx | hx
  · exact h.lowA x hx y hy
  · refine LA x (List.mem_of_mem_drop hx) y ?_
    obtain ⟨i, hi⟩ := mem_dropI hy
    have hl := (List.getElem?_eq_some_iff.mp hi).1
    rw [Array.length_toList] at hl
    rw [show a.size - 1 = ia + i by (first | lia | omega), ← Array.getElem?_toList]
    exact hi
theorem outL0 (SB : So lt b.toList) (hp : b[0]? = some p) (hb0 : ∀ p, b[0]? = some p → ∀ y ∈ a.toList, Le lt p y) : OutL lt a b #[p] 0 1 := by
  refine ⟨out0 hp, List.pairwise_singleton _ _, fun x hx y hy => ?_, fun x hx y hy => ?_⟩
  · obtain rfl : x = p := by simpa using hx
    exact hb0 x hp y hy
  · obtain rfl : x = p := by simpa using hx
    exact SB.head hp y hy
end
end Srd

namespace Srd
open PySem PyProof.Rows Srt
section
variable {prog : Program} {w : World} {A : Around} {E : Value → Shared → Prop} {s : Shared} {κ : SortKind} {Ok : Keyed → Prop} {st : SortSt} {lt : Keyed → Keyed → Bool}
abbrev LoT := Option (Array Keyed) × Array Keyed × Nat × Nat × Nat × Nat × Nat
def lo3 (a b out : Array Keyed) (ia ib g ac bc : Nat) : StateT SortSt Sem (ForInStep LoT) :=
  elem' a ia >>= fun p => if (ia + 1 + 1 == a.size) = true then pure (.done (some (out.push p ++ b.extract ib b.size ++ a.extract (ia + 1) a.size), out.push p, ia + 1, ib, g, ac, bc))
    else if (decide (ac < 7) && decide (bc < 7)) = true then pure (.done (none, out.push p, ia + 1, ib, g, ac, bc)) else pure (.yield (none, out.push p, ia + 1, ib, g, ac, bc))
/-- what holds behind a turn of the galloping -/
def LoP (lt : Keyed → Keyed → Bool) (a b : Array Keyed) (st : SortSt) (x : Nat) : ForInStep LoT → SortSt → Prop := fun r st' => match r with
  | .done c => Like st st' ∧ ((∃ r out ia ib g ac bc, c = (some r, out, ia, ib, g, ac, bc) ∧ Rs lt a b r) ∨ ∃ out ia ib g ac bc, c = (none, out, ia, ib, g, ac, bc) ∧ OutL lt a b out ia ib ∧ ia + 1 < a.size ∧ ib < b.size ∧ x + 2 ≤ ia + ib)
  | .yield c => Like st st' ∧ ∃ out ia ib g ac bc, c = (none, out, ia, ib, g, ac, bc) ∧ OutL lt a b out ia ib ∧ ia + 1 < a.size ∧ ib < b.size ∧ x + 2 ≤ ia + ib
/-- what a step may end in -/
structure LoQ (lt : Keyed → Keyed → Bool) (a b : Array Keyed) (st : SortSt) (N : Nat) (Q : ForInStep LoT → SortSt → Prop) : Prop where
  R : ∀ r out ia ib g ac bc, Rs lt a b r → Q (.done (some r, out, ia, ib, g, ac, bc)) st
  N : ∀ out ia ib g ac bc, OutL lt a b out ia ib → ia + 1 < a.size → ib < b.size → N ≤ ia + ib → Q (.done (none, out, ia, ib, g, ac, bc)) st ∧ Q (.yield (none, out, ia, ib, g, ac, bc)) st
section
variable {a b out : Array Keyed} {ia ib g ac bc N : Nat} {Q : ForInStep LoT → SortSt → Prop}
theorem lo3_ok (SA : So lt a.toList) (SB : So lt b.toList) (LA : ∀ x ∈ b.toList, ∀ q, a[a.size - 1]? = some q → Le lt x q) (q : LoQ lt a b st N Q) (ho : OutL lt a b out ia ib) (h1 : ia + 1 < a.size) (h2 : ib < b.size) (hN : N ≤ ia + ib) (hp : ∀ p, a[ia]? = some p → ∀ y ∈ b.toList.drop ib, Le lt p y) :
    wpS (model prog w) A E s (lo3 a b out ia ib g ac bc) Q st := by
  unfold lo3
  refine wpS_bind (wpS_elem (by (first | lia | omega)) fun p4 h4 e4 => ?_)
  have o4 := ho.pushA SA e4 (hp p4 e4)
  by_cases f1 : (ia + 1 + 1 == a.size) = true
  · rw [if_pos f1]
    exact wpS_pure (q.R _ _ _ _ _ _ _ (o4.lastL SA SB LA f1))
  rw [if_neg f1]
  have n4 : ia + 1 + 1 < a.size := by
    have : ¬ ia + 1 + 1 = a.size := fun e => f1 (by simp [← e])
    (first | lia | omega)
  have z := q.N _ _ _ g ac bc o4 n4 h2 (by (first | lia | omega))
  by_cases f2 : (decide (ac < 7) && decide (bc < 7)) = true
  · rw [if_pos f2]
    exact wpS_pure z.1
  · rw [if_neg f2]
    exact wpS_pure z.2
theorem lo2_ok (o : Swo lt) (hc : CmpL prog w A s κ Ok lt) (hk : kindOf st = κ) (ha : ∀ p ∈ a.toList, Ok p) (hb : ∀ p ∈ b.toList, Ok p) (SA : So lt a.toList) (SB : So lt b.toList) (LA : ∀ x ∈ b.toList, ∀ q, a[a.size - 1]? = some q → Le lt x q) (q : LoQ lt a b st N Q) (ho : OutL lt a b out ia ib) (h1 : ia + 1 < a.size) (h2 : ib < b.size) (hN : N ≤ ia + ib) (hp : ∀ p, b[ib]? = some p → ∀ y ∈ a.toList.drop ia, Le lt p y)
    {T : Keyed → Option Nat → StateT SortSt Sem (ForInStep LoT)} (hT : ∀ p k, T p (some k) = if k > 0 then (if (ib + 1 + k == b.size) = true then pure (.done (some (out.push p ++ b.extract (ib + 1) (ib + 1 + k) ++ a.extract ia a.size ++ b.extract (ib + 1 + k) b.size), out.push p ++ b.extract (ib + 1) (ib + 1 + k), ia, ib + 1 + k, g, ac, k))
          else lo3 a b (out.push p ++ b.extract (ib + 1) (ib + 1 + k)) ia (ib + 1 + k) g ac k)
        else lo3 a b (out.push p) ia (ib + 1) g ac k) :
    wpS (model prog w) A E s (elem' b ib >>= fun p => if (ib + 1 == b.size) = true then pure (.done (some (out.push p ++ a.extract ia a.size ++ b.extract (ib + 1) b.size), out.push p, ia, ib + 1, g, ac, bc))
      else elem' a ia >>= fun q => gallop' true q b (ib + 1) (b.size - (ib + 1)) 0 >>= T p) Q st := by
  refine wpS_bind (wpS_elem (by (first | lia | omega)) fun p3 h3 e3 => ?_)
  have o2 := ho.pushB SB e3 (hp p3 e3)
  by_cases c3 : (ib + 1 == b.size) = true
  · rw [if_pos c3]
    exact wpS_pure (q.R _ _ _ _ _ _ _ (o2.doneB SA c3))
  rw [if_neg c3]
  have n3 : ib + 1 < b.size := by
    have : ¬ ib + 1 = b.size := fun e => c3 (by simp [← e])
    (first | lia | omega)
  refine wpS_bind (wpS_elem (by (first | lia | omega)) fun q3 g3 u3 => ?_)
  refine wpS_bind (wpS_gallopL o hc hk (ha q3 g3) hb (by (first | lia | omega)) (by (first | lia | omega)) (up_of SB _ _) fun k2 hk2 G1 G2 => ?_)
  rw [hT]
  by_cases k20 : k2 > 0
  · rw [if_pos k20]
    have o3 := o2.extB SB (k := k2) (by (first | lia | omega)) (fun x hx => headLe o SA u3 (galB1 G1 o x hx))
    by_cases c4 : (ib + 1 + k2 == b.size) = true
    · rw [if_pos c4]
      exact wpS_pure (q.R _ _ _ _ _ _ _ (o3.doneB SA c4))
    rw [if_neg c4]
    have n5 : ib + 1 + k2 < b.size := by
      have : ¬ ib + 1 + k2 = b.size := fun e => c4 (by simp [← e])
      (first | lia | omega)
    exact lo3_ok SA SB LA q o3 h1 n5 (by (first | lia | omega)) fun p e => by rw [some_inj e u3]; exact galB G2
  · rw [if_neg k20]
    exact lo3_ok SA SB LA q o2 h1 n3 (by (first | lia | omega)) fun p e => by rw [some_inj e u3]; exact galB (k := 0) (fun i _ hi => G2 i (by (first | lia | omega)) hi)
end
set_option maxHeartbeats 2000000 in
theorem wpS_mergeLoL {a b : Array Keyed} {Q : Array Keyed → SortSt → Prop} (o : Swo lt) (hc : CmpL prog w A s κ Ok lt) (hk : kindOf st = κ) (ha : ∀ p ∈ a.toList, Ok p) (hb : ∀ p ∈ b.toList, Ok p) (ha1 : 1 ≤ a.size) (hb1 : 1 ≤ b.size) (SA : So lt a.toList) (SB : So lt b.toList) (hb0 : ∀ p, b[0]? = some p → ∀ y ∈ a.toList, Le lt p y) (LA : ∀ x ∈ b.toList, ∀ q, a[a.size - 1]? = some q → Le lt x q)
    (h : ∀ r st', Like st st' → Rs lt a b r → Q r st') : wpS (model prog w) A E s (mergeLo' a b) Q st := by
  refine wpS_bind (wpS_lift (wpAny_rule ⟨rfl, ?_⟩))
  refine wpS_bind (wpS_elem (by (first | lia | omega)) fun p hp he => ?_)
  try dsimp -zeta only
  have o0 : OutL lt a b #[p] 0 1 := outL0 SB he hb0
  by_cases c1 : (1 == b.size) = true
  · rw [if_pos c1]
    exact wpS_pure (h _ _ (Like.refl _) (o0.doneB SA c1))
  rw [if_neg c1]
  by_cases c2 : (0 + 1 == a.size) = true
  · rw [if_pos c2]
    exact wpS_pure (h _ _ (Like.refl _) (o0.lastL SA SB LA c2))
  rw [if_neg c2]
  have n1 : 1 < b.size := by
    have : ¬ 1 = b.size := fun e => c1 (by simp [← e])
    (first | lia | omega)
  have n2 : 1 < a.size := by
    have : ¬ 1 = a.size := fun e => c2 (by simp [← e])
    (first | lia | omega)
  refine wpS_bind (wpS_get ?_)
  -- the turns
  refine wpS_bind (wpS_mono (wpS_forRange (I := fun x c st' => Like st st' ∧ ∃ out ia ib g, c = (none, out, ia, ib, g) ∧ OutL lt a b out ia ib ∧ ia + 1 < a.size ∧ ib < b.size ∧ x + 1 ≤ ia + ib)
    (Q := fun c st' => Like st st' ∧ ∃ r out ia ib g, c = (some r, out, ia, ib, g) ∧ Rs lt a b r) ?_ ?_ ⟨Like.refl _, _, 0, 1, _, rfl, o0, by (first | lia | omega), by (first | lia | omega), by (first | lia | omega)⟩) ?_)
  · rintro x c st1 _ hx ⟨lk, out, ia, ib, g, rfl, ho, hia, hib, hxx⟩
    try dsimp -zeta only
    -- one by one
    refine wpS_bind (wpS_mono (wpS_forRange (I := fun y c st' => Like st st' ∧ ∃ out ia ib ac bc, c = (none, out, ia, ib, ac, bc) ∧ OutL lt a b out ia ib ∧ ia + 1 < a.size ∧ ib < b.size ∧ x + 1 + (if y = 0 then 0 else 1) ≤ ia + ib)
      (Q := fun c st' => Like st st' ∧ ((∃ r out ia ib ac bc, c = (some r, out, ia, ib, ac, bc) ∧ Rs lt a b r) ∨ ∃ out ia ib ac bc, c = (none, out, ia, ib, ac, bc) ∧ OutL lt a b out ia ib ∧ ia + 1 < a.size ∧ ib < b.size ∧ x + 2 ≤ ia + ib)) ?_ ?_ ⟨lk, out, ia, ib, 0, 0, rfl, ho, hia, hib, by simp; (first | lia | omega)⟩) ?_)
    · rintro y c st2 _ hy ⟨lk2, out, ia, ib, ac, bc, rfl, ho, hia, hib, hxx⟩
      dsimp only
      have hxx2 : x + 1 ≤ ia + ib := by split at hxx <;> (first | lia | omega)
      refine wpS_bind (wpS_elem (by (first | lia | omega)) fun p hp ep => ?_)
      refine wpS_bind (wpS_elem (by (first | lia | omega)) fun q hq eq => ?_)
      refine wpS_bind (wpS_ltL hc (lk2.kind.trans hk) (hb p hp) (ha q hq) ?_)
      cases hbw : lt p q with
      | true =>
        try dsimp -zeta only
        rw [if_pos rfl]
        refine wpS_bind (wpS_elem (by (first | lia | omega)) fun p2 hp2 ep2 => ?_)
        have o1 := ho.pushB SB ep2 (by rw [some_inj ep2 ep]; exact headLe o SA eq (o.le_of hbw))
        by_cases d1 : (ib + 1 == b.size) = true
        · rw [if_pos d1]
          exact wpS_pure ⟨lk2, .inl ⟨_, _, _, _, _, _, rfl, (o1.doneB SA d1)⟩⟩
        rw [if_neg d1]
        have m1 : ib + 1 < b.size := by
          have : ¬ ib + 1 = b.size := fun e => d1 (by simp [← e])
          (first | lia | omega)
        by_cases d2 : bc + 1 ≥ g
        · rw [if_pos d2]
          exact wpS_pure ⟨lk2, .inr ⟨_, _, _, _, _, rfl, o1, hia, m1, by (first | lia | omega)⟩⟩
        · rw [if_neg d2]
          exact wpS_pure ⟨lk2, _, _, _, _, _, rfl, o1, hia, m1, by rw [if_neg (by (first | lia | omega))]; (first | lia | omega)⟩
      | false =>
        try dsimp -zeta only
        rw [if_neg Bool.false_ne_true]
        refine wpS_bind (wpS_elem (by (first | lia | omega)) fun p2 hp2 ep2 => ?_)
        have o1 := ho.pushA SA ep2 (by rw [some_inj ep2 eq]; exact headLe o SB ep hbw)
        by_cases d1 : (ia + 1 + 1 == a.size) = true
        · rw [if_pos d1]
          exact wpS_pure ⟨lk2, .inl ⟨_, _, _, _, _, _, rfl, (o1.lastL SA SB LA d1)⟩⟩
        rw [if_neg d1]
        have m1 : ia + 1 + 1 < a.size := by
          have : ¬ ia + 1 + 1 = a.size := fun e => d1 (by simp [← e])
          (first | lia | omega)
        by_cases d2 : ac + 1 ≥ g
        · rw [if_pos d2]
          exact wpS_pure ⟨lk2, .inr ⟨_, _, _, _, _, rfl, o1, m1, hib, by (first | lia | omega)⟩⟩
        · rw [if_neg d2]
          exact wpS_pure ⟨lk2, _, _, _, _, _, rfl, o1, m1, hib, by rw [if_neg (by (first | lia | omega))]; (first | lia | omega)⟩
    · rintro c st2 ⟨lk2, out, ia, ib, ac, bc, rfl, ho, hia, hib, hxx⟩
      refine ⟨lk2, .inr ⟨_, _, _, _, _, rfl, ho, hia, hib, ?_⟩⟩
      rw [if_neg (by (first | lia | omega))] at hxx
      (first | lia | omega)
    · rintro c st2 ⟨lk2, ⟨r, out, ia, ib, ac, bc, rfl, hr⟩ | ⟨out, ia, ib, ac, bc, rfl, ho, hia, hib, hxx⟩⟩
      · exact wpS_pure ⟨lk2, _, _, _, _, _, rfl, hr⟩
      try dsimp -zeta only
      refine wpS_bind (wpS_lift (wpAny_rule ⟨rfl, ?_⟩))
      try dsimp -zeta only
      -- by leaps
      refine wpS_bind (wpS_mono (wpS_forRange (I := fun y c st' => Like st st' ∧ ∃ out ia ib g ac bc, c = (none, out, ia, ib, g, ac, bc) ∧ OutL lt a b out ia ib ∧ ia + 1 < a.size ∧ ib < b.size ∧ x + 2 ≤ ia + ib)
        (Q := fun c st' => Like st st' ∧ ((∃ r out ia ib g ac bc, c = (some r, out, ia, ib, g, ac, bc) ∧ Rs lt a b r) ∨ ∃ out ia ib g ac bc, c = (none, out, ia, ib, g, ac, bc) ∧ OutL lt a b out ia ib ∧ ia + 1 < a.size ∧ ib < b.size ∧ x + 2 ≤ ia + ib)) ?_ ?_ ⟨lk2, out, ia, ib, _, _, _, rfl, ho, hia, hib, hxx⟩) ?_)
      · rintro y c st3 _ hy ⟨lk3, out, ia, ib, g3, ac, bc, rfl, ho, hia, hib, hxx⟩
        dsimp only
        refine wpS_mono (Q := LoP lt a b st x) ?_ (fun r st' h => by cases r <;> exact h)
        have loq : ∀ {st4}, Like st st4 → LoQ lt a b st4 (ia + ib) (LoP lt a b st x) := fun lk4 => ⟨fun r out ia ib g ac bc hr => ⟨lk4, .inl ⟨r, out, ia, ib, g, ac, bc, rfl, hr⟩⟩, fun out ia ib g ac bc ho h1 h2 hN => ⟨⟨lk4, .inr ⟨out, ia, ib, g, ac, bc, rfl, ho, h1, h2, by (first | lia | omega)⟩⟩, ⟨lk4, out, ia, ib, g, ac, bc, rfl, ho, h1, h2, by (first | lia | omega)⟩⟩⟩
        by_cases g1 : g3 > 1
        · rw [if_pos g1]
          refine wpS_bind (wpS_modify ?_)
          have lk4 := lk3.trans (like_gallop st3 (g3 - 1))
          refine wpS_bind (wpS_elem (by (first | lia | omega)) fun p0 h0 e0 => ?_)
          refine wpS_bind (wpS_gallopL o hc (lk4.kind.trans hk) (hb p0 h0) ha (by (first | lia | omega)) (by (first | lia | omega)) (up_of SA _ _) fun k hk1 F1 F2 => ?_)
          try dsimp -zeta only
          by_cases k0 : k > 0
          · rw [if_pos k0]
            have o1 := ho.extA SA (k := k) (by (first | lia | omega)) (fun x hx => headLe o SB e0 (galA1 F1 x hx))
            by_cases c1 : (ia + k + 1 == a.size) = true
            · rw [if_pos c1]
              exact wpS_pure ⟨lk4, .inl ⟨_, _, _, _, _, _, _, rfl, (o1.lastL SA SB LA c1)⟩⟩
            rw [if_neg c1]
            by_cases c2 : (ia + k == a.size) = true
            · rw [if_pos c2]
              exact wpS_pure ⟨lk4, .inl ⟨_, _, _, _, _, _, _, rfl, (o1.doneA SB c2)⟩⟩
            rw [if_neg c2]
            have n1 : ia + k + 1 < a.size := by
              have h1 : ¬ ia + k + 1 = a.size := fun e => c1 (by simp [← e])
              have h2 : ¬ ia + k = a.size := fun e => c2 (by simp [← e])
              (first | lia | omega)
            refine lo2_ok o hc (lk4.kind.trans hk) ha hb SA SB LA (N := ia + ib) (loq lk4) o1 n1 hib (by (first | lia | omega)) (fun p e => by rw [some_inj e e0]; exact galA F2 o) ?_
            exact fun _ _ => rfl
          · rw [if_neg k0]
            refine lo2_ok o hc (lk4.kind.trans hk) ha hb SA SB LA (N := ia + ib) (loq lk4) ho hia hib (Nat.le_refl _) (fun p e => by rw [some_inj e e0]; exact galA (k := 0) (fun i _ hi => F2 i (by (first | lia | omega)) hi) o) ?_
            exact fun _ _ => rfl
        · rw [if_neg g1]
          refine wpS_bind (wpS_modify ?_)
          have lk4 := lk3.trans (like_gallop st3 g3)
          refine wpS_bind (wpS_elem (by (first | lia | omega)) fun p0 h0 e0 => ?_)
          refine wpS_bind (wpS_gallopL o hc (lk4.kind.trans hk) (hb p0 h0) ha (by (first | lia | omega)) (by (first | lia | omega)) (up_of SA _ _) fun k hk1 F1 F2 => ?_)
          try dsimp -zeta only
          by_cases k0 : k > 0
          · rw [if_pos k0]
            have o1 := ho.extA SA (k := k) (by (first | lia | omega)) (fun x hx => headLe o SB e0 (galA1 F1 x hx))
            by_cases c1 : (ia + k + 1 == a.size) = true
            · rw [if_pos c1]
              exact wpS_pure ⟨lk4, .inl ⟨_, _, _, _, _, _, _, rfl, (o1.lastL SA SB LA c1)⟩⟩
            rw [if_neg c1]
            by_cases c2 : (ia + k == a.size) = true
            · rw [if_pos c2]
              exact wpS_pure ⟨lk4, .inl ⟨_, _, _, _, _, _, _, rfl, (o1.doneA SB c2)⟩⟩
            rw [if_neg c2]
            have n1 : ia + k + 1 < a.size := by
              have h1 : ¬ ia + k + 1 = a.size := fun e => c1 (by simp [← e])
              have h2 : ¬ ia + k = a.size := fun e => c2 (by simp [← e])
              (first | lia | omega)
            refine lo2_ok o hc (lk4.kind.trans hk) ha hb SA SB LA (N := ia + ib) (loq lk4) o1 n1 hib (by (first | lia | omega)) (fun p e => by rw [some_inj e e0]; exact galA F2 o) ?_
            exact fun _ _ => rfl
          · rw [if_neg k0]
            refine lo2_ok o hc (lk4.kind.trans hk) ha hb SA SB LA (N := ia + ib) (loq lk4) ho hia hib (Nat.le_refl _) (fun p e => by rw [some_inj e e0]; exact galA (k := 0) (fun i _ hi => F2 i (by (first | lia | omega)) hi) o) ?_
            exact fun _ _ => rfl
      · rintro c st3 ⟨lk3, out, ia, ib, g3, ac, bc, rfl, ho, hia, hib, hxx⟩
        exact ⟨lk3, .inr ⟨_, _, _, _, _, _, rfl, ho, hia, hib, hxx⟩⟩
      · rintro c st3 ⟨lk3, ⟨r, out, ia, ib, g3, ac, bc, rfl, hr⟩ | ⟨out, ia, ib, g3, ac, bc, rfl, ho, hia, hib, hxx⟩⟩
        · exact wpS_pure ⟨lk3, _, _, _, _, _, rfl, hr⟩
        · try dsimp -zeta only
          refine wpS_bind (wpS_modify ?_)
          exact wpS_pure ⟨lk3.trans (like_gallop _ _), _, _, _, _, rfl, ho, hia, hib, by (first | lia | omega)⟩
  · rintro c st1 ⟨lk, out, ia, ib, g, rfl, ho, hia, hib, hx⟩
    exfalso
    (first | lia | omega)
  · rintro c st1 ⟨lk, r, out, ia, ib, g, rfl, hr⟩
    exact wpS_pure (h r st1 lk hr)
end
end Srd

namespace Srd
open PySem PyProof.Rows Srt
section
variable {lt : Keyed → Keyed → Bool} {a b out : Array Keyed} {na nb k : Nat} {p q : Keyed}
/-- what is out from the right: in order, and all that is left is no more -/
structure OutHL (lt : Keyed → Keyed → Bool) (a b out : Array Keyed) (na nb : Nat) : Prop where
  perm : OutH a b out na nb
  sort : So lt out.toList.reverse
  hiA : ∀ x ∈ out.toList, ∀ y ∈ a.toList.take na, Le lt y x
  hiB : ∀ x ∈ out.toList, ∀ y ∈ b.toList.take nb, Le lt y x
theorem take_last (h1 : 1 ≤ na) (hp : a[na - 1]? = some p) : a.toList.take na = a.toList.take (na - 1) ++ [p] := by
  have := take_one (getD' hp)
  rw [Nat.sub_add_cancel h1] at this
  exact this
theorem So.take {l : List Keyed} (h : So lt l) (n : Nat) : So lt (l.take n) := List.Pairwise.sublist (List.take_sublist n l) h
theorem So.last (h : So lt a.toList) (h1 : 1 ≤ na) (hp : a[na - 1]? = some p) : ∀ y ∈ a.toList.take (na - 1), Le lt y p := fun y hy => by
  have := h.take na
  rw [take_last h1 hp] at this
  exact (List.pairwise_append.mp this).2.2 y hy p (List.mem_singleton.mpr rfl)
theorem lastLe (o : Swo lt) (h : So lt a.toList) (h1 : 1 ≤ na) (hp : a[na - 1]? = some p) {x : Keyed} (hx : Le lt p x) : ∀ y ∈ a.toList.take na, Le lt y x := fun y hy => by
  rw [take_last h1 hp] at hy
  rcases List.mem_append.mp hy with hy | hy
  · exact o.le_trans (h.last h1 hp y hy) hx
  · rw [List.mem_singleton.mp hy]
    exact hx
theorem take_in {l : List Keyed} {i j : Nat} (h : i ≤ j) {y : Keyed} (hy : y ∈ l.take i) : y ∈ l.take j := by
  rw [show i = min i j by (first | lia | omega), ← List.take_take] at hy
  exact List.mem_of_mem_take hy
theorem mem_takeI {l : List Keyed} {n : Nat} {y : Keyed} (h : y ∈ l.take n) : ∃ i, i < n ∧ l[i]? = some y := by
  obtain ⟨i, hi⟩ := List.mem_iff_getElem?.mp h
  have hik : i < n := by
    have := (List.getElem?_eq_some_iff.mp hi).1
    rw [List.length_take] at this
    (first | lia | omega)
  rw [List.getElem?_take_of_lt hik] at hi
  exact ⟨i, hik, hi⟩
theorem mem_exI {i j : Nat} {x : Keyed} (h : x ∈ (a.extract i j).toList) : ∃ m, i ≤ m ∧ m < j ∧ a[m]? = some x := by
  rw [Array.toList_extract, List.extract_eq_drop_take] at h
  obtain ⟨m, hm, e⟩ := mem_takeI h
  rw [List.getElem?_drop] at e
  exact ⟨i + m, by (first | lia | omega), by (first | lia | omega), by rw [← Array.getElem?_toList]; exact e⟩
/-- behind a leap from the right -/
theorem galHA (F : ∀ i, k ≤ i → i < na → BV lt false p a 0 i = false) (o : Swo lt) : ∀ x ∈ (a.extract k na).toList, Le lt p x := fun x hx => by
  obtain ⟨m, h1, h2, e⟩ := mem_exI hx
  have h3 := F m h1 h2
  unfold BV at h3
  rw [Nat.zero_add, e] at h3
  have h4 : (!lt p x) = false := h3
  exact o.le_of (by simpa using h4)
theorem galHA1 (F : ∀ i, i < k → BV lt false p a 0 i = true) : ∀ y ∈ a.toList.take k, Le lt y p := fun y hy => by
  obtain ⟨i, hi, e⟩ := mem_takeI hy
  have h3 := F i hi
  unfold BV at h3
  rw [Nat.zero_add, ← Array.getElem?_toList, e] at h3
  have h4 : (!lt p y) = true := h3
  show lt p y = false
  simpa using h4
theorem galHB (F : ∀ i, k ≤ i → i < nb → BV lt true q b 0 i = false) : ∀ x ∈ (b.extract k nb).toList, Le lt q x := fun x hx => by
  obtain ⟨m, h1, h2, e⟩ := mem_exI hx
  have h3 := F m h1 h2
  unfold BV at h3
  rw [Nat.zero_add, e] at h3
  exact h3
theorem galHB1 (F : ∀ i, i < k → BV lt true q b 0 i = true) (o : Swo lt) : ∀ y ∈ b.toList.take k, Le lt y q := fun y hy => by
  obtain ⟨i, hi, e⟩ := mem_takeI hy
  have h3 := F i hi
  unfold BV at h3
  rw [Nat.zero_add, ← Array.getElem?_toList, e] at h3
  exact o.le_of h3
theorem so_pushH (h : So lt out.toList.reverse) (hp : ∀ x ∈ out.toList, Le lt p x) : So lt (out.push p).toList.reverse := by
  rw [Array.toList_push, List.reverse_append]
  exact List.pairwise_cons.mpr ⟨fun x hx => hp x (List.mem_reverse.mp hx), h⟩
theorem OutHL.pushA (h : OutHL lt a b out na nb) (SA : So lt a.toList) (h1 : 1 ≤ na) (hp : a[na - 1]? = some p) (hb : ∀ y ∈ b.toList.take nb, Le lt y p) : OutHL lt a b (out.push p) (na - 1) nb := by
  have hm : p ∈ a.toList.take na := by rw [take_last h1 hp]; exact List.mem_append_right _ (List.mem_singleton.mpr rfl)
  refine ⟨h.perm.pushA h1 hp, so_pushH h.sort fun x hx => h.hiA x hx p hm, fun x hx y hy => ?_, fun x hx y hy => ?_⟩
  · rcases mem_push hx with hx | rfl
    · exact h.hiA x hx y (take_in (by (first | lia | omega)) hy)
    · exact SA.last h1 hp y hy
  · rcases mem_push hx with hx | rfl
    · exact h.hiB x hx y hy
    · exact hb y hy
theorem OutHL.pushB (h : OutHL lt a b out na nb) (SB : So lt b.toList) (h1 : 1 ≤ nb) (hp : b[nb - 1]? = some p) (ha : ∀ y ∈ a.toList.take na, Le lt y p) : OutHL lt a b (out.push p) na (nb - 1) := by
  have hm : p ∈ b.toList.take nb := by rw [take_last h1 hp]; exact List.mem_append_right _ (List.mem_singleton.mpr rfl)
  refine ⟨h.perm.pushB h1 hp, so_pushH h.sort fun x hx => h.hiB x hx p hm, fun x hx y hy => ?_, fun x hx y hy => ?_⟩
  · rcases mem_push hx with hx | rfl
    · exact h.hiA x hx y hy
    · exact ha y hy
  · rcases mem_push hx with hx | rfl
    · exact h.hiB x hx y (take_in (by (first | lia | omega)) hy)
    · exact SB.last h1 hp y hy
theorem so_ext (h : So lt a.toList) (i j : Nat) : So lt (a.extract i j).toList := by
  rw [Array.toList_extract, List.extract_eq_drop_take]
  exact (h.drop i).take _
theorem ex_take {i j : Nat} {x : Keyed} (h : x ∈ (a.extract i j).toList) : x ∈ a.toList.take j := by
  obtain ⟨m, h1, h2, e⟩ := mem_exI h
  rw [← Array.getElem?_toList] at e
  refine List.mem_iff_getElem?.mpr ⟨m, ?_⟩
  rw [List.getElem?_take_of_lt h2]
  exact e
theorem take_ex_le (h : So lt a.toList) {i j : Nat} {x y : Keyed} (hy : y ∈ a.toList.take i) (hx : x ∈ (a.extract i j).toList) : Le lt y x := by
  obtain ⟨m, h1, h2, e⟩ := mem_exI hx
  obtain ⟨l, hl, e2⟩ := mem_takeI hy
  rw [Array.getElem?_toList] at e2
  exact up_of h 0 (m + 1) l m _ _ (Nat.zero_le _) (by (first | lia | omega)) (by (first | lia | omega)) e2 e
theorem OutHL.extA (h : OutHL lt a b out na nb) (SA : So lt a.toList) (hk : k ≤ na) (hb : ∀ x ∈ (a.extract k na).toList, ∀ y ∈ b.toList.take nb, Le lt y x) : OutHL lt a b (out ++ (a.extract k na).reverse) k nb := by
  have hm : ∀ x, x ∈ (out ++ (a.extract k na).reverse).toList → x ∈ out.toList ∨ x ∈ (a.extract k na).toList := fun x hx => by
    rw [Array.toList_append, Array.toList_reverse] at hx
    rcases List.mem_append.mp hx with hx | hx
    · exact .inl hx
    · exact .inr (List.mem_reverse.mp hx)
  refine ⟨h.perm.extA hk, ?_, fun x hx y hy => ?_, fun x hx y hy => ?_⟩
  · rw [Array.toList_append, Array.toList_reverse, List.reverse_append, List.reverse_reverse]
    exact List.pairwise_append.mpr ⟨so_ext SA _ _, h.sort, fun x hx y hy => h.hiA y (List.mem_reverse.mp hy) x (ex_take hx)⟩
  · rcases hm x hx with hx | hx
    · exact h.hiA x hx y (take_in (by (first | lia | omega)) hy)
    · exact take_ex_le SA hy hx
  · rcases hm x hx with hx | hx
    · exact h.hiB x hx y hy
    · exact hb x hx y hy
theorem OutHL.extB (h : OutHL lt a b out na nb) (SB : So lt b.toList) (hk : k ≤ nb) (ha : ∀ x ∈ (b.extract k nb).toList, ∀ y ∈ a.toList.take na, Le lt y x) : OutHL lt a b (out ++ (b.extract k nb).reverse) na k := by
  have hm : ∀ x, x ∈ (out ++ (b.extract k nb).reverse).toList → x ∈ out.toList ∨ x ∈ (b.extract k nb).toList := fun x hx => by
    rw [Array.toList_append, Array.toList_reverse] at hx
    rcases List.mem_append.mp hx with hx | hx
    · exact .inl hx
    · exact .inr (List.mem_reverse.mp hx)
  refine ⟨h.perm.extB hk, ?_, fun x hx y hy => ?_, fun x hx y hy => ?_⟩
  · rw [Array.toList_append, Array.toList_reverse, List.reverse_append, List.reverse_reverse]
    exact List.pairwise_append.mpr ⟨so_ext SB _ _, h.sort, fun x hx y hy => h.hiB y (List.mem_reverse.mp hy) x (ex_take hx)⟩
  · rcases hm x hx with hx | hx
    · exact h.hiA x hx y hy
    · exact ha x hx y hy
  · rcases hm x hx with hx | hx
    · exact h.hiB x hx y (take_in (by (first | lia | omega)) hy)
    · exact take_ex_le SB hy hx
theorem OutHL.doneA (h : OutHL lt a b out na nb) (SB : So lt b.toList) (e : (na == 0) = true) : Rs lt a b (a.extract 0 na ++ b.extract 0 nb ++ out.reverse) := by
  refine ⟨h.perm.done, ?_⟩
  rw [Array.toList_append, Array.toList_append, ex0, ex0, Array.toList_reverse, eq_of_beq e, List.take_zero, List.nil_append]
  exact List.pairwise_append.mpr ⟨SB.take nb, h.sort, fun x hx y hy => h.hiB y (List.mem_reverse.mp hy) x hx⟩
theorem OutHL.doneB (h : OutHL lt a b out na nb) (SA : So lt a.toList) (e : (nb == 0) = true) : Rs lt a b (a.extract 0 na ++ b.extract 0 nb ++ out.reverse) := by
  refine ⟨h.perm.done, ?_⟩
  rw [Array.toList_append, Array.toList_append, ex0, ex0, Array.toList_reverse, eq_of_beq e, List.take_zero, List.append_nil]
  exact List.pairwise_append.mpr ⟨SA.take na, h.sort, fun x hx y hy => h.hiA y (List.mem_reverse.mp hy) x hx⟩
theorem OutHL.firstL (h : OutHL lt a b out na nb) (SA : So lt a.toList) (SB : So lt b.toList) (hb0 : ∀ p, b[0]? = some p → ∀ y ∈ a.toList, Le lt p y) (e : (nb == 1) = true) : Rs lt a b (b.extract 0 nb ++ a.extract 0 na ++ out.reverse) := by
  refine ⟨h.perm.first, ?_⟩
  rw [Array.toList_append, Array.toList_append, ex0, ex0, Array.toList_reverse]
  refine List.pairwise_append.mpr ⟨List.pairwise_append.mpr ⟨SB.take nb, SA.take na, fun x hx y hy => ?_⟩, h.sort, fun x hx y hy => ?_⟩
  · obtain ⟨i, hi, e2⟩ := mem_takeI hx
    rw [eq_of_beq e] at hi
    obtain rfl : i = 0 := by (first | lia | omega)
    rw [Array.getElem?_toList] at e2
    exact hb0 x e2 y (List.mem_of_mem_take hy)
  · rcases List.mem_append.mp hx with hx | hx
    · exact h.hiB y (List.mem_reverse.mp hy) x hx
    · exact h.hiA y (List.mem_reverse.mp hy) x hx
theorem outHL0 (SA : So lt a.toList) (h1 : 1 ≤ a.size) (hp : a[a.size - 1]? = some p) (LA : ∀ x ∈ b.toList, ∀ q, a[a.size - 1]? = some q → Le lt x q) : OutHL lt a b #[p] (a.size - 1) b.size := by
  refine ⟨outH0 h1 hp, List.pairwise_singleton _ _, fun x hx y hy => ?_, fun x hx y hy => ?_⟩
  · obtain rfl : x = p := by simpa using hx
    exact SA.last h1 hp y hy
  · obtain rfl : x = p := by simpa using hx
    exact LA y (List.mem_of_mem_take hy) x hp
end
section
variable {prog : Program} {w : World} {A : Around} {E : Value → Shared → Prop} {s : Shared} {κ : SortKind} {Ok : Keyed → Prop} {st : SortSt} {lt : Keyed → Keyed → Bool}
abbrev HiT := Option (Array Keyed) × Nat × Nat × Array Keyed × Nat × Nat × Nat
def hi3 (a b : Array Keyed) (na nb : Nat) (out : Array Keyed) (g ac bc : Nat) : StateT SortSt Sem (ForInStep HiT) :=
  elem' a (na - 1) >>= fun p => if (na - 1 == 0) = true then pure (.done (some (a.extract 0 (na - 1) ++ b.extract 0 nb ++ (out.push p).reverse), na - 1, nb, out.push p, g, ac, bc))
    else if (decide (ac < 7) && decide (bc < 7)) = true then pure (.done (none, na - 1, nb, out.push p, g, ac, bc)) else pure (.yield (none, na - 1, nb, out.push p, g, ac, bc))
/-- what a step may end in -/
structure HiQ (lt : Keyed → Keyed → Bool) (a b : Array Keyed) (st : SortSt) (N : Nat) (Q : ForInStep HiT → SortSt → Prop) : Prop where
  R : ∀ r na nb out g ac bc, Rs lt a b r → Q (.done (some r, na, nb, out, g, ac, bc)) st
  N : ∀ na nb out g ac bc, OutHL lt a b out na nb → 1 ≤ na → na ≤ a.size → 2 ≤ nb → nb ≤ b.size → na + nb ≤ N → Q (.done (none, na, nb, out, g, ac, bc)) st ∧ Q (.yield (none, na, nb, out, g, ac, bc)) st
/-- what holds behind a turn of the galloping -/
def HiP (lt : Keyed → Keyed → Bool) (a b : Array Keyed) (st : SortSt) (x : Nat) : ForInStep HiT → SortSt → Prop := fun r st' => match r with
  | .done c => Like st st' ∧ ((∃ r na nb out g ac bc, c = (some r, na, nb, out, g, ac, bc) ∧ Rs lt a b r) ∨ ∃ na nb out g ac bc, c = (none, na, nb, out, g, ac, bc) ∧ OutHL lt a b out na nb ∧ 1 ≤ na ∧ na ≤ a.size ∧ 2 ≤ nb ∧ nb ≤ b.size ∧ na + nb + x + 2 ≤ a.size + b.size)
  | .yield c => Like st st' ∧ ∃ na nb out g ac bc, c = (none, na, nb, out, g, ac, bc) ∧ OutHL lt a b out na nb ∧ 1 ≤ na ∧ na ≤ a.size ∧ 2 ≤ nb ∧ nb ≤ b.size ∧ na + nb + x + 2 ≤ a.size + b.size
section
variable {a b out : Array Keyed} {na nb g ac bc N : Nat} {Q : ForInStep HiT → SortSt → Prop}
theorem hi3_ok (SA : So lt a.toList) (SB : So lt b.toList) (q : HiQ lt a b st N Q) (ho : OutHL lt a b out na nb) (h1 : 1 ≤ na) (h2 : na ≤ a.size) (h3 : 2 ≤ nb) (h4 : nb ≤ b.size) (hN : na + nb ≤ N) (hp : ∀ p, a[na - 1]? = some p → ∀ y ∈ b.toList.take nb, Le lt y p) :
    wpS (model prog w) A E s (hi3 a b na nb out g ac bc) Q st := by
  unfold hi3
  refine wpS_bind (wpS_elem (by (first | lia | omega)) fun p4 w4 e4 => ?_)
  have o4 := ho.pushA SA h1 e4 (hp p4 e4)
  by_cases f1 : (na - 1 == 0) = true
  · rw [if_pos f1]
    exact wpS_pure (q.R _ _ _ _ _ _ _ (o4.doneA SB f1))
  rw [if_neg f1]
  have n4 : ¬ na - 1 = 0 := fun e => f1 (by simp [e])
  have z := q.N _ _ _ g ac bc o4 (by (first | lia | omega)) (by (first | lia | omega)) h3 h4 (by (first | lia | omega))
  by_cases f2 : (decide (ac < 7) && decide (bc < 7)) = true
  · rw [if_pos f2]
    exact wpS_pure z.1
  · rw [if_neg f2]
    exact wpS_pure z.2
theorem hi2_ok (o : Swo lt) (hc : CmpL prog w A s κ Ok lt) (hk : kindOf st = κ) (ha : ∀ p ∈ a.toList, Ok p) (hb : ∀ p ∈ b.toList, Ok p) (hb0 : ∀ p, b[0]? = some p → ∀ y ∈ a.toList, Le lt p y) (SA : So lt a.toList) (SB : So lt b.toList) (q : HiQ lt a b st N Q) (ho : OutHL lt a b out na nb) (h1 : 1 ≤ na) (h2 : na ≤ a.size) (h3 : 2 ≤ nb) (h4 : nb ≤ b.size) (hN : na + nb ≤ N) (hp : ∀ p, b[nb - 1]? = some p → ∀ y ∈ a.toList.take na, Le lt y p)
    {T : Keyed → Option Nat → StateT SortSt Sem (ForInStep HiT)} (hT : ∀ p k, T p (some k) = if nb - 1 - k > 0 then (if (k == 1) = true then pure (.done (some (b.extract 0 k ++ a.extract 0 na ++ (out.push p ++ (b.extract k (nb - 1)).reverse).reverse), na, k, out.push p ++ (b.extract k (nb - 1)).reverse, g, ac, nb - 1 - k))
          else if (k == 0) = true then pure (.done (some (a.extract 0 na ++ b.extract 0 k ++ (out.push p ++ (b.extract k (nb - 1)).reverse).reverse), na, k, out.push p ++ (b.extract k (nb - 1)).reverse, g, ac, nb - 1 - k))
          else hi3 a b na k (out.push p ++ (b.extract k (nb - 1)).reverse) g ac (nb - 1 - k))
        else hi3 a b na (nb - 1) (out.push p) g ac (nb - 1 - k)) :
    wpS (model prog w) A E s (elem' b (nb - 1) >>= fun p => if (nb - 1 == 1) = true then pure (.done (some (b.extract 0 (nb - 1) ++ a.extract 0 na ++ (out.push p).reverse), na, nb - 1, out.push p, g, ac, bc))
      else elem' a (na - 1) >>= fun q => gallop' true q b 0 (nb - 1) (nb - 1 - 1) >>= T p) Q st := by
  refine wpS_bind (wpS_elem (by (first | lia | omega)) fun p3 w3 e3 => ?_)
  have o2 := ho.pushB SB (by (first | lia | omega)) e3 (hp p3 e3)
  by_cases c3 : (nb - 1 == 1) = true
  · rw [if_pos c3]
    exact wpS_pure (q.R _ _ _ _ _ _ _ (o2.firstL SA SB hb0 c3))
  rw [if_neg c3]
  have n3 : ¬ nb - 1 = 1 := fun e => c3 (by simp [e])
  refine wpS_bind (wpS_elem (by (first | lia | omega)) fun q3 v3 u3 => ?_)
  refine wpS_bind (wpS_gallopL o hc hk (ha q3 v3) hb (by (first | lia | omega)) (by (first | lia | omega)) (up_of SB _ _) fun k2 hk2 G1 G2 => ?_)
  rw [hT]
  by_cases k20 : nb - 1 - k2 > 0
  · rw [if_pos k20]
    have o3 := o2.extB SB (k := k2) (by (first | lia | omega)) (fun x hx => lastLe o SA (by (first | lia | omega)) u3 (galHB G2 x hx))
    by_cases c4 : (k2 == 1) = true
    · rw [if_pos c4]
      exact wpS_pure (q.R _ _ _ _ _ _ _ (o3.firstL SA SB hb0 c4))
    rw [if_neg c4]
    by_cases c5 : (k2 == 0) = true
    · rw [if_pos c5]
      exact wpS_pure (q.R _ _ _ _ _ _ _ (o3.doneB SA c5))
    rw [if_neg c5]
    have n5 : ¬ k2 = 1 := fun e => c4 (by simp [e])
    have n6 : ¬ k2 = 0 := fun e => c5 (by simp [e])
    exact hi3_ok SA SB q o3 h1 h2 (by (first | lia | omega)) (by (first | lia | omega)) (by (first | lia | omega)) fun p e => by rw [some_inj e u3]; exact galHB1 G1 o
  · rw [if_neg k20]
    exact hi3_ok SA SB q o2 h1 h2 (by (first | lia | omega)) (by (first | lia | omega)) (by (first | lia | omega)) fun p e => by rw [some_inj e u3]; exact galHB1 (fun i hi => G1 i (by (first | lia | omega))) o
end
set_option maxHeartbeats 2000000 in
theorem wpS_mergeHiL {a b : Array Keyed} {Q : Array Keyed → SortSt → Prop} (o : Swo lt) (hc : CmpL prog w A s κ Ok lt) (hk : kindOf st = κ) (ha : ∀ p ∈ a.toList, Ok p) (hb : ∀ p ∈ b.toList, Ok p) (ha1 : 1 ≤ a.size) (hb1 : 1 ≤ b.size) (SA : So lt a.toList) (SB : So lt b.toList) (hb0 : ∀ p, b[0]? = some p → ∀ y ∈ a.toList, Le lt p y) (LA : ∀ x ∈ b.toList, ∀ q, a[a.size - 1]? = some q → Le lt x q)
    (h : ∀ r st', Like st st' → Rs lt a b r → Q r st') : wpS (model prog w) A E s (mergeHi' a b) Q st := by
  refine wpS_bind (wpS_lift (wpAny_rule ⟨rfl, ?_⟩))
  refine wpS_bind (wpS_elem (by (first | lia | omega)) fun p hp he => ?_)
  try dsimp -zeta only
  have o0 : OutHL lt a b #[p] (a.size - 1) b.size := outHL0 SA ha1 he LA
  by_cases c1 : (a.size - 1 == 0) = true
  · rw [if_pos c1]
    exact wpS_pure (h _ _ (Like.refl _) (o0.doneA SB c1))
  rw [if_neg c1]
  by_cases c2 : (b.size == 1) = true
  · rw [if_pos c2]
    exact wpS_pure (h _ _ (Like.refl _) (o0.firstL SA SB hb0 c2))
  rw [if_neg c2]
  have n1 : 1 < b.size := by
    have : ¬ b.size = 1 := fun e => c2 (by simp [e])
    (first | lia | omega)
  have n2 : 1 < a.size := by
    have : ¬ a.size - 1 = 0 := fun e => c1 (by simp [e])
    (first | lia | omega)
  refine wpS_bind (wpS_get ?_)
  refine wpS_bind (wpS_mono (wpS_forRange (I := fun x c st' => Like st st' ∧ ∃ na nb out g, c = (none, na, nb, out, g) ∧ OutHL lt a b out na nb ∧ 1 ≤ na ∧ na ≤ a.size ∧ 2 ≤ nb ∧ nb ≤ b.size ∧ na + nb + x + 1 ≤ a.size + b.size)
    (Q := fun c st' => Like st st' ∧ ∃ r na nb out g, c = (some r, na, nb, out, g) ∧ Rs lt a b r) ?_ ?_ ⟨Like.refl _, _, _, _, _, rfl, o0, by (first | lia | omega), by (first | lia | omega), by (first | lia | omega), by (first | lia | omega), by (first | lia | omega)⟩) ?_)
  · rintro x c st1 _ hx ⟨lk, na, nb, out, g, rfl, ho, h1, h2, h3, h4, hxx⟩
    try dsimp -zeta only
    refine wpS_bind (wpS_mono (wpS_forRange (I := fun y c st' => Like st st' ∧ ∃ na nb out ac bc, c = (none, na, nb, out, ac, bc) ∧ OutHL lt a b out na nb ∧ 1 ≤ na ∧ na ≤ a.size ∧ 2 ≤ nb ∧ nb ≤ b.size ∧ na + nb + x + 1 + (if y = 0 then 0 else 1) ≤ a.size + b.size)
      (Q := fun c st' => Like st st' ∧ ((∃ r na nb out ac bc, c = (some r, na, nb, out, ac, bc) ∧ Rs lt a b r) ∨ ∃ na nb out ac bc, c = (none, na, nb, out, ac, bc) ∧ OutHL lt a b out na nb ∧ 1 ≤ na ∧ na ≤ a.size ∧ 2 ≤ nb ∧ nb ≤ b.size ∧ na + nb + x + 2 ≤ a.size + b.size)) ?_ ?_ ⟨lk, na, nb, out, 0, 0, rfl, ho, h1, h2, h3, h4, by simp; (first | lia | omega)⟩) ?_)
    · rintro y c st2 _ hy ⟨lk2, na, nb, out, ac, bc, rfl, ho, h1, h2, h3, h4, hxx⟩
      have hxx2 : na + nb + x + 1 ≤ a.size + b.size := by split at hxx <;> (first | lia | omega)
      try dsimp only
      refine wpS_bind (wpS_elem (by (first | lia | omega)) fun p hp ep => ?_)
      refine wpS_bind (wpS_elem (by (first | lia | omega)) fun q hq eq => ?_)
      refine wpS_bind (wpS_ltL hc (lk2.kind.trans hk) (hb p hp) (ha q hq) ?_)
      cases hbw : lt p q with
      | true =>
        try dsimp only
        rw [if_pos rfl]
        refine wpS_bind (wpS_elem (by (first | lia | omega)) fun p2 hp2 ep2 => ?_)
        have o1 := ho.pushA SA h1 ep2 (by rw [some_inj ep2 eq]; exact lastLe o SB (by (first | lia | omega)) ep (o.le_of hbw))
        by_cases d1 : (na - 1 == 0) = true
        · rw [if_pos d1]
          exact wpS_pure ⟨lk2, .inl ⟨_, _, _, _, _, _, rfl, (o1.doneA SB d1)⟩⟩
        rw [if_neg d1]
        have m1 : ¬ na - 1 = 0 := fun e => d1 (by simp [e])
        by_cases d2 : ac + 1 ≥ g
        · rw [if_pos d2]
          exact wpS_pure ⟨lk2, .inr ⟨_, _, _, _, _, rfl, o1, by (first | lia | omega), by (first | lia | omega), h3, h4, by (first | lia | omega)⟩⟩
        · rw [if_neg d2]
          exact wpS_pure ⟨lk2, _, _, _, _, _, rfl, o1, by (first | lia | omega), by (first | lia | omega), h3, h4, by rw [if_neg (by (first | lia | omega))]; (first | lia | omega)⟩
      | false =>
        try dsimp only
        rw [if_neg Bool.false_ne_true]
        refine wpS_bind (wpS_elem (by (first | lia | omega)) fun p2 hp2 ep2 => ?_)
        have o1 := ho.pushB SB (by (first | lia | omega)) ep2 (by rw [some_inj ep2 ep]; exact lastLe o SA h1 eq hbw)
        by_cases d1 : (nb - 1 == 1) = true
        · rw [if_pos d1]
          exact wpS_pure ⟨lk2, .inl ⟨_, _, _, _, _, _, rfl, (o1.firstL SA SB hb0 d1)⟩⟩
        rw [if_neg d1]
        have m1 : ¬ nb - 1 = 1 := fun e => d1 (by simp [e])
        by_cases d2 : bc + 1 ≥ g
        · rw [if_pos d2]
          exact wpS_pure ⟨lk2, .inr ⟨_, _, _, _, _, rfl, o1, h1, h2, by (first | lia | omega), by (first | lia | omega), by (first | lia | omega)⟩⟩
        · rw [if_neg d2]
          exact wpS_pure ⟨lk2, _, _, _, _, _, rfl, o1, h1, h2, by (first | lia | omega), by (first | lia | omega), by rw [if_neg (by (first | lia | omega))]; (first | lia | omega)⟩
    · rintro c st2 ⟨lk2, na, nb, out, ac, bc, rfl, ho, h1, h2, h3, h4, hxx⟩
      refine ⟨lk2, .inr ⟨_, _, _, _, _, rfl, ho, h1, h2, h3, h4, ?_⟩⟩
      rw [if_neg (by (first | lia | omega))] at hxx
      (first | lia | omega)
    · rintro c st2 ⟨lk2, ⟨r, na, nb, out, ac, bc, rfl, hr⟩ | ⟨na, nb, out, ac, bc, rfl, ho, h1, h2, h3, h4, hxx⟩⟩
      · exact wpS_pure ⟨lk2, _, _, _, _, _, rfl, hr⟩
      try dsimp -zeta only
      refine wpS_bind (wpS_lift (wpAny_rule ⟨rfl, ?_⟩))
      try dsimp -zeta only
      refine wpS_bind (wpS_mono (wpS_forRange (I := fun y c st' => Like st st' ∧ ∃ na nb out g ac bc, c = (none, na, nb, out, g, ac, bc) ∧ OutHL lt a b out na nb ∧ 1 ≤ na ∧ na ≤ a.size ∧ 2 ≤ nb ∧ nb ≤ b.size ∧ na + nb + x + 2 ≤ a.size + b.size)
        (Q := fun c st' => Like st st' ∧ ((∃ r na nb out g ac bc, c = (some r, na, nb, out, g, ac, bc) ∧ Rs lt a b r) ∨ ∃ na nb out g ac bc, c = (none, na, nb, out, g, ac, bc) ∧ OutHL lt a b out na nb ∧ 1 ≤ na ∧ na ≤ a.size ∧ 2 ≤ nb ∧ nb ≤ b.size ∧ na + nb + x + 2 ≤ a.size + b.size)) ?_ ?_ ⟨lk2, na, nb, out, _, _, _, rfl, ho, h1, h2, h3, h4, hxx⟩) ?_)
      · rintro y c st3 _ hy ⟨lk3, na, nb, out, g3, ac, bc, rfl, ho, h1, h2, h3, h4, hxx⟩
        try dsimp only
        refine wpS_mono (Q := HiP lt a b st x) ?_ (fun r st' h => by cases r <;> exact h)
        have hiq : ∀ {st4}, Like st st4 → HiQ lt a b st4 (na + nb) (HiP lt a b st x) := fun lk4 => ⟨fun r na nb out g ac bc hr => ⟨lk4, .inl ⟨r, na, nb, out, g, ac, bc, rfl, hr⟩⟩, fun na nb out g ac bc ho h1 h2 h3 h4 hN => ⟨⟨lk4, .inr ⟨na, nb, out, g, ac, bc, rfl, ho, h1, h2, h3, h4, by (first | lia | omega)⟩⟩, ⟨lk4, na, nb, out, g, ac, bc, rfl, ho, h1, h2, h3, h4, by (first | lia | omega)⟩⟩⟩
        by_cases g1 : g3 > 1
        · rw [if_pos g1]
          refine wpS_bind (wpS_modify ?_)
          have lk4 := lk3.trans (like_gallop st3 (g3 - 1))
          refine wpS_bind (wpS_elem (by (first | lia | omega)) fun p0 w0 e0 => ?_)
          refine wpS_bind (wpS_gallopL o hc (lk4.kind.trans hk) (hb p0 w0) ha (by (first | lia | omega)) (by (first | lia | omega)) (up_of SA _ _) fun k hk1 F1 F2 => ?_)
          dsimp only
          by_cases k0 : na - k > 0
          · rw [if_pos k0]
            have o1 := ho.extA SA (k := k) (by (first | lia | omega)) (fun x hx => lastLe o SB (by (first | lia | omega)) e0 (galHA F2 o x hx))
            by_cases c1 : (k == 0) = true
            · rw [if_pos c1]
              exact wpS_pure ⟨lk4, .inl ⟨_, _, _, _, _, _, _, rfl, (o1.doneA SB c1)⟩⟩
            rw [if_neg c1]
            have n1 : ¬ k = 0 := fun e => c1 (by simp [e])
            refine hi2_ok o hc (lk4.kind.trans hk) ha hb hb0 SA SB (N := na + nb) (hiq lk4) o1 (by (first | lia | omega)) (by (first | lia | omega)) h3 h4 (by (first | lia | omega)) (fun p e => by rw [some_inj e e0]; exact galHA1 F1) ?_
            exact fun _ _ => rfl
          · rw [if_neg k0]
            refine hi2_ok o hc (lk4.kind.trans hk) ha hb hb0 SA SB (N := na + nb) (hiq lk4) ho h1 h2 h3 h4 (Nat.le_refl _) (fun p e => by rw [some_inj e e0]; exact galHA1 fun i hi => F1 i (by (first | lia | omega))) ?_
            exact fun _ _ => rfl
        · rw [if_neg g1]
          refine wpS_bind (wpS_modify ?_)
          have lk4 := lk3.trans (like_gallop st3 g3)
          refine wpS_bind (wpS_elem (by (first | lia | omega)) fun p0 w0 e0 => ?_)
          refine wpS_bind (wpS_gallopL o hc (lk4.kind.trans hk) (hb p0 w0) ha (by (first | lia | omega)) (by (first | lia | omega)) (up_of SA _ _) fun k hk1 F1 F2 => ?_)
          dsimp only
          by_cases k0 : na - k > 0
          · rw [if_pos k0]
            have o1 := ho.extA SA (k := k) (by (first | lia | omega)) (fun x hx => lastLe o SB (by (first | lia | omega)) e0 (galHA F2 o x hx))
            by_cases c1 : (k == 0) = true
            · rw [if_pos c1]
              exact wpS_pure ⟨lk4, .inl ⟨_, _, _, _, _, _, _, rfl, (o1.doneA SB c1)⟩⟩
            rw [if_neg c1]
            have n1 : ¬ k = 0 := fun e => c1 (by simp [e])
            refine hi2_ok o hc (lk4.kind.trans hk) ha hb hb0 SA SB (N := na + nb) (hiq lk4) o1 (by (first | lia | omega)) (by (first | lia | omega)) h3 h4 (by (first | lia | omega)) (fun p e => by rw [some_inj e e0]; exact galHA1 F1) ?_
            exact fun _ _ => rfl
          · rw [if_neg k0]
            refine hi2_ok o hc (lk4.kind.trans hk) ha hb hb0 SA SB (N := na + nb) (hiq lk4) ho h1 h2 h3 h4 (Nat.le_refl _) (fun p e => by rw [some_inj e e0]; exact galHA1 fun i hi => F1 i (by (first | lia | omega))) ?_
            exact fun _ _ => rfl
      · rintro c st3 ⟨lk3, na, nb, out, g3, ac, bc, rfl, ho, h1, h2, h3, h4, hxx⟩
        exact ⟨lk3, .inr ⟨_, _, _, _, _, _, rfl, ho, h1, h2, h3, h4, hxx⟩⟩
      · rintro c st3 ⟨lk3, ⟨r, na, nb, out, g3, ac, bc, rfl, hr⟩ | ⟨na, nb, out, g3, ac, bc, rfl, ho, h1, h2, h3, h4, hxx⟩⟩
        · exact wpS_pure ⟨lk3, _, _, _, _, _, rfl, hr⟩
        · try dsimp only
          refine wpS_bind (wpS_modify ?_)
          exact wpS_pure ⟨lk3.trans (like_gallop _ _), _, _, _, _, rfl, ho, h1, h2, h3, h4, by (first | lia | omega)⟩
  · rintro c st1 ⟨lk, na, nb, out, g, rfl, ho, h1, h2, h3, h4, hx⟩
    exfalso
    (first | lia | omega)
  · rintro c st1 ⟨lk, r, na, nb, out, g, rfl, hr⟩
    exact wpS_pure (h r st1 lk hr)
end
end Srd

namespace Srd
open PySem PyProof.Rows Srt
/-- all but this piece is as it was -/
structure Pl (lo hi : Nat) (st st' : SortSt) : Prop where
  pm : Pm st st'
  out : ∀ i, i < lo ∨ hi ≤ i → (arrOf st')[i]? = (arrOf st)[i]?
theorem Pl.refl (lo hi : Nat) (st : SortSt) : Pl lo hi st st := ⟨Pm.refl _, fun _ _ => rfl⟩
theorem Pl.trans {lo hi : Nat} {a b c : SortSt} (x : Pl lo hi a b) (y : Pl lo hi b c) : Pl lo hi a c := ⟨x.pm.trans y.pm, fun i h => (y.out i h).trans (x.out i h)⟩
theorem Pl.mirror {lo hi i j : Nat} (st : SortSt) (h1 : lo ≤ i) (h2 : j ≤ hi) (hj : j ≤ (arrOf st).size) : Pl lo hi st (setArr st (mirror (arrOf st) i j ((j - i) / 2))) := ⟨Pm.mirror st i j, fun k hk => by
  show (PyProof.Rows.mirror (arrOf st) i j ((j - i) / 2))[k]? = _
  rw [getElem?_mirror_all hj, if_neg (by (first | lia | omega))]⟩
theorem Pl.bubble {lo hi src dst : Nat} (st : SortSt) (h1 : lo ≤ dst) (h2 : dst ≤ src) (h3 : src < hi) (hs : src < (arrOf st).size) : Pl lo hi st (setArr st (bubble (arrOf st) src (src - dst))) := ⟨Pm.bubble st src dst, fun k hk => by
  show (PyProof.Rows.bubble (arrOf st) src (src - dst))[k]? = _
  rw [getElem?_bubble hs _ (by (first | lia | omega)), if_neg (by (first | lia | omega)), if_neg (by (first | lia | omega))]⟩
section
variable {lt : Keyed → Keyed → Bool} {arr : Array Keyed} {lo hi m : Nat} {p q : Keyed}
/-- this piece falls -/
def Dn (lt : Keyed → Keyed → Bool) (arr : Array Keyed) (i j : Nat) : Prop := ∀ x y p q, i ≤ x → x < y → y < j → arr[x]? = some p → arr[y]? = some q → Le lt q p
/-- this piece is all alike -/
def Eqv (lt : Keyed → Keyed → Bool) (arr : Array Keyed) (i j : Nat) : Prop := ∀ x y p q, i ≤ x → x < j → i ≤ y → y < j → arr[x]? = some p → arr[y]? = some q → Le lt p q
theorem up_one : Up lt arr lo (lo + 1) := fun x y _ _ h1 h2 h3 => by (first | lia | omega)
theorem dn_one : Dn lt arr lo (lo + 1) := fun x y _ _ h1 h2 h3 => by (first | lia | omega)
theorem Up.ext (o : Swo lt) (h : Up lt arr lo m) (hm : lo < m) (hp : arr[m - 1]? = some p) (hq : arr[m]? = some q) (hle : Le lt p q) : Up lt arr lo (m + 1) := fun x y u v h1 h2 h3 eu ev => by
  by_cases hy : y < m
  · exact h x y u v h1 h2 hy eu ev
  obtain rfl : y = m := by (first | lia | omega)
  rw [hq] at ev
  cases ev
  by_cases hx : x = y - 1
  · rw [hx, hp] at eu
    cases eu
    exact hle
  · exact o.le_trans (h x (y - 1) u p h1 (by (first | lia | omega)) (by (first | lia | omega)) eu hp) hle
theorem Dn.ext (o : Swo lt) (h : Dn lt arr lo m) (hm : lo < m) (hp : arr[m - 1]? = some p) (hq : arr[m]? = some q) (hle : Le lt q p) : Dn lt arr lo (m + 1) := fun x y u v h1 h2 h3 eu ev => by
  by_cases hy : y < m
  · exact h x y u v h1 h2 hy eu ev
  obtain rfl : y = m := by (first | lia | omega)
  rw [hq] at ev
  cases ev
  by_cases hx : x = y - 1
  · rw [hx, hp] at eu
    cases eu
    exact hle
  · exact o.le_trans hle (h x (y - 1) u p h1 (by (first | lia | omega)) (by (first | lia | omega)) eu hp)
theorem Dn.mirror (h : Dn lt arr lo hi) (hs : hi ≤ arr.size) : Up lt (mirror arr lo hi ((hi - lo) / 2)) lo hi := fun x y u v h1 h2 h3 eu ev => by
  rw [getElem?_mirror_all hs, if_pos (by (first | lia | omega))] at eu ev
  exact h (lo + hi - 1 - y) (lo + hi - 1 - x) v u (by (first | lia | omega)) (by (first | lia | omega)) (by (first | lia | omega)) ev eu
theorem Up.mirror (h : Up lt arr lo hi) (hs : hi ≤ arr.size) : Dn lt (mirror arr lo hi ((hi - lo) / 2)) lo hi := fun x y u v h1 h2 h3 eu ev => by
  rw [getElem?_mirror_all hs, if_pos (by (first | lia | omega))] at eu ev
  exact h (lo + hi - 1 - y) (lo + hi - 1 - x) v u (by (first | lia | omega)) (by (first | lia | omega)) (by (first | lia | omega)) ev eu
/-- the alike ones turned round -/
theorem Dn.turn (h : Dn lt arr lo hi) (he : Eqv lt arr m hi) (hm : lo ≤ m) (hs : hi ≤ arr.size) : Dn lt (PyProof.Rows.mirror arr m hi ((hi - m) / 2)) lo hi := fun x y u v h1 h2 h3 eu ev => by
  rw [getElem?_mirror_all hs] at eu ev
  by_cases hy : m ≤ y ∧ y < hi
  · rw [if_pos hy] at ev
    by_cases hx : m ≤ x ∧ x < hi
    · rw [if_pos hx] at eu
      exact he _ _ _ _ (by (first | lia | omega)) (by (first | lia | omega)) (by (first | lia | omega)) (by (first | lia | omega)) ev eu
    · rw [if_neg hx] at eu
      exact h x (m + hi - 1 - y) u v h1 (by (first | lia | omega)) (by (first | lia | omega)) eu ev
  · rw [if_neg hy] at ev
    rw [if_neg (by (first | lia | omega))] at eu
    exact h x y u v h1 h2 h3 eu ev
end
section
variable {prog : Program} {w : World} {A : Around} {E : Value → Shared → Prop} {s : Shared} {κ : SortKind} {Ok : Keyed → Prop} {st : SortSt} {lt : Keyed → Keyed → Bool}
theorem wpS_ltAtL {i j : Nat} {Q : Option Bool → SortSt → Prop} (hc : CmpL prog w A s κ Ok lt) (hk : kindOf st = κ) (ho : ∀ p ∈ (arrOf st).toList, Ok p) (hi : i < (arrOf st).size) (hj : j < (arrOf st).size) (h : ∀ p q, (arrOf st)[i]? = some p → (arrOf st)[j]? = some q → Q (some (lt p q)) st) : wpS (model prog w) A E s (ltAt' i j) Q st := by
  rw [ltAt'_eq]
  refine wpS_bind (wpS_get ?_)
  refine wpS_bind (wpS_elem hi fun p hp e1 => wpS_bind (wpS_elem hj fun q hq e2 => ?_))
  exact wpS_ltL hc hk (ho p hp) (ho q hq) (h p q e1 e2)
theorem wpS_revX {i j : Nat} {Q : PUnit → SortSt → Prop} (h : Q ⟨⟩ (setArr st (mirror (arrOf st) i j ((j - i) / 2)))) : wpS (model prog w) A E s (reverseSlice' i j) Q st := by
  rw [reverseSlice'_eq]
  exact wpS_modify h
theorem wpS_moveX {i j : Nat} {Q : PUnit → SortSt → Prop} (h : Q ⟨⟩ (setArr st (bubble (arrOf st) i (i - j)))) : wpS (model prog w) A E s (moveDown' i j) Q st := by
  rw [moveDown'_eq]
  exact wpS_modify h
/-- put in at its place -/
theorem ins_up (o : Swo lt) {arr : Array Keyed} {lo k l : Nat} {pv : Keyed} (h : Up lt arr lo (lo + k)) (hs : lo + k < arr.size) (hl : l ≤ k) (ep : arr[lo + k]? = some pv) (h1 : ∀ i p, i < l → arr[lo + i]? = some p → Le lt p pv) (h2 : ∀ i p, l ≤ i → i < k → arr[lo + i]? = some p → lt pv p = true) :
    Up lt (bubble arr (lo + k) (lo + k - (lo + l))) lo (lo + k + 1) := fun x y u v a1 a2 a3 eu ev => by
  rw [getElem?_bubble hs _ (by (first | lia | omega))] at eu ev
  rw [show lo + k - (lo + k - (lo + l)) = lo + l by (first | lia | omega)] at eu ev
  by_cases hy : y = lo + l
  · rw [if_pos hy, ep] at ev
    cases ev
    rw [if_neg (by (first | lia | omega)), if_neg (by (first | lia | omega))] at eu
    exact h1 (x - lo) u (by (first | lia | omega)) (by rw [show lo + (x - lo) = x by (first | lia | omega)]; exact eu)
  rw [if_neg hy] at ev
  by_cases hx : x = lo + l
  · rw [if_pos hx, ep] at eu
    cases eu
    rw [if_pos (by (first | lia | omega))] at ev
    exact o.le_of (h2 (y - 1 - lo) v (by (first | lia | omega)) (by (first | lia | omega)) (by rw [show lo + (y - 1 - lo) = y - 1 by (first | lia | omega)]; exact ev))
  rw [if_neg hx] at eu
  by_cases hy2 : lo + l < y ∧ y ≤ lo + k
  · rw [if_pos hy2] at ev
    by_cases hx2 : lo + l < x ∧ x ≤ lo + k
    · rw [if_pos hx2] at eu
      exact h (x - 1) (y - 1) u v (by (first | lia | omega)) (by (first | lia | omega)) (by (first | lia | omega)) eu ev
    · rw [if_neg hx2] at eu
      exact h x (y - 1) u v (by (first | lia | omega)) (by (first | lia | omega)) (by (first | lia | omega)) eu ev
  · rw [if_neg hy2] at ev
    rw [if_neg (by (first | lia | omega))] at eu
    exact h x y u v (by (first | lia | omega)) (by (first | lia | omega)) (by (first | lia | omega)) eu ev
set_option maxHeartbeats 1000000 in
theorem wpS_binaryL {lo n ok : Nat} {Q : Bool → SortSt → Prop} (o : Swo lt) (hc : CmpL prog w A s κ Ok lt) (hk : kindOf st = κ) (ho : ∀ p ∈ (arrOf st).toList, Ok p) (hn : lo + n ≤ (arrOf st).size) (hok : ok ≤ n) (hn1 : 1 ≤ n) (hu : Up lt (arrOf st) lo (lo + ok)) (h : ∀ st', Pl lo (lo + n) st st' → Up lt (arrOf st') lo (lo + n) → Q true st') : wpS (model prog w) A E s (binarySort' lo n ok) Q st := by
  have hu0 : Up lt (arrOf st) lo (lo + max ok 1) := by
    by_cases h0 : ok = 0
    · rw [h0]
      exact up_one
    · rw [show max ok 1 = ok by (first | lia | omega)]
      exact hu
  refine wpS_bind (wpS_mono (wpS_forRange (I := fun x c st' => c = (none, ()) ∧ Pl lo (lo + n) st st' ∧ Up lt (arrOf st') lo (lo + x)) (Q := fun c st' => c = (none, ()) ∧ Pl lo (lo + n) st st' ∧ Up lt (arrOf st') lo (lo + n)) ?_ ?_ ⟨rfl, Pl.refl _ _ _, hu0⟩) ?_)
  · rintro k c st1 hk1 hkn ⟨rfl, pl, u1⟩
    try dsimp only
    have hsz := pl.pm.size
    obtain ⟨pv, epv⟩ : ∃ pv, (arrOf st1)[lo + k]? = some pv := ⟨_, getElem?_pos _ (lo + k) (by (first | lia | omega))⟩
    refine wpS_bind (wpS_mono (wpS_forRange (I := fun y c st' => st' = st1 ∧ ∃ l r, c = (none, l, r) ∧ l ≤ r ∧ r ≤ k ∧ (∀ i p, i < l → (arrOf st1)[lo + i]? = some p → Le lt p pv) ∧ (∀ i p, r ≤ i → i < k → (arrOf st1)[lo + i]? = some p → lt pv p = true) ∧ r - l + y ≤ k)
      (Q := fun c st' => st' = st1 ∧ ∃ l r, c = (none, l, r) ∧ l = r ∧ r ≤ k ∧ (∀ i p, i < l → (arrOf st1)[lo + i]? = some p → Le lt p pv) ∧ (∀ i p, r ≤ i → i < k → (arrOf st1)[lo + i]? = some p → lt pv p = true)) ?_ ?_ ⟨rfl, 0, k, rfl, by (first | lia | omega), by (first | lia | omega), fun i p hi => by (first | lia | omega), fun i p h1 h2 => by (first | lia | omega), by (first | lia | omega)⟩) ?_)
    · rintro y c st2 _ _ ⟨rfl, l, r, rfl, h1, h2, h3, h4, h5⟩
      try dsimp only
      by_cases hlr : l ≥ r
      · rw [if_pos hlr]
        exact wpS_pure ⟨rfl, l, r, rfl, by (first | lia | omega), h2, h3, h4⟩
      rw [if_neg hlr]
      refine wpS_bind (wpS_ltAtL hc (pl.pm.kind.trans hk) (pl.pm.ok ho) (by (first | lia | omega)) (by (first | lia | omega)) fun p q e1 e2 => ?_)
      rw [epv] at e1
      cases e1
      cases hb : lt pv q with
      | true =>
        refine wpS_pure ⟨rfl, _, _, rfl, by (first | lia | omega), by (first | lia | omega), h3, fun i p hi1 hi2 ei => ?_, by (first | lia | omega)⟩
        by_cases e : i = (l + r) / 2
        · rw [e, e2] at ei
          cases ei
          exact hb
        · exact o.lt_le hb (u1 _ _ q p (by (first | lia | omega)) (show lo + (l + r) / 2 < lo + i by (first | lia | omega)) (by (first | lia | omega)) e2 ei)
      | false =>
        refine wpS_pure ⟨rfl, _, _, rfl, by (first | lia | omega), by (first | lia | omega), fun i p hi1 ei => ?_, h4, by (first | lia | omega)⟩
        by_cases e : i = (l + r) / 2
        · rw [e, e2] at ei
          cases ei
          exact hb
        · exact o.le_trans (u1 _ _ p q (by (first | lia | omega)) (show lo + i < lo + (l + r) / 2 by (first | lia | omega)) (by (first | lia | omega)) ei e2) hb
    · rintro c st2 ⟨rfl, l, r, rfl, h1, h2, h3, h4, h5⟩
      exact ⟨rfl, l, r, rfl, by (first | lia | omega), h2, h3, h4⟩
    · rintro c st2 ⟨rfl, l, r, rfl, rfl, h2, h3, h4⟩
      try dsimp only
      refine wpS_bind (wpS_moveX ?_)
      exact wpS_pure ⟨rfl, pl.trans (Pl.bubble st2 (by (first | lia | omega)) (by (first | lia | omega)) (by (first | lia | omega)) (by (first | lia | omega))), ins_up o u1 (by (first | lia | omega)) h2 epv h3 h4⟩
  · rintro c st1 ⟨rfl, pl, u1⟩
    rw [show max (max ok 1) n = n by (first | lia | omega)] at u1
    exact ⟨rfl, pl, u1⟩
  · rintro c st1 ⟨rfl, pl, u1⟩
    exact wpS_pure (h st1 pl u1)
set_option maxHeartbeats 4000000 in
theorem wpS_countL {lo nrem : Nat} {Q : Option Nat → SortSt → Prop} (o : Swo lt) (hc : CmpL prog w A s κ Ok lt) (hk : kindOf st = κ) (ho : ∀ p ∈ (arrOf st).toList, Ok p) (h1 : 1 ≤ nrem) (hn : lo + nrem ≤ (arrOf st).size) (h : ∀ n st', 1 ≤ n → n ≤ nrem → Pl lo (lo + nrem) st st' → Up lt (arrOf st') lo (lo + n) → Q (some n) st') : wpS (model prog w) A E s (countRun' lo nrem) Q st := by
  refine wpS_bind (wpS_mono (wpS_forRange (I := fun x c st' => st' = st ∧ ∃ n, c = (none, n) ∧ n = x ∧ Up lt (arrOf st) lo (lo + n)) (Q := fun c st' => st' = st ∧ ∃ n, c = (none, n) ∧ 1 ≤ n ∧ n ≤ nrem ∧ Up lt (arrOf st) lo (lo + n) ∧ (n = nrem ∨ ∀ p q, (arrOf st)[lo + n]? = some p → (arrOf st)[lo + n - 1]? = some q → lt p q = true)) ?_ ?_ ⟨rfl, 1, rfl, rfl, up_one⟩) ?_)
  · rintro x c st1 hx1 hx ⟨rfl, n, rfl, rfl, u1⟩
    try dsimp only
    refine wpS_bind (wpS_ltAtL hc hk ho (by (first | lia | omega)) (by (first | lia | omega)) fun p q e1 e2 => ?_)
    cases hb : lt p q with
    | true => exact wpS_pure ⟨rfl, n, rfl, by (first | lia | omega), by (first | lia | omega), u1, .inr fun p' q' f1 f2 => by rw [e1] at f1; rw [e2] at f2; cases f1; cases f2; exact hb⟩
    | false => exact wpS_pure ⟨rfl, n + 1, rfl, rfl, u1.ext (m := lo + n) o (by (first | lia | omega)) e2 e1 hb⟩
  · rintro c st1 ⟨rfl, n, rfl, rfl, u1⟩
    exact ⟨rfl, _, rfl, by (first | lia | omega), by (first | lia | omega), u1, .inl (by (first | lia | omega))⟩
  · rintro c st1 ⟨rfl, n, rfl, n1, n2, u1, hstop⟩
    try dsimp only
    by_cases e1 : (n == nrem) = true
    · rw [if_pos e1]
      exact wpS_pure (h n st1 n1 n2 (Pl.refl _ _ _) u1)
    rw [if_neg e1]
    have n3 : n < nrem := by
      have : ¬ n = nrem := fun e => e1 (by simp [e])
      (first | lia | omega)
    have hstop2 := hstop.resolve_left (by (first | lia | omega))
    obtain ⟨pn, epn⟩ : ∃ p, (arrOf st1)[lo + n]? = some p := ⟨_, getElem?_pos _ (lo + n) (by (first | lia | omega))⟩
    obtain ⟨pm, epm⟩ : ∃ p, (arrOf st1)[lo + n - 1]? = some p := ⟨_, getElem?_pos _ (lo + n - 1) (by (first | lia | omega))⟩
    have hless := hstop2 pn pm epn epm
    by_cases e2 : n > 1
    · rw [if_pos e2]
      refine wpS_bind (wpS_ltAtL hc hk ho (by (first | lia | omega)) (by (first | lia | omega)) fun p q f1 f2 => ?_)
      cases hb : lt p q with
      | true =>
        try dsimp only
        rw [if_pos rfl]
        exact wpS_pure (h n st1 n1 n2 (Pl.refl _ _ _) u1)
      | false =>
        try dsimp only
        rw [if_neg Bool.false_ne_true]
        refine wpS_bind (wpS_revX ?_)
        have p2 := Pl.mirror (lo := lo) (hi := lo + nrem) (i := lo) (j := lo + n) st1 (by (first | lia | omega)) (by (first | lia | omega)) (by (first | lia | omega))
        have d2 : Dn lt (arrOf (setArr st1 (mirror (arrOf st1) lo (lo + n) ((lo + n - lo) / 2)))) lo (lo + n) := u1.mirror (by (first | lia | omega))
        have d3 : Dn lt (arrOf (setArr st1 (mirror (arrOf st1) lo (lo + n) ((lo + n - lo) / 2)))) lo (lo + (n + 1)) := by
          refine d2.ext (m := lo + n) o (by (first | lia | omega)) (p := p) (q := pn) ?_ ?_ ?_
          · show (mirror (arrOf st1) lo (lo + n) ((lo + n - lo) / 2))[lo + n - 1]? = some p
            rw [getElem?_mirror_all (by (first | lia | omega)), if_pos (by (first | lia | omega)), show lo + (lo + n) - 1 - (lo + n - 1) = lo by (first | lia | omega)]
            exact f1
          · show (mirror (arrOf st1) lo (lo + n) ((lo + n - lo) / 2))[lo + n]? = some pn
            rw [getElem?_mirror_all (by (first | lia | omega)), if_neg (by (first | lia | omega))]
            exact epn
          · rw [epm] at f2
            cases f2
            exact o.le_trans (o.le_of hless) hb
        generalize setArr st1 (mirror (arrOf st1) lo (lo + n) ((lo + n - lo) / 2)) = st2 at p2 d3
        refine wpS_bind (wpS_lift (wpAny_rule ⟨rfl, ?_⟩))
        refine wpS_bind (wpS_mono (wpS_forRange (I := fun x c st' => Pl lo (lo + nrem) st1 st' ∧ ∃ n q, c = (none, n, q) ∧ n = x ∧ 1 ≤ n ∧ q + 1 ≤ n ∧ Dn lt (arrOf st') lo (lo + n) ∧ Eqv lt (arrOf st') (lo + n - (q + 1)) (lo + n)) (Q := fun c st' => Pl lo (lo + nrem) st1 st' ∧ ∃ n q, c = (none, n, q) ∧ 1 ≤ n ∧ n ≤ nrem ∧ q + 1 ≤ n ∧ Dn lt (arrOf st') lo (lo + n) ∧ Eqv lt (arrOf st') (lo + n - (q + 1)) (lo + n)) ?_ ?_ ⟨p2, n + 1, 0, rfl, rfl, by (first | lia | omega), by (first | lia | omega), d3, fun x y u v a1 a2 a3 a4 eu ev => by obtain rfl : x = y := (by (first | lia | omega)); rw [eu] at ev; cases ev; exact o.le_refl _⟩) ?_)
        · rintro x c st3 hx1 hx ⟨p3, n, q, rfl, rfl, m1, m2, d3, q3⟩
          have z3 := p3.pm.size
          try dsimp only
          refine wpS_bind (wpS_ltAtL hc (p3.pm.kind.trans hk) (p3.pm.ok ho) (by (first | lia | omega)) (by (first | lia | omega)) fun p1 p0 e1 e0 => ?_)
          cases hb : lt p1 p0 with
          | true =>
            try dsimp only
            rw [if_pos rfl]
            by_cases q0 : q > 0
            · rw [if_pos q0]
              refine wpS_bind (wpS_revX ?_)
              have p4 := Pl.mirror (lo := lo) (hi := lo + nrem) (i := lo + n - (q + 1)) (j := lo + n) st3 (by (first | lia | omega)) (by (first | lia | omega)) (by (first | lia | omega))
              have d4 := d3.turn q3 (by (first | lia | omega)) (by (first | lia | omega))
              refine wpS_pure ⟨p3.trans p4, n + 1, 0, rfl, rfl, by (first | lia | omega), by (first | lia | omega), ?_, fun x y u v a1 a2 a3 a4 eu ev => by obtain rfl : x = y := (by (first | lia | omega)); rw [eu] at ev; cases ev; exact o.le_refl _⟩
              obtain ⟨p5, e5⟩ : ∃ p5, (arrOf (setArr st3 (mirror (arrOf st3) (lo + n - (q + 1)) (lo + n) ((lo + n - (lo + n - (q + 1))) / 2))))[lo + n - 1]? = some p5 := ⟨_, getElem?_pos _ (lo + n - 1) (by show _ < (mirror _ _ _ _).size; rw [mirror_size]; (first | lia | omega))⟩
              refine d4.ext (m := lo + n) o (by (first | lia | omega)) e5 (q := p1) ?_ ?_
              · show (mirror (arrOf st3) (lo + n - (q + 1)) (lo + n) ((lo + n - (lo + n - (q + 1))) / 2))[lo + n]? = some p1
                rw [getElem?_mirror_all (by (first | lia | omega)), if_neg (by (first | lia | omega))]
                exact e1
              · have e6 : (mirror (arrOf st3) (lo + n - (q + 1)) (lo + n) ((lo + n - (lo + n - (q + 1))) / 2))[lo + n - 1]? = some p5 := e5
                rw [getElem?_mirror_all (by (first | lia | omega)), if_pos (by (first | lia | omega))] at e6
                exact o.le_trans (o.le_of hb) (q3 _ _ p0 p5 (show lo + n - (q + 1) ≤ lo + n - 1 by (first | lia | omega)) (by (first | lia | omega)) (by (first | lia | omega)) (by (first | lia | omega)) e0 e6)
            · rw [if_neg q0]
              exact wpS_pure ⟨p3, n + 1, 0, rfl, rfl, by (first | lia | omega), by (first | lia | omega), d3.ext (m := lo + n) o (by (first | lia | omega)) e0 e1 (o.le_of hb), fun x y u v a1 a2 a3 a4 eu ev => by obtain rfl : x = y := (by (first | lia | omega)); rw [eu] at ev; cases ev; exact o.le_refl _⟩
          | false =>
            try dsimp only
            rw [if_neg Bool.false_ne_true]
            refine wpS_bind (wpS_ltAtL hc (p3.pm.kind.trans hk) (p3.pm.ok ho) (by (first | lia | omega)) (by (first | lia | omega)) fun p0' p1' e0' e1' => ?_)
            rw [e0] at e0'
            rw [e1] at e1'
            cases e0'
            cases e1'
            cases hb2 : lt p0 p1 with
            | true => exact wpS_pure ⟨p3, n, q, rfl, m1, by (first | lia | omega), m2, d3, q3⟩
            | false =>
              refine wpS_pure ⟨p3, n + 1, q + 1, rfl, rfl, by (first | lia | omega), by (first | lia | omega), d3.ext (m := lo + n) o (by (first | lia | omega)) e0 e1 hb2, fun x y u v a1 a2 a3 a4 eu ev => ?_⟩
              -- p0 and p1 alike
              have one : ∀ x u, lo + (n + 1) - (q + 1 + 1) ≤ x → x < lo + (n + 1) → (arrOf st3)[x]? = some u → Le lt u p0 ∧ Le lt p0 u := fun x u a1 a2 eu => by
                by_cases hx : x = lo + n
                · rw [hx, e1] at eu
                  cases eu
                  exact ⟨hb2, hb⟩
                · exact ⟨q3 x (lo + n - 1) u p0 (by (first | lia | omega)) (by (first | lia | omega)) (by (first | lia | omega)) (by (first | lia | omega)) eu e0, q3 (lo + n - 1) x p0 u (by (first | lia | omega)) (by (first | lia | omega)) (by (first | lia | omega)) (by (first | lia | omega)) e0 eu⟩
              exact o.le_trans (one x u a1 a2 eu).1 (one y v a3 a4 ev).2
        · rintro c st3 ⟨p3, n', q, rfl, rfl, m1, m2, d3, q3⟩
          exact ⟨p3, _, q, rfl, m1, by (first | lia | omega), m2, d3, q3⟩
        · rintro c st3 ⟨p3, n, q, rfl, m1, mn, m2, d3, q3⟩
          have z3 := p3.pm.size
          try dsimp only
          by_cases q0 : q > 0
          · rw [if_pos q0]
            refine wpS_bind (wpS_revX ?_)
            have p4 := Pl.mirror (lo := lo) (hi := lo + nrem) (i := lo + n - (q + 1)) (j := lo + n) st3 (by (first | lia | omega)) (by (first | lia | omega)) (by (first | lia | omega))
            have d4 := d3.turn q3 (by (first | lia | omega)) (by (first | lia | omega))
            have z4 := p4.pm.size
            generalize hst4 : setArr st3 (mirror (arrOf st3) (lo + n - (q + 1)) (lo + n) ((lo + n - (lo + n - (q + 1))) / 2)) = st4 at p4 z4
            have d5 : Dn lt (arrOf st4) lo (lo + n) := by rw [← hst4]; exact d4
            refine wpS_bind (wpS_revX ?_)
            have p6 := (p3.trans p4).trans (Pl.mirror (lo := lo) (hi := lo + nrem) (i := lo) (j := lo + n) st4 (by (first | lia | omega)) (by (first | lia | omega)) (by (first | lia | omega)))
            have u6 : Up lt (arrOf (setArr st4 (mirror (arrOf st4) lo (lo + n) ((lo + n - lo) / 2)))) lo (lo + n) := d5.mirror (by (first | lia | omega))
            have z6 := p6.pm.size
            generalize setArr st4 (mirror (arrOf st4) lo (lo + n) ((lo + n - lo) / 2)) = st5 at p6 u6 z6
            refine wpS_bind (wpS_mono (wpS_forRange (I := fun x c st' => st' = st5 ∧ ∃ k, c = (none, k) ∧ k = x ∧ Up lt (arrOf st5) lo (lo + k)) (Q := fun c st' => st' = st5 ∧ ∃ k, c = (none, k) ∧ n ≤ k ∧ k ≤ nrem ∧ Up lt (arrOf st5) lo (lo + k)) ?_ ?_ ⟨rfl, n, rfl, rfl, u6⟩) ?_)
            · rintro x c st7 hx1 hx2 ⟨rfl, k, rfl, rfl, u7⟩
              try dsimp only
              refine wpS_bind (wpS_ltAtL hc (p6.pm.kind.trans hk) (p6.pm.ok ho) (by (first | lia | omega)) (by (first | lia | omega)) fun p q e1 e2 => ?_)
              cases hb : lt p q with
              | true => exact wpS_pure ⟨rfl, k, rfl, by (first | lia | omega), by (first | lia | omega), u7⟩
              | false => exact wpS_pure ⟨rfl, k + 1, rfl, rfl, u7.ext (m := lo + k) o (by (first | lia | omega)) e2 e1 hb⟩
            · rintro c st7 ⟨rfl, k, rfl, rfl, u7⟩
              exact ⟨rfl, max n nrem, rfl, by (first | lia | omega), by (first | lia | omega), u7⟩
            · rintro c st7 ⟨rfl, k, rfl, k1, k2, u7⟩
              exact wpS_pure (h k _ (by (first | lia | omega)) k2 p6 u7)
          · rw [if_neg q0]
            refine wpS_bind (wpS_revX ?_)
            have p6 := p3.trans (Pl.mirror (lo := lo) (hi := lo + nrem) (i := lo) (j := lo + n) st3 (by (first | lia | omega)) (by (first | lia | omega)) (by (first | lia | omega)))
            have u6 : Up lt (arrOf (setArr st3 (mirror (arrOf st3) lo (lo + n) ((lo + n - lo) / 2)))) lo (lo + n) := d3.mirror (by (first | lia | omega))
            have z6 := p6.pm.size
            generalize setArr st3 (mirror (arrOf st3) lo (lo + n) ((lo + n - lo) / 2)) = st5 at p6 u6 z6
            refine wpS_bind (wpS_mono (wpS_forRange (I := fun x c st' => st' = st5 ∧ ∃ k, c = (none, k) ∧ k = x ∧ Up lt (arrOf st5) lo (lo + k)) (Q := fun c st' => st' = st5 ∧ ∃ k, c = (none, k) ∧ n ≤ k ∧ k ≤ nrem ∧ Up lt (arrOf st5) lo (lo + k)) ?_ ?_ ⟨rfl, n, rfl, rfl, u6⟩) ?_)
            · rintro x c st7 hx1 hx2 ⟨rfl, k, rfl, rfl, u7⟩
              try dsimp only
              refine wpS_bind (wpS_ltAtL hc (p6.pm.kind.trans hk) (p6.pm.ok ho) (by (first | lia | omega)) (by (first | lia | omega)) fun p q e1 e2 => ?_)
              cases hb : lt p q with
              | true => exact wpS_pure ⟨rfl, k, rfl, by (first | lia | omega), by (first | lia | omega), u7⟩
              | false => exact wpS_pure ⟨rfl, k + 1, rfl, rfl, u7.ext (m := lo + k) o (by (first | lia | omega)) e2 e1 hb⟩
            · rintro c st7 ⟨rfl, k, rfl, rfl, u7⟩
              exact ⟨rfl, max n nrem, rfl, by (first | lia | omega), by (first | lia | omega), u7⟩
            · rintro c st7 ⟨rfl, k, rfl, k1, k2, u7⟩
              exact wpS_pure (h k _ (by (first | lia | omega)) k2 p6 u7)
    · rw [if_neg e2]
      have p2 := Pl.refl lo (lo + nrem) st1
      have d3 : Dn lt (arrOf st1) lo (lo + (n + 1)) := by
        obtain rfl : n = 1 := by (first | lia | omega)
        exact dn_one.ext (m := lo + 1) o (by (first | lia | omega)) epm epn (o.le_of hless)
      refine wpS_bind (wpS_lift (wpAny_rule ⟨rfl, ?_⟩))
      refine wpS_bind (wpS_mono (wpS_forRange (I := fun x c st' => Pl lo (lo + nrem) st1 st' ∧ ∃ n q, c = (none, n, q) ∧ n = x ∧ 1 ≤ n ∧ q + 1 ≤ n ∧ Dn lt (arrOf st') lo (lo + n) ∧ Eqv lt (arrOf st') (lo + n - (q + 1)) (lo + n)) (Q := fun c st' => Pl lo (lo + nrem) st1 st' ∧ ∃ n q, c = (none, n, q) ∧ 1 ≤ n ∧ n ≤ nrem ∧ q + 1 ≤ n ∧ Dn lt (arrOf st') lo (lo + n) ∧ Eqv lt (arrOf st') (lo + n - (q + 1)) (lo + n)) ?_ ?_ ⟨p2, n + 1, 0, rfl, rfl, by (first | lia | omega), by (first | lia | omega), d3, fun x y u v a1 a2 a3 a4 eu ev => by obtain rfl : x = y := (by (first | lia | omega)); rw [eu] at ev; cases ev; exact o.le_refl _⟩) ?_)
      · rintro x c st3 hx1 hx ⟨p3, n, q, rfl, rfl, m1, m2, d3, q3⟩
        have z3 := p3.pm.size
        try dsimp only
        refine wpS_bind (wpS_ltAtL hc (p3.pm.kind.trans hk) (p3.pm.ok ho) (by (first | lia | omega)) (by (first | lia | omega)) fun p1 p0 e1 e0 => ?_)
        cases hb : lt p1 p0 with
        | true =>
          try dsimp only
          rw [if_pos rfl]
          by_cases q0 : q > 0
          · rw [if_pos q0]
            refine wpS_bind (wpS_revX ?_)
            have p4 := Pl.mirror (lo := lo) (hi := lo + nrem) (i := lo + n - (q + 1)) (j := lo + n) st3 (by (first | lia | omega)) (by (first | lia | omega)) (by (first | lia | omega))
            have d4 := d3.turn q3 (by (first | lia | omega)) (by (first | lia | omega))
            refine wpS_pure ⟨p3.trans p4, n + 1, 0, rfl, rfl, by (first | lia | omega), by (first | lia | omega), ?_, fun x y u v a1 a2 a3 a4 eu ev => by obtain rfl : x = y := (by (first | lia | omega)); rw [eu] at ev; cases ev; exact o.le_refl _⟩
            obtain ⟨p5, e5⟩ : ∃ p5, (arrOf (setArr st3 (mirror (arrOf st3) (lo + n - (q + 1)) (lo + n) ((lo + n - (lo + n - (q + 1))) / 2))))[lo + n - 1]? = some p5 := ⟨_, getElem?_pos _ (lo + n - 1) (by show _ < (mirror _ _ _ _).size; rw [mirror_size]; (first | lia | omega))⟩
            refine d4.ext (m := lo + n) o (by (first | lia | omega)) e5 (q := p1) ?_ ?_
            · show (mirror (arrOf st3) (lo + n - (q + 1)) (lo + n) ((lo + n - (lo + n - (q + 1))) / 2))[lo + n]? = some p1
              rw [getElem?_mirror_all (by (first | lia | omega)), if_neg (by (first | lia | omega))]
              exact e1
            · have e6 : (mirror (arrOf st3) (lo + n - (q + 1)) (lo + n) ((lo + n - (lo + n - (q + 1))) / 2))[lo + n - 1]? = some p5 := e5
              rw [getElem?_mirror_all (by (first | lia | omega)), if_pos (by (first | lia | omega))] at e6
              exact o.le_trans (o.le_of hb) (q3 _ _ p0 p5 (show lo + n - (q + 1) ≤ lo + n - 1 by (first | lia | omega)) (by (first | lia | omega)) (by (first | lia | omega)) (by (first | lia | omega)) e0 e6)
          · rw [if_neg q0]
            exact wpS_pure ⟨p3, n + 1, 0, rfl, rfl, by (first | lia | omega), by (first | lia | omega), d3.ext (m := lo + n) o (by (first | lia | omega)) e0 e1 (o.le_of hb), fun x y u v a1 a2 a3 a4 eu ev => by obtain rfl : x = y := (by (first | lia | omega)); rw [eu] at ev; cases ev; exact o.le_refl _⟩
        | false =>
          try dsimp only
          rw [if_neg Bool.false_ne_true]
          refine wpS_bind (wpS_ltAtL hc (p3.pm.kind.trans hk) (p3.pm.ok ho) (by (first | lia | omega)) (by (first | lia | omega)) fun p0' p1' e0' e1' => ?_)
          rw [e0] at e0'
          rw [e1] at e1'
          cases e0'
          cases e1'
          cases hb2 : lt p0 p1 with
          | true => exact wpS_pure ⟨p3, n, q, rfl, m1, by (first | lia | omega), m2, d3, q3⟩
          | false =>
            refine wpS_pure ⟨p3, n + 1, q + 1, rfl, rfl, by (first | lia | omega), by (first | lia | omega), d3.ext (m := lo + n) o (by (first | lia | omega)) e0 e1 hb2, fun x y u v a1 a2 a3 a4 eu ev => ?_⟩
            -- p0 and p1 alike
            have one : ∀ x u, lo + (n + 1) - (q + 1 + 1) ≤ x → x < lo + (n + 1) → (arrOf st3)[x]? = some u → Le lt u p0 ∧ Le lt p0 u := fun x u a1 a2 eu => by
              by_cases hx : x = lo + n
              · rw [hx, e1] at eu
                cases eu
                exact ⟨hb2, hb⟩
              · exact ⟨q3 x (lo + n - 1) u p0 (by (first | lia | omega)) (by (first | lia | omega)) (by (first | lia | omega)) (by (first | lia | omega)) eu e0, q3 (lo + n - 1) x p0 u (by (first | lia | omega)) (by (first | lia | omega)) (by (first | lia | omega)) (by (first | lia | omega)) e0 eu⟩
            exact o.le_trans (one x u a1 a2 eu).1 (one y v a3 a4 ev).2
      · rintro c st3 ⟨p3, n', q, rfl, rfl, m1, m2, d3, q3⟩
        exact ⟨p3, _, q, rfl, m1, by (first | lia | omega), m2, d3, q3⟩
      · rintro c st3 ⟨p3, n, q, rfl, m1, mn, m2, d3, q3⟩
        have z3 := p3.pm.size
        try dsimp only
        by_cases q0 : q > 0
        · rw [if_pos q0]
          refine wpS_bind (wpS_revX ?_)
          have p4 := Pl.mirror (lo := lo) (hi := lo + nrem) (i := lo + n - (q + 1)) (j := lo + n) st3 (by (first | lia | omega)) (by (first | lia | omega)) (by (first | lia | omega))
          have d4 := d3.turn q3 (by (first | lia | omega)) (by (first | lia | omega))
          have z4 := p4.pm.size
          generalize hst4 : setArr st3 (mirror (arrOf st3) (lo + n - (q + 1)) (lo + n) ((lo + n - (lo + n - (q + 1))) / 2)) = st4 at p4 z4
          have d5 : Dn lt (arrOf st4) lo (lo + n) := by rw [← hst4]; exact d4
          refine wpS_bind (wpS_revX ?_)
          have p6 := (p3.trans p4).trans (Pl.mirror (lo := lo) (hi := lo + nrem) (i := lo) (j := lo + n) st4 (by (first | lia | omega)) (by (first | lia | omega)) (by (first | lia | omega)))
          have u6 : Up lt (arrOf (setArr st4 (mirror (arrOf st4) lo (lo + n) ((lo + n - lo) / 2)))) lo (lo + n) := d5.mirror (by (first | lia | omega))
          have z6 := p6.pm.size
          generalize setArr st4 (mirror (arrOf st4) lo (lo + n) ((lo + n - lo) / 2)) = st5 at p6 u6 z6
          refine wpS_bind (wpS_mono (wpS_forRange (I := fun x c st' => st' = st5 ∧ ∃ k, c = (none, k) ∧ k = x ∧ Up lt (arrOf st5) lo (lo + k)) (Q := fun c st' => st' = st5 ∧ ∃ k, c = (none, k) ∧ n ≤ k ∧ k ≤ nrem ∧ Up lt (arrOf st5) lo (lo + k)) ?_ ?_ ⟨rfl, n, rfl, rfl, u6⟩) ?_)
          · rintro x c st7 hx1 hx2 ⟨rfl, k, rfl, rfl, u7⟩
            try dsimp only
            refine wpS_bind (wpS_ltAtL hc (p6.pm.kind.trans hk) (p6.pm.ok ho) (by (first | lia | omega)) (by (first | lia | omega)) fun p q e1 e2 => ?_)
            cases hb : lt p q with
            | true => exact wpS_pure ⟨rfl, k, rfl, by (first | lia | omega), by (first | lia | omega), u7⟩
            | false => exact wpS_pure ⟨rfl, k + 1, rfl, rfl, u7.ext (m := lo + k) o (by (first | lia | omega)) e2 e1 hb⟩
          · rintro c st7 ⟨rfl, k, rfl, rfl, u7⟩
            exact ⟨rfl, max n nrem, rfl, by (first | lia | omega), by (first | lia | omega), u7⟩
          · rintro c st7 ⟨rfl, k, rfl, k1, k2, u7⟩
            exact wpS_pure (h k _ (by (first | lia | omega)) k2 p6 u7)
        · rw [if_neg q0]
          refine wpS_bind (wpS_revX ?_)
          have p6 := p3.trans (Pl.mirror (lo := lo) (hi := lo + nrem) (i := lo) (j := lo + n) st3 (by (first | lia | omega)) (by (first | lia | omega)) (by (first | lia | omega)))
          have u6 : Up lt (arrOf (setArr st3 (mirror (arrOf st3) lo (lo + n) ((lo + n - lo) / 2)))) lo (lo + n) := d3.mirror (by (first | lia | omega))
          have z6 := p6.pm.size
          generalize setArr st3 (mirror (arrOf st3) lo (lo + n) ((lo + n - lo) / 2)) = st5 at p6 u6 z6
          refine wpS_bind (wpS_mono (wpS_forRange (I := fun x c st' => st' = st5 ∧ ∃ k, c = (none, k) ∧ k = x ∧ Up lt (arrOf st5) lo (lo + k)) (Q := fun c st' => st' = st5 ∧ ∃ k, c = (none, k) ∧ n ≤ k ∧ k ≤ nrem ∧ Up lt (arrOf st5) lo (lo + k)) ?_ ?_ ⟨rfl, n, rfl, rfl, u6⟩) ?_)
          · rintro x c st7 hx1 hx2 ⟨rfl, k, rfl, rfl, u7⟩
            try dsimp only
            refine wpS_bind (wpS_ltAtL hc (p6.pm.kind.trans hk) (p6.pm.ok ho) (by (first | lia | omega)) (by (first | lia | omega)) fun p q e1 e2 => ?_)
            cases hb : lt p q with
            | true => exact wpS_pure ⟨rfl, k, rfl, by (first | lia | omega), by (first | lia | omega), u7⟩
            | false => exact wpS_pure ⟨rfl, k + 1, rfl, rfl, u7.ext (m := lo + k) o (by (first | lia | omega)) e2 e1 hb⟩
          · rintro c st7 ⟨rfl, k, rfl, rfl, u7⟩
            exact ⟨rfl, max n nrem, rfl, by (first | lia | omega), by (first | lia | omega), u7⟩
          · rintro c st7 ⟨rfl, k, rfl, k1, k2, u7⟩
            exact wpS_pure (h k _ (by (first | lia | omega)) k2 p6 u7)
end
end Srd

namespace Srd
open PySem PyProof.Rows Srt
theorem cov_ge : ∀ {l : List (Nat × Nat × Nat)} {lo hi : Nat}, Cov l lo hi → ∀ z ∈ l, lo ≤ z.1
  | [], _, _, _, z, hz => (nomatch hz)
  | x :: r, lo, hi, ⟨a, b, c⟩, z, hz => by
    rcases List.mem_cons.mp hz with rfl | hz
    · (first | lia | omega)
    · have := cov_ge c z hz
      (first | lia | omega)
theorem cov_hi : ∀ {l : List (Nat × Nat × Nat)} {lo hi : Nat}, Cov l lo hi → ∀ z ∈ l, z.1 + z.2.1 ≤ hi
  | [], _, _, _, z, hz => (nomatch hz)
  | x :: r, lo, hi, ⟨a, b, c⟩, z, hz => by
    rcases List.mem_cons.mp hz with rfl | hz
    · have := c.le
      (first | lia | omega)
    · exact cov_hi c z hz
/-- the runs that are not put together -/
theorem cov_others : ∀ {l : List (Nat × Nat × Nat)} {i lo hi sa na p sb nb q : Nat}, Cov l lo hi → l[i]? = some (sa, na, p) → l[i + 1]? = some (sb, nb, q) →
    ∀ z ∈ (l.set i (sa, na + nb, p)).eraseIdx (i + 1), z = (sa, na + nb, p) ∨ z ∈ l ∧ (z.1 + z.2.1 ≤ sa ∨ sb + nb ≤ z.1)
  | x :: y :: r, 0, lo, hi, sa, na, p, sb, nb, q, ⟨a, b, c1, c2, c3⟩, h1, h2, z, hz => by
    have e1 : x = (sa, na, p) := by simpa using h1
    have e2 : y = (sb, nb, q) := by simpa using h2
    subst e1
    subst e2
    have hz' : z ∈ (sa, na + nb, p) :: r := hz
    rcases List.mem_cons.mp hz' with hz | hz
    · exact .inl hz
    · refine .inr ⟨List.mem_cons_of_mem _ (List.mem_cons_of_mem _ hz), .inr ?_⟩
      have := cov_ge c3 z hz
      have c1' : sb = lo + na := c1
      have this' : lo + na + nb ≤ z.1 := this
      (first | lia | omega)
  | x :: r, i + 1, lo, hi, sa, na, p, sb, nb, q, ⟨a, b, c⟩, h1, h2, z, hz => by
    have h1' : r[i]? = some (sa, na, p) := by simpa using h1
    have hz' : z ∈ x :: ((r.set i (sa, na + nb, p)).eraseIdx (i + 1)) := hz
    rcases List.mem_cons.mp hz' with rfl | hz
    · refine .inr ⟨List.mem_cons_self .., .inl ?_⟩
      have := cov_ge c _ (List.mem_of_getElem? h1')
      have this' : lo + z.2.1 ≤ sa := this
      (first | lia | omega)
    · rcases cov_others (l := r) (i := i) c h1' (by simpa using h2) z hz with h | ⟨h, h'⟩
      · exact .inl h
      · exact .inr ⟨List.mem_cons_of_mem _ h, h'⟩
  | [x], 0, _, _, _, _, _, _, _, _, _, _, h2, _, _ => by simp at h2
  | [], _, _, _, _, _, _, _, _, _, _, h1, _, _, _ => by simp at h1
/-- an item of a list with a piece put in -/
theorem splice_get {L r : List Keyed} {m : Nat} (h : m + r.length ≤ L.length) (x : Nat) : (L.take m ++ r ++ L.drop (m + r.length))[x]? = if x < m then L[x]? else if x < m + r.length then r[x - m]? else L[x]? := by
  have hm : (L.take m).length = m := by rw [List.length_take]; (first | lia | omega)
  by_cases h1 : x < m
  · rw [if_pos h1, List.append_assoc, List.getElem?_append_left (by (first | lia | omega)), List.getElem?_take_of_lt h1]
  rw [if_neg h1]
  by_cases h2 : x < m + r.length
  · rw [if_pos h2, List.getElem?_append_left (by rw [List.length_append]; (first | lia | omega)), List.getElem?_append_right (by (first | lia | omega)), hm]
  · rw [if_neg h2, List.getElem?_append_right (by rw [List.length_append]; (first | lia | omega)), List.getElem?_drop, List.length_append, hm]
    congr 1
    (first | lia | omega)
section
variable {lt : Keyed → Keyed → Bool} {κ : SortKind}
/-- some order of what was given, the runs cover it up to here, and each rises -/
structure SBL (lt : Keyed → Keyed → Bool) (a₀ : Array Keyed) (κ : SortKind) (hi : Nat) (st : SortSt) : Prop where
  sb : SB a₀ κ hi st
  ups : ∀ z ∈ (pendingOf st).toList, Up lt (arrOf st) z.1 (z.1 + z.2.1)
theorem Up.same {arr arr' : Array Keyed} {i j : Nat} (h : Up lt arr i j) (e : ∀ x, i ≤ x → x < j → arr'[x]? = arr[x]?) : Up lt arr' i j := fun x y p q h1 h2 h3 ep eq => by
  rw [e x (by (first | lia | omega)) (by (first | lia | omega))] at ep
  rw [e y (by (first | lia | omega)) (by (first | lia | omega))] at eq
  exact h x y p q h1 h2 h3 ep eq
theorem SBL.pl {a₀ : Array Keyed} {hi hi' : Nat} {st st' : SortSt} (x : SBL lt a₀ κ hi st) (p : Pl hi hi' st st') : SBL lt a₀ κ hi st' := ⟨x.sb.pm p.pm, fun z hz => by
  rw [p.pm.pend] at hz
  have h1 := cov_hi x.sb.cov z hz
  exact (x.ups z hz).same fun i _ h => p.out i (.inl (by (first | lia | omega)))⟩
end
end Srd

namespace Srd
open PySem PyProof.Rows Srt
section
variable {prog : Program} {w : World} {A : Around} {E : Value → Shared → Prop} {s : Shared} {κ : SortKind} {Ok : Keyed → Prop} {st : SortSt} {lt : Keyed → Keyed → Bool}
set_option maxHeartbeats 4000000 in
theorem wpS_mergeAtL {a₀ : Array Keyed} {hi i : Nat} {Q : Bool → SortSt → Prop} (o : Swo lt) (hc : CmpL prog w A s κ Ok lt) (h0 : ∀ p ∈ a₀.toList, Ok p) (hL : SBL lt a₀ κ hi st) (hh : hi ≤ a₀.size) (hi1 : i + 1 < (pendingOf st).size)
    (h : ∀ st', SBL lt a₀ κ hi st' → (∀ x, hi ≤ x → (arrOf st')[x]? = (arrOf st)[x]?) → (pendingOf st').size + 1 = (pendingOf st).size → Q true st') : wpS (model prog w) A E s (mergeAt' i) Q st := by
  have hB := hL.sb
  refine wpS_bind (wpS_get ?_)
  obtain ⟨⟨sa, na, p⟩, e1⟩ : ∃ x, (pendingOf st)[i]? = some x := ⟨_, getElem?_pos _ i (by (first | lia | omega))⟩
  obtain ⟨⟨sb, nb, q⟩, e2⟩ : ∃ x, (pendingOf st)[i + 1]? = some x := ⟨_, getElem?_pos _ (i + 1) hi1⟩
  obtain ⟨k1, k2, k3, k4, k5⟩ := hB.cov.at (i := i) (by rw [← e1]; simp) (by rw [← e2]; simp)
  have e3 : ((pendingOf st)[i]?, (pendingOf st)[i + 1]?) = (some (sa, na, p), some (sb, nb, q)) := by rw [e1, e2]
  have hsz := hB.size
  have l1 : (pendingOf st).toList[i]? = some (sa, na, p) := by rw [← e1]; simp
  have l2 : (pendingOf st).toList[i + 1]? = some (sb, nb, q) := by rw [← e2]; simp
  have ua : Up lt (arrOf st) sa (sa + na) := hL.ups _ (List.mem_of_getElem? l1)
  have ub : Up lt (arrOf st) sb (sb + nb) := hL.ups _ (List.mem_of_getElem? l2)
  have oth := cov_others hB.cov l1 l2
  show wpS _ _ _ _ (match ((pendingOf st)[i]?, (pendingOf st)[i + 1]?) with | (some (sa, na, power), some (sb, nb, _)) => _ | _ => _) Q st
  rw [e1, e2]
  dsimp only
  have hpl : (((pendingOf st).setIfInBounds i (sa, na + nb, p)).eraseIdxIfInBounds (i + 1)).toList = ((pendingOf st).toList.set i (sa, na + nb, p)).eraseIdx (i + 1) := by
    simp
  have hps : ((((pendingOf st).setIfInBounds i (sa, na + nb, p)).eraseIdxIfInBounds (i + 1)).size + 1 = (pendingOf st).size) := by
    have := congrArg List.length hpl
    rw [Array.length_toList, List.length_eraseIdx, List.length_set, Array.length_toList, if_pos hi1] at this
    (first | lia | omega)
  have hB1 : SB a₀ κ hi (SortSt.mk' (kindOf st) (arrOf st) (((pendingOf st).setIfInBounds i (sa, na + nb, p)).eraseIdxIfInBounds (i + 1)) (gallopOf st) (failedOf st)) := ⟨hB.arr, hB.kind, hB.fail, by
    show Cov (((pendingOf st).setIfInBounds i (sa, na + nb, p)).eraseIdxIfInBounds (i + 1)).toList 0 hi
    rw [hpl]
    exact k5⟩
  have hok := hB.ok h0
  have fin : ∀ st' : SortSt, SB a₀ κ hi st' → (pendingOf st').toList = ((pendingOf st).toList.set i (sa, na + nb, p)).eraseIdx (i + 1) → (∀ x, x < sa ∨ sb + nb ≤ x → (arrOf st')[x]? = (arrOf st)[x]?) → Up lt (arrOf st') sa (sa + (na + nb)) → SBL lt a₀ κ hi st' := fun st' hB' hp he hu => ⟨hB', fun z hz => by
    rw [hp] at hz
    rcases oth z hz with rfl | ⟨hz, hd⟩
    · exact hu
    · exact (hL.ups z hz).same fun x h1 h2 => he x (by (first | lia | omega))⟩
  have exm : ∀ (arr : Array Keyed) (x y : Nat) {p : Keyed}, p ∈ (arr.extract x y).toList → p ∈ arr.toList := fun arr x y p hp => by
    rw [Array.toList_extract, List.extract_eq_drop_take] at hp
    exact List.mem_of_mem_drop (List.mem_of_mem_take hp)
  refine wpS_bind (wpS_set ?_)
  refine wpS_bind (wpS_elem (arr := arrOf st) (by (first | lia | omega)) fun p1 m1 ep1 => ?_)
  refine wpS_bind (wpS_gallopL (a := arrOf st) o hc hB1.kind (hok p1 m1) hok (by (first | lia | omega)) (by (first | lia | omega)) ua fun k hk F1 F2 => ?_)
  dsimp only
  have low1 : ∀ i u, i < k → (arrOf st)[sa + i]? = some u → Le lt u p1 := fun i u hi eu => by
    have h3 := F1 i hi
    unfold BV at h3
    rw [eu] at h3
    have h4 : (!lt p1 u) = true := h3
    show lt p1 u = false
    simpa using h4
  have hig1 : ∀ i u, k ≤ i → i < na → (arrOf st)[sa + i]? = some u → Le lt p1 u := fun i u h1 h2 eu => by
    have h3 := F2 i h1 h2
    unfold BV at h3
    rw [eu] at h3
    have h4 : (!lt p1 u) = false := h3
    exact o.le_of (by simpa using h4)
  have p1le : ∀ y v, sb ≤ y → y < sb + nb → (arrOf st)[y]? = some v → Le lt p1 v := fun y v h1 h2 ev => by
    by_cases e : y = sb
    · rw [e, ep1] at ev
      cases ev
      exact o.le_refl _
    · exact ub sb y p1 v (by (first | lia | omega)) (by (first | lia | omega)) h2 ep1 ev
  by_cases c1 : (na - k == 0) = true
  · rw [if_pos c1]
    have ek : k = na := by
      have := eq_of_beq c1
      (first | lia | omega)
    refine wpS_pure (h _ (fin _ hB1 hpl (fun _ _ => rfl) ?_) (fun _ _ => rfl) hps)
    intro x y u v a1 a2 a3 eu ev
    have eu' : (arrOf st)[x]? = some u := eu
    have ev' : (arrOf st)[y]? = some v := ev
    by_cases hy : y < sb
    · exact ua x y u v a1 a2 (by (first | lia | omega)) eu' ev'
    by_cases hx : sb ≤ x
    · exact ub x y u v hx a2 (by (first | lia | omega)) eu' ev'
    exact o.le_trans (low1 (x - sa) u (by (first | lia | omega)) (by rw [show sa + (x - sa) = x by (first | lia | omega)]; exact eu')) (p1le y v (by (first | lia | omega)) (by (first | lia | omega)) ev')
  rw [if_neg c1]
  have n1 : ¬ na - k = 0 := fun e => c1 (by simp [e])
  refine wpS_bind (wpS_elem (arr := arrOf st) (by (first | lia | omega)) fun p2 m2 ep2 => ?_)
  refine wpS_bind (wpS_gallopL (a := arrOf st) o hc hB1.kind (hok p2 m2) hok (by (first | lia | omega)) (by (first | lia | omega)) ub fun nb' hnb G1 G2 => ?_)
  dsimp only
  have ep2' : (arrOf st)[sb - 1]? = some p2 := by
    rw [← ep2]
    congr 1
    (first | lia | omega)
  have lep2 : ∀ x u, sa ≤ x → x < sb → (arrOf st)[x]? = some u → Le lt u p2 := fun x u h1 h2 eu => by
    by_cases e : x = sb - 1
    · rw [e, ep2'] at eu
      cases eu
      exact o.le_refl _
    · exact ua x (sb - 1) u p2 h1 (by (first | lia | omega)) (by (first | lia | omega)) eu ep2'
  have low2 : ∀ i u, i < nb' → (arrOf st)[sb + i]? = some u → Le lt u p2 := fun i u hi eu => by
    have h3 := G1 i hi
    unfold BV at h3
    rw [eu] at h3
    exact o.le_of h3
  have hig2 : ∀ i u, nb' ≤ i → i < nb → (arrOf st)[sb + i]? = some u → Le lt p2 u := fun i u h1 h2 eu => by
    have h3 := G2 i h1 h2
    unfold BV at h3
    rw [eu] at h3
    exact h3
  by_cases c2 : (nb' == 0) = true
  · rw [if_pos c2]
    have ek : nb' = 0 := eq_of_beq c2
    refine wpS_pure (h _ (fin _ hB1 hpl (fun _ _ => rfl) ?_) (fun _ _ => rfl) hps)
    intro x y u v a1 a2 a3 eu ev
    have eu' : (arrOf st)[x]? = some u := eu
    have ev' : (arrOf st)[y]? = some v := ev
    by_cases hy : y < sb
    · exact ua x y u v a1 a2 (by (first | lia | omega)) eu' ev'
    by_cases hx : sb ≤ x
    · exact ub x y u v hx a2 (by (first | lia | omega)) eu' ev'
    exact o.le_trans (lep2 x u a1 (by (first | lia | omega)) eu') (hig2 (y - sb) v (by (first | lia | omega)) (by (first | lia | omega)) (by rw [show sb + (y - sb) = y by (first | lia | omega)]; exact ev'))
  rw [if_neg c2]
  have n2 : ¬ nb' = 0 := fun e => c2 (by simp [e])
  have xs : ((arrOf st).extract (sa + k) sb).size = na - k := by
    rw [Array.size_extract]
    (first | lia | omega)
  have ys : ((arrOf st).extract sb (sb + nb')).size = nb' := by
    rw [Array.size_extract]
    (first | lia | omega)
  have SX : So lt ((arrOf st).extract (sa + k) sb).toList := List.pairwise_iff_getElem.mpr fun x y hx hy hxy => by
    rw [Array.length_toList] at hx hy
    have ex : ((arrOf st).extract (sa + k) sb)[x]? = (arrOf st)[sa + k + x]? := by rw [Array.getElem?_extract, if_pos (by (first | lia | omega))]
    have ey : ((arrOf st).extract (sa + k) sb)[y]? = (arrOf st)[sa + k + y]? := by rw [Array.getElem?_extract, if_pos (by (first | lia | omega))]
    rw [← Array.getElem?_toList, List.getElem?_eq_getElem (by rw [Array.length_toList]; exact hx)] at ex
    rw [← Array.getElem?_toList, List.getElem?_eq_getElem (by rw [Array.length_toList]; exact hy)] at ey
    exact ua _ _ _ _ (by (first | lia | omega)) (show sa + k + x < sa + k + y by (first | lia | omega)) (by (first | lia | omega)) ex.symm ey.symm
  have SY : So lt ((arrOf st).extract sb (sb + nb')).toList := List.pairwise_iff_getElem.mpr fun x y hx hy hxy => by
    rw [Array.length_toList] at hx hy
    have ex : ((arrOf st).extract sb (sb + nb'))[x]? = (arrOf st)[sb + x]? := by rw [Array.getElem?_extract, if_pos (by (first | lia | omega))]
    have ey : ((arrOf st).extract sb (sb + nb'))[y]? = (arrOf st)[sb + y]? := by rw [Array.getElem?_extract, if_pos (by (first | lia | omega))]
    rw [← Array.getElem?_toList, List.getElem?_eq_getElem (by rw [Array.length_toList]; exact hx)] at ex
    rw [← Array.getElem?_toList, List.getElem?_eq_getElem (by rw [Array.length_toList]; exact hy)] at ey
    exact ub _ _ _ _ (by (first | lia | omega)) (show sb + x < sb + y by (first | lia | omega)) (by (first | lia | omega)) ex.symm ey.symm
  have HB0 : ∀ p, ((arrOf st).extract sb (sb + nb'))[0]? = some p → ∀ y ∈ ((arrOf st).extract (sa + k) sb).toList, Le lt p y := fun p ep y hy => by
    rw [Array.getElem?_extract, if_pos (by (first | lia | omega)), Nat.add_zero, ep1] at ep
    cases ep
    obtain ⟨m, h1, h2, e⟩ := mem_exI hy
    exact hig1 (m - sa) y (by (first | lia | omega)) (by (first | lia | omega)) (by rw [show sa + (m - sa) = m by (first | lia | omega)]; exact e)
  have HLA : ∀ x ∈ ((arrOf st).extract sb (sb + nb')).toList, ∀ q, ((arrOf st).extract (sa + k) sb)[((arrOf st).extract (sa + k) sb).size - 1]? = some q → Le lt x q := fun x hx q eq => by
    rw [xs, Array.getElem?_extract, if_pos (by (first | lia | omega)), show sa + k + (na - k - 1) = sb - 1 by (first | lia | omega), ep2'] at eq
    cases eq
    obtain ⟨m, h1, h2, e⟩ := mem_exI hx
    exact low2 (m - sb) x (by (first | lia | omega)) (by rw [show sb + (m - sb) = m by (first | lia | omega)]; exact e)
  -- what the piece put in gives
  have whole : ∀ (r : Array Keyed) (arr' : Array Keyed), Rs lt ((arrOf st).extract (sa + k) sb) ((arrOf st).extract sb (sb + nb')) r → r.toList.length = (na - k) + nb' → arr'.toList = (arrOf st).toList.take (sa + k) ++ r.toList ++ (arrOf st).toList.drop (sa + k + r.toList.length) →
      (∀ x, x < sa ∨ sb + nb ≤ x → arr'[x]? = (arrOf st)[x]?) ∧ Up lt arr' sa (sa + (na + nb)) := fun r arr' hr hrl ha => by
    have get : ∀ x, arr'[x]? = if x < sa + k then (arrOf st)[x]? else if x < sa + k + r.toList.length then r.toList[x - (sa + k)]? else (arrOf st)[x]? := fun x => by
      rw [← Array.getElem?_toList, ha, splice_get (by have hll : (arrOf st).toList.length = (arrOf st).size := Array.length_toList; (first | lia | omega)), Array.getElem?_toList]
    have inr : ∀ u, u ∈ r.toList → (∃ m, sa + k ≤ m ∧ m < sb ∧ (arrOf st)[m]? = some u) ∨ ∃ m, sb ≤ m ∧ m < sb + nb' ∧ (arrOf st)[m]? = some u := fun u hu => by
      rcases List.mem_append.mp (hr.perm.mem_iff.mp hu) with hu | hu
      · exact .inl (mem_exI hu)
      · exact .inr (mem_exI hu)
    refine ⟨fun x hx => ?_, fun x y u v a1 a2 a3 eu ev => ?_⟩
    · rw [get]
      by_cases h1 : x < sa + k
      · rw [if_pos h1]
      · rw [if_neg h1, if_neg (by (first | lia | omega))]
    rw [get] at eu ev
    by_cases hx1 : x < sa + k
    · rw [if_pos hx1] at eu
      have hu1 := low1 (x - sa) u (by (first | lia | omega)) (by rw [show sa + (x - sa) = x by (first | lia | omega)]; exact eu)
      by_cases hy1 : y < sa + k
      · rw [if_pos hy1] at ev
        exact ua x y u v a1 a2 (by (first | lia | omega)) eu ev
      rw [if_neg hy1] at ev
      by_cases hy2 : y < sa + k + r.toList.length
      · rw [if_pos hy2] at ev
        rcases inr v (List.mem_of_getElem? ev) with ⟨m, b1, b2, e⟩ | ⟨m, b1, b2, e⟩
        · exact ua x m u v a1 (by (first | lia | omega)) (by (first | lia | omega)) eu e
        · exact o.le_trans hu1 (p1le m v b1 (by (first | lia | omega)) e)
      · rw [if_neg hy2] at ev
        exact o.le_trans hu1 (p1le y v (by (first | lia | omega)) (by (first | lia | omega)) ev)
    rw [if_neg hx1] at eu
    rw [if_neg (by (first | lia | omega))] at ev
    by_cases hx2 : x < sa + k + r.toList.length
    · rw [if_pos hx2] at eu
      by_cases hy2 : y < sa + k + r.toList.length
      · rw [if_pos hy2] at ev
        obtain ⟨hx3, rfl⟩ := List.getElem?_eq_some_iff.mp eu
        obtain ⟨hy3, rfl⟩ := List.getElem?_eq_some_iff.mp ev
        exact (List.pairwise_iff_getElem.mp hr.sort) _ _ hx3 hy3 (by (first | lia | omega))
      · rw [if_neg hy2] at ev
        rcases inr u (List.mem_of_getElem? eu) with ⟨m, b1, b2, e⟩ | ⟨m, b1, b2, e⟩
        · exact o.le_trans (lep2 m u (by (first | lia | omega)) b2 e) (hig2 (y - sb) v (by (first | lia | omega)) (by (first | lia | omega)) (by rw [show sb + (y - sb) = y by (first | lia | omega)]; exact ev))
        · exact ub m y u v b1 (by (first | lia | omega)) (by (first | lia | omega)) e ev
    · rw [if_neg hx2] at eu
      rw [if_neg (by (first | lia | omega))] at ev
      exact ub x y u v (by (first | lia | omega)) a2 (by (first | lia | omega)) eu ev
  by_cases c3 : na - k ≤ nb'
  · rw [if_pos c3]
    refine wpS_bind (wpS_mergeLoL (a := (arrOf st).extract (sa + k) sb) (b := (arrOf st).extract sb (sb + nb')) o hc hB1.kind (fun p hp => hok p (exm _ _ _ hp)) (fun p hp => hok p (exm _ _ _ hp)) (by rw [xs]; (first | lia | omega)) (by rw [ys]; (first | lia | omega)) SX SY HB0 HLA fun r st2 lk hr => ?_)
    refine wpS_bind (wpS_modify ?_)
    refine wpS_bind (wpS_get ?_)
    have hf : failedOf st2 = none := lk.fail.trans hB.fail
    have hr2 : r.toList.Perm (((arrOf st).toList.drop (sa + k)).take ((na - k) + nb')) := by
      refine hr.perm.trans (List.Perm.of_eq ?_)
      rw [Array.toList_extract, Array.toList_extract, ex_mid _ (by (first | lia | omega)) (by (first | lia | omega))]
      congr 1
      (first | lia | omega)
    have hrl : r.toList.length = (na - k) + nb' := by
      rw [hr2.length_eq, List.length_take, List.length_drop, Array.length_toList]
      (first | lia | omega)
    show wpS _ _ _ _ (pure (failedOf st2).isNone) Q _
    rw [hf]
    have hnew : (List.foldl (fun (a : Array Keyed) (x : Keyed × Nat) => a.setIfInBounds (sa + k + x.2) x.1) (arrOf st2) r.toList.zipIdx).toList = (arrOf st).toList.take (sa + k) ++ r.toList ++ (arrOf st).toList.drop (sa + k + r.toList.length) := by
      rw [lk.arr, splice2 _ _ _ (by show sa + k + r.toList.length ≤ (arrOf st).size; (first | lia | omega))]
    obtain ⟨w1, w2⟩ := whole r _ hr hrl hnew
    refine wpS_pure (h _ (fin _ ⟨?_, lk.kind.trans hB.kind, hf, ?_⟩ (by show (pendingOf st2).toList = _; rw [lk.pend]; exact hpl) w1 w2) (fun x hx => w1 x (.inr (by (first | lia | omega)))) ?_)
    · show (List.foldl (fun (a : Array Keyed) (x : Keyed × Nat) => a.setIfInBounds (sa + k + x.2) x.1) (arrOf st2) r.toList.zipIdx).toList.Perm a₀.toList
      rw [hnew]
      exact (perm_mid hr2 hrl).trans hB.arr
    · show Cov (pendingOf st2).toList 0 hi
      rw [lk.pend]
      exact hB1.cov
    · show (pendingOf st2).size + 1 = _
      rw [lk.pend]
      exact hps
  · rw [if_neg c3]
    refine wpS_bind (wpS_mergeHiL (a := (arrOf st).extract (sa + k) sb) (b := (arrOf st).extract sb (sb + nb')) o hc hB1.kind (fun p hp => hok p (exm _ _ _ hp)) (fun p hp => hok p (exm _ _ _ hp)) (by rw [xs]; (first | lia | omega)) (by rw [ys]; (first | lia | omega)) SX SY HB0 HLA fun r st2 lk hr => ?_)
    refine wpS_bind (wpS_modify ?_)
    refine wpS_bind (wpS_get ?_)
    have hf : failedOf st2 = none := lk.fail.trans hB.fail
    have hr2 : r.toList.Perm (((arrOf st).toList.drop (sa + k)).take ((na - k) + nb')) := by
      refine hr.perm.trans (List.Perm.of_eq ?_)
      rw [Array.toList_extract, Array.toList_extract, ex_mid _ (by (first | lia | omega)) (by (first | lia | omega))]
      congr 1
      (first | lia | omega)
    have hrl : r.toList.length = (na - k) + nb' := by
      rw [hr2.length_eq, List.length_take, List.length_drop, Array.length_toList]
      (first | lia | omega)
    show wpS _ _ _ _ (pure (failedOf st2).isNone) Q _
    rw [hf]
    have hnew : (List.foldl (fun (a : Array Keyed) (x : Keyed × Nat) => a.setIfInBounds (sa + k + x.2) x.1) (arrOf st2) r.toList.zipIdx).toList = (arrOf st).toList.take (sa + k) ++ r.toList ++ (arrOf st).toList.drop (sa + k + r.toList.length) := by
      rw [lk.arr, splice2 _ _ _ (by show sa + k + r.toList.length ≤ (arrOf st).size; (first | lia | omega))]
    obtain ⟨w1, w2⟩ := whole r _ hr hrl hnew
    refine wpS_pure (h _ (fin _ ⟨?_, lk.kind.trans hB.kind, hf, ?_⟩ (by show (pendingOf st2).toList = _; rw [lk.pend]; exact hpl) w1 w2) (fun x hx => w1 x (.inr (by (first | lia | omega)))) ?_)
    · show (List.foldl (fun (a : Array Keyed) (x : Keyed × Nat) => a.setIfInBounds (sa + k + x.2) x.1) (arrOf st2) r.toList.zipIdx).toList.Perm a₀.toList
      rw [hnew]
      exact (perm_mid hr2 hrl).trans hB.arr
    · show Cov (pendingOf st2).toList 0 hi
      rw [lk.pend]
      exact hB1.cov
    · show (pendingOf st2).size + 1 = _
      rw [lk.pend]
      exact hps
end
end Srd

namespace Srd
open PySem PyProof.Rows Srt
section
variable {prog : Program} {w : World} {A : Around} {E : Value → Shared → Prop} {s : Shared} {κ : SortKind} {Ok : Keyed → Prop} {st : SortSt} {lt : Keyed → Keyed → Bool}
set_option maxHeartbeats 4000000 in
theorem wpS_runsL {a₀ : Array Keyed} {Q : Unit → SortSt → Prop} (o : Swo lt) (hc : CmpL prog w A s κ Ok lt) (h0 : ∀ p ∈ a₀.toList, Ok p) (hB : SBL lt a₀ κ 0 st) (h : ∀ st', (arrOf st').toList.Perm a₀.toList → So lt (arrOf st').toList → failedOf st' = none → Q () st') : wpS (model prog w) A E s sortRuns' Q st := by
  refine wpS_bind (wpS_get ?_)
  have hsz := hB.sb.size
  show wpS _ _ _ _ (forIn [:(arrOf st).size] _ _ >>= _) Q st
  rw [hsz]
  refine wpS_bind (wpS_mono (wpS_forRange (I := fun x c st' => ∃ lo, c = (none, lo) ∧ lo ≤ a₀.size ∧ SBL lt a₀ κ lo st' ∧ x ≤ lo) (Q := fun c st' => ∃ lo, c = (none, lo) ∧ lo = a₀.size ∧ SBL lt a₀ κ lo st') ?_ (fun c st' ⟨lo, z1, z2, z3, z4⟩ => ⟨lo, z1, by (first | lia | omega), z3⟩) ⟨0, rfl, Nat.zero_le _, hB, Nat.le_refl _⟩) ?_)
  · rintro x c st1 _ hx ⟨lo, rfl, hlo, hB1, hxl⟩
    try dsimp only
    by_cases c1 : lo ≥ a₀.size
    · rw [if_pos c1]
      exact wpS_pure ⟨lo, rfl, by (first | lia | omega), hB1⟩
    rw [if_neg c1]
    have hs1 := hB1.sb.size
    refine wpS_bind (wpS_countL o hc hB1.sb.kind (hB1.sb.ok h0) (by (first | lia | omega)) (by (first | lia | omega)) fun n st2 n1 n2 p2 u2 => ?_)
    have hB2 := hB1.pl p2
    have hs2 := hB2.sb.size
    try dsimp only
    show wpS _ _ _ _ (if n < minRun' a₀.size a₀.size 0 then _ else _) _ st2
    by_cases c2 : n < minRun' a₀.size a₀.size 0
    · rw [if_pos c2]
      refine wpS_bind (wpS_lift (wpAny_rule ⟨rfl, ?_⟩))
      refine wpS_bind (wpS_binaryL o hc hB2.sb.kind (hB2.sb.ok h0) (by show lo + min (a₀.size - lo) (minRun' a₀.size a₀.size 0) ≤ _; (first | lia | omega)) (by show n ≤ min (a₀.size - lo) (minRun' a₀.size a₀.size 0); (first | lia | omega)) (by show 1 ≤ min (a₀.size - lo) (minRun' a₀.size a₀.size 0); (first | lia | omega)) u2 fun st3 p3 u3 => ?_)
      rw [if_neg (by decide)]
      have hB3 := hB2.pl p3
      have u3' : Up lt (arrOf st3) lo (lo + min (a₀.size - lo) (minRun' a₀.size a₀.size 0)) := u3
      have hN : 1 ≤ min (a₀.size - lo) (minRun' a₀.size a₀.size 0) := by (first | lia | omega)
      refine wpS_bind (wpS_get ?_)
      cases hb : (pendingOf st3).back? with
      | none =>
        dsimp only
        refine wpS_bind (wpS_modify ?_)
        refine wpS_pure ⟨lo + min (a₀.size - lo) (minRun' a₀.size a₀.size 0), rfl, by (first | lia | omega), ⟨⟨hB3.sb.arr, hB3.sb.kind, hB3.sb.fail, ?_⟩, fun z hz => ?_⟩, by (first | lia | omega)⟩
        · show Cov ((pendingOf st3).push (lo, min (a₀.size - lo) (minRun' a₀.size a₀.size 0), 0)).toList 0 (lo + min (a₀.size - lo) (minRun' a₀.size a₀.size 0))
          rw [Array.toList_push]
          exact hB3.sb.cov.push hN
        · have hz' : z ∈ ((pendingOf st3).push (lo, min (a₀.size - lo) (minRun' a₀.size a₀.size 0), 0)).toList := hz
          rw [Array.toList_push] at hz'
          rcases List.mem_append.mp hz' with hz' | hz'
          · exact hB3.ups z hz'
          · rw [List.mem_singleton.mp hz']
            exact u3'
      | some t =>
        obtain ⟨s1, n1, q⟩ := t
        dsimp only
        refine wpS_bind (wpS_mono (wpS_forRange (I := fun _ c st' => c = (none, ()) ∧ SBL lt a₀ κ lo st' ∧ ∀ x, lo ≤ x → (arrOf st')[x]? = (arrOf st3)[x]?) (Q := fun c st' => c = (none, ()) ∧ SBL lt a₀ κ lo st' ∧ ∀ x, lo ≤ x → (arrOf st')[x]? = (arrOf st3)[x]?) ?_ (fun _ _ z => z) ⟨rfl, hB3, fun _ _ => rfl⟩) ?_)
        · rintro y c st4 _ _ ⟨rfl, hB4, hO4⟩
          refine wpS_bind (wpS_get ?_)
          by_cases g1 : (pendingOf st4).size > 1
          · rw [if_pos g1]
            obtain ⟨⟨a1, a2, older⟩, e⟩ : ∃ x, (pendingOf st4)[(pendingOf st4).size - 2]? = some x := ⟨_, getElem?_pos _ _ (by (first | lia | omega))⟩
            rw [e]
            dsimp only
            split
            · exact wpS_pure ⟨rfl, hB4, hO4⟩
            · refine wpS_bind (wpS_mergeAtL o hc h0 hB4 hlo (by show (pendingOf st4).size - 2 + 1 < (pendingOf st4).size; (first | lia | omega)) fun st5 hB5 hO5 _ => ?_)
              rw [if_neg (by decide)]
              exact wpS_pure ⟨rfl, hB5, fun x hx => (hO5 x hx).trans (hO4 x hx)⟩
          · rw [if_neg g1]
            exact wpS_pure ⟨rfl, hB4, hO4⟩
        · rintro c st4 ⟨rfl, hB4, hO4⟩
          dsimp only
          refine wpS_bind (wpS_modify ?_)
          refine wpS_bind (wpS_modify ?_)
          refine wpS_pure ⟨lo + min (a₀.size - lo) (minRun' a₀.size a₀.size 0), rfl, by (first | lia | omega), ⟨⟨hB4.sb.arr, hB4.sb.kind, hB4.sb.fail, ?_⟩, fun z hz => ?_⟩, by (first | lia | omega)⟩
          · show Cov (Array.push ((pendingOf st4).modify _ _) (lo, min (a₀.size - lo) (minRun' a₀.size a₀.size 0), 0)).toList 0 (lo + min (a₀.size - lo) (minRun' a₀.size a₀.size 0))
            rw [Array.toList_push, Array.toList_modify]
            refine Cov.push ?_ hN
            refine Cov.last _ (fun x => ?_) _ hB4.sb.cov
            exact ⟨rfl, rfl⟩
          · change z ∈ (Array.push ((pendingOf st4).modify _ _) (lo, min (a₀.size - lo) (minRun' a₀.size a₀.size 0), 0)).toList at hz
            rw [Array.toList_push, Array.toList_modify] at hz
            rcases List.mem_append.mp hz with hz | hz
            · obtain ⟨i, hi⟩ := List.mem_iff_getElem?.mp hz
              rw [List.getElem?_modify] at hi
              obtain ⟨z0, hz0, rfl⟩ := Option.map_eq_some_iff.mp hi
              have h1 := hB4.ups z0 (List.mem_of_getElem? hz0)
              split
              · exact h1
              · exact h1
            · rw [List.mem_singleton.mp hz]
              exact u3'.same fun x h1 _ => hO4 x h1
    · rw [if_neg c2]
      have hB3 := hB2
      have hN := n1
      have u3' := u2
      refine wpS_bind (wpS_get ?_)
      cases hb : (pendingOf st2).back? with
      | none =>
        dsimp only
        refine wpS_bind (wpS_modify ?_)
        refine wpS_pure ⟨lo + n, rfl, by (first | lia | omega), ⟨⟨hB3.sb.arr, hB3.sb.kind, hB3.sb.fail, ?_⟩, fun z hz => ?_⟩, by (first | lia | omega)⟩
        · show Cov ((pendingOf st2).push (lo, n, 0)).toList 0 (lo + n)
          rw [Array.toList_push]
          exact hB3.sb.cov.push hN
        · have hz' : z ∈ ((pendingOf st2).push (lo, n, 0)).toList := hz
          rw [Array.toList_push] at hz'
          rcases List.mem_append.mp hz' with hz' | hz'
          · exact hB3.ups z hz'
          · rw [List.mem_singleton.mp hz']
            exact u3'
      | some t =>
        obtain ⟨s1, n1, q⟩ := t
        dsimp only
        refine wpS_bind (wpS_mono (wpS_forRange (I := fun _ c st' => c = (none, ()) ∧ SBL lt a₀ κ lo st' ∧ ∀ x, lo ≤ x → (arrOf st')[x]? = (arrOf st2)[x]?) (Q := fun c st' => c = (none, ()) ∧ SBL lt a₀ κ lo st' ∧ ∀ x, lo ≤ x → (arrOf st')[x]? = (arrOf st2)[x]?) ?_ (fun _ _ z => z) ⟨rfl, hB3, fun _ _ => rfl⟩) ?_)
        · rintro y c st4 _ _ ⟨rfl, hB4, hO4⟩
          refine wpS_bind (wpS_get ?_)
          by_cases g1 : (pendingOf st4).size > 1
          · rw [if_pos g1]
            obtain ⟨⟨a1, a2, older⟩, e⟩ : ∃ x, (pendingOf st4)[(pendingOf st4).size - 2]? = some x := ⟨_, getElem?_pos _ _ (by (first | lia | omega))⟩
            rw [e]
            dsimp only
            split
            · exact wpS_pure ⟨rfl, hB4, hO4⟩
            · refine wpS_bind (wpS_mergeAtL o hc h0 hB4 hlo (by show (pendingOf st4).size - 2 + 1 < (pendingOf st4).size; (first | lia | omega)) fun st5 hB5 hO5 _ => ?_)
              rw [if_neg (by decide)]
              exact wpS_pure ⟨rfl, hB5, fun x hx => (hO5 x hx).trans (hO4 x hx)⟩
          · rw [if_neg g1]
            exact wpS_pure ⟨rfl, hB4, hO4⟩
        · rintro c st4 ⟨rfl, hB4, hO4⟩
          dsimp only
          refine wpS_bind (wpS_modify ?_)
          refine wpS_bind (wpS_modify ?_)
          refine wpS_pure ⟨lo + n, rfl, by (first | lia | omega), ⟨⟨hB4.sb.arr, hB4.sb.kind, hB4.sb.fail, ?_⟩, fun z hz => ?_⟩, by (first | lia | omega)⟩
          · show Cov (Array.push ((pendingOf st4).modify _ _) (lo, n, 0)).toList 0 (lo + n)
            rw [Array.toList_push, Array.toList_modify]
            refine Cov.push ?_ hN
            refine Cov.last _ (fun x => ?_) _ hB4.sb.cov
            exact ⟨rfl, rfl⟩
          · change z ∈ (Array.push ((pendingOf st4).modify _ _) (lo, n, 0)).toList at hz
            rw [Array.toList_push, Array.toList_modify] at hz
            rcases List.mem_append.mp hz with hz | hz
            · obtain ⟨i, hi⟩ := List.mem_iff_getElem?.mp hz
              rw [List.getElem?_modify] at hi
              obtain ⟨z0, hz0, rfl⟩ := Option.map_eq_some_iff.mp hi
              have h1 := hB4.ups z0 (List.mem_of_getElem? hz0)
              split
              · exact h1
              · exact h1
            · rw [List.mem_singleton.mp hz]
              exact u3'.same fun x h1 _ => hO4 x h1
  · rintro c st1 ⟨lo, rfl, rfl, hB1⟩
    try dsimp only
    refine wpS_bind (wpS_mono (wpS_forRange (I := fun x c st' => c = (none, ()) ∧ SBL lt a₀ κ a₀.size st' ∧ (pendingOf st').size + x ≤ a₀.size + 1) (Q := fun c st' => c = (none, ()) ∧ SBL lt a₀ κ a₀.size st' ∧ (pendingOf st').size ≤ 1) ?_ (fun c st' ⟨z1, z2, z3⟩ => ⟨z1, z2, by (first | lia | omega)⟩) ⟨rfl, hB1, by have := hB1.sb.cov.le; rw [Array.length_toList] at this; (first | lia | omega)⟩) ?_)
    · rintro x c st2 _ _ ⟨rfl, hB2, hp2⟩
      try dsimp only
      refine wpS_bind (wpS_get ?_)
      try dsimp only
      by_cases c2 : (pendingOf st2).size ≤ 1
      · rw [if_pos c2]
        exact wpS_pure ⟨rfl, hB2, c2⟩
      · rw [if_neg c2]
        have hx : ∀ b : Bool, (if b = true then (pendingOf st2).size - 2 - 1 else (pendingOf st2).size - 2) + 1 < (pendingOf st2).size := fun b => by
          cases b
          · rw [if_neg Bool.false_ne_true]; (first | lia | omega)
          · rw [if_pos rfl]; (first | lia | omega)
        refine wpS_bind (wpS_mergeAtL o hc h0 hB2 (Nat.le_refl _) (hx _) fun st3 hB3 _ hs3 => ?_)
        rw [if_neg (by decide)]
        exact wpS_pure ⟨rfl, hB3, by (first | lia | omega)⟩
    · rintro c st2 ⟨rfl, hB2, hp2⟩
      refine wpS_pure (h st2 hB2.sb.arr ?_ hB2.sb.fail)
      have hz2 := hB2.sb.size
      have hcov := hB2.sb.cov
      have hups := hB2.ups
      have hpl : (pendingOf st2).toList.length ≤ 1 := by rw [Array.length_toList]; exact hp2
      match hl : (pendingOf st2).toList, hpl with
      | [], _ =>
        rw [hl] at hcov
        have h0 : 0 = a₀.size := hcov
        refine so_of (n := 0) (fun x y _ _ _ _ h3 => by (first | lia | omega)) (by (first | lia | omega))
      | [z], _ =>
        rw [hl] at hcov hups
        obtain ⟨z1, z2, z3⟩ := hcov
        have z3' : 0 + z.2.1 = a₀.size := z3
        have hu := hups z (List.mem_singleton.mpr rfl)
        rw [z1, z3'] at hu
        exact so_of hu (by (first | lia | omega))
end
end Srd

namespace Srd
open PySem PyProof.Rows Srt PySem.W
section
variable {prog : Program} {w : World} {A : Around} {E : Value → Shared → Prop} {s : Shared}
/-- these can be sorted in this state by this order -/
def SortableL (prog : Program) (w : World) (A : Around) (lv : Value → Value → Bool) (vs : List Value) (s : Shared) : Prop :=
  ∃ κ, (∀ (Q : SortKind → Shared → Prop) (E : Value → Shared → Prop), Q κ s → wpAny (model prog w) A (keyKind' vs.toArray) Q E s) ∧ CmpL prog w A s κ (fun p => p ∈ (pairsOf vs).toList) fun x y => lv x.1 y.1
theorem zip_self_eq {vs : List Value} {p : Keyed} (h : p ∈ (pairsOf vs).toList) : p.1 = p.2 := by
  rw [pairsOf_toList] at h
  obtain ⟨i, hi⟩ := List.mem_iff_getElem?.mp h
  rw [List.getElem?_zip_eq_some] at hi
  have := hi.1.symm.trans hi.2
  exact Option.some.inj this
theorem so_short {lt : Keyed → Keyed → Bool} {vs : List Value} (h : vs.length < 2) : So lt (pairsOf vs).toList := List.pairwise_iff_getElem.mpr fun i j hi hj hij => by
  rw [Array.length_toList, pairsOf_size] at hi hj
  (first | lia | omega)
theorem snds_so {lv : Value → Value → Bool} {vs : List Value} {xs : Array Keyed} (hp : xs.toList.Perm (pairsOf vs).toList) (h : So (fun x y => lv x.1 y.1) xs.toList) : (xs.map (·.2)).toList.Pairwise (fun u v => lv v u = false) := by
  rw [Array.toList_map, List.pairwise_map]
  refine List.Pairwise.imp_of_mem (fun {x y} hx hy hxy => ?_) h
  have hxy' : lv y.1 x.1 = false := hxy
  rw [zip_self_eq (hp.mem_iff.mp hx), zip_self_eq (hp.mem_iff.mp hy)] at hxy'
  exact hxy'
theorem list_sort_L {lv : Value → Value → Bool} (o : Swo fun x y => lv x.1 y.1) {a : Addr} {vs : List Value} {n : Nat} {P : Fin → Shared → Prop} (ho : s.heap.get? a = some (seqObj "list" vs.toArray n)) (hlen : vs.length ≤ 90000)
    (hc : ∀ h6 : Heap, (∀ b o, b ≠ a → s.heap.get? b = some o → h6.get? b = some o) → 2 ≤ vs.length → SortableL prog w A lv vs { s with heap := h6 })
    (h : ∀ out : Array Value, out.toList.Perm vs → out.toList.Pairwise (fun u v => lv v u = false) → P (.done (.ret .none)) { s with heap := sortedHeap s.heap a vs out }) : wpAny (model prog w) A (Builtin.«list.sort» ⟨[.ref a], []⟩) P E s := by
  have hv : vs.toArray.size ≤ sizeLine := by rw [List.size_toArray, sizeLine_eq]; (first | lia | omega)
  have ha : a < s.heap.objs.size := Heap.lt_size ho
  obtain ⟨e1, ho1⟩ : ∃ e1, (s.heap.update a (Obj.mapSeq fun _ => #[])).get? a = some (seqObj "list" #[] e1) := ⟨_, get?_update_seq ho (fun _ => #[])⟩
  rw [list_sort_plain]
  refine wpAny_bind (listItems_at ho rfl (wpAny_bind (listUpdate_at ho rfl (wpAny_bind (seqEpoch_at ho1 rfl (wpAny_bind (wpAny_newTuple (wpAny_bind (wpAny_newList (wpAny_holding ?_)))))))  hv (Nat.zero_le _))))
  have nT : a ≠ (s.heap.update a (Obj.mapSeq fun _ => #[])).objs.size := by rw [Heap.size_update]; exact Nat.ne_of_lt ha
  have nL : a ≠ ((s.heap.update a (Obj.mapSeq fun _ => #[])).push (seqObj "tuple" vs.toArray 0)).objs.size := by rw [size_push', Heap.size_update]; exact Nat.ne_of_lt (Nat.lt_succ_of_lt ha)
  have ho6 : (((s.heap.update a (Obj.mapSeq fun _ => #[])).push (seqObj "tuple" vs.toArray 0)).push (seqObj "list" #[] 0)).get? a = some (seqObj "list" #[] e1) := by
    rw [Heap.get?_push_ne _ _ _ nL, Heap.get?_push_ne _ _ _ nT]
    exact ho1
  have hkeep : ∀ b o, b ≠ a → s.heap.get? b = some o → (((s.heap.update a (Obj.mapSeq fun _ => #[])).push (seqObj "tuple" vs.toArray 0)).push (seqObj "list" #[] 0)).get? b = some o := fun b o hb e => by
    refine Heap.get?_push_of_some _ (Heap.get?_push_of_some _ ?_)
    rw [Heap.get?_update_other _ _ hb.symm]
    exact e
  show wpAny (model prog w) A _ P E { s with heap := ((s.heap.update a (Obj.mapSeq fun _ => #[])).push (seqObj "tuple" vs.toArray 0)).push (seqObj "list" #[] 0) }
  dsimp only
  by_cases h2 : vs.toArray.size < 2
  · rw [if_pos h2, if_pos h2]
    refine wpAny_bind (wpAny_pure ?_)
    rw [StateT.run_pure]
    refine wpAny_bind (wpAny_pure (wpAny_bind (seqEpoch_at ho6 rfl (wpAny_bind (listUpdate_at ho6 rfl ?_ (Nat.zero_le _) ?_)))))
    · simp only [bne_self_eq_false, Bool.false_eq_true, if_false]
      exact wpAny_pure (h _ (snds_perm (xs := pairsOf vs) (List.Perm.refl _)) (snds_so (xs := pairsOf vs) (List.Perm.refl _) (so_short (by rw [List.size_toArray] at h2; exact h2))))
    · show ((pairsOf vs).map (·.2)).size ≤ _
      rw [Array.size_map, pairsOf_size, sizeLine_eq]
      (first | lia | omega)
  · rw [if_neg h2, if_neg h2]
    rw [List.size_toArray] at h2
    obtain ⟨κ, hkk, hcm⟩ := hc _ hkeep (by (first | lia | omega))
    refine wpAny_bind (hkk _ _ ?_)
    refine wpAny_bind (wpAny_mono (wpS_runsL (a₀ := pairsOf vs) (Q := fun _ st' => (arrOf st').toList.Perm (pairsOf vs).toList ∧ So (fun x y => lv x.1 y.1) (arrOf st').toList ∧ failedOf st' = none) o hcm (fun p hp => hp) ⟨⟨List.Perm.refl _, rfl, rfl, rfl⟩, fun z hz => (nomatch hz)⟩ fun st' a1 a3 a2 => ⟨a1, a3, a2⟩) ?_ fun _ _ e => e)
    rintro ⟨⟨⟩, st'⟩ s' ⟨rfl, hp, hso, hf⟩
    dsimp only
    refine wpAny_bind (seqEpoch_at ho6 rfl (wpAny_bind (listUpdate_at ho6 rfl ?_ (Nat.zero_le _) ?_)))
    · rw [hf]
      simp only [bne_self_eq_false, Bool.false_eq_true, if_false]
      exact wpAny_pure (h _ (snds_perm hp) (snds_so hp hso))
    · have hp' : (arrOf st').toList.Perm (pairsOf vs).toList := hp
      have := hp'.length_eq
      rw [Array.length_toList, Array.length_toList, pairsOf_size] at this
      show ((arrOf st').map (·.2)).size ≤ _
      rw [Array.size_map, sizeLine_eq]
      (first | lia | omega)
/-- sorted of what is gone through: a new list of its items, rising -/
theorem sorted_colL {lv : Value → Value → Bool} (o : Swo fun x y => lv x.1 y.1) {v : Value} {C : List Value → Prop} {Q : Value → Shared → Prop}
    (hcol : ∀ (Q' : List Value → Shared → Prop) (E' : Value → Shared → Prop), (∀ (ys : List Value) (h' : Heap) (tk : Nat) (d : Drawn), (∀ b o, s.heap.get? b = some o → h'.get? b = some o) → C ys → ys.length ≤ 90000 → s.heap.objs.size ≤ h'.objs.size → Q' ys { s with heap := h', toks := tk, drawn := d }) → wpAny (model prog w) A.in1 (collect v) Q' E' s)
    (hc : ∀ (ys : List Value) (h6 : Heap) (tk : Nat) (d : Drawn), C ys → (∀ b o, s.heap.get? b = some o → h6.get? b = some o) → 2 ≤ ys.length → SortableL prog w A.in1.in1 lv ys { s with heap := h6, toks := tk, drawn := d })
    (q : ∀ (p : Addr) (ys : List Value) (out : Array Value) (h' : Heap) (tk : Nat) (d : Drawn) (c : Nat), C ys → out.toList.Perm ys → out.toList.Pairwise (fun u v => lv v u = false) → (∀ b o, s.heap.get? b = some o → h'.get? b = some o) → h'.get? p = some (seqObj "list" out c) → s.heap.objs.size ≤ p → out.size ≤ 90000 → Q (.ref p) { s with heap := h', toks := tk, drawn := d }) :
    wpAny (model prog w) A (call (.builtin "sorted") [v]) Q E s := by
  refine Calls.call_function_entry kind_sorted plain_sorted entry_sorted (args_sorted1 _) ?_
  unfold Builtin.«sorted»
  refine wpAny_bind (m := checkCount "sorted" 1 1 _) (wpAny_pure (wpAny_bind (hcol _ _ fun ys h1 tk d k1 hC hyl hle => wpAny_bind (wpAny_newList ?_ (by rw [sizeLine_eq]; (first | lia | omega))))))
  have hoL : (h1.push (seqObj "list" ys.toArray 0)).get? h1.objs.size = some (seqObj "list" ys.toArray 0) := Heap.get?_push_size _ rfl
  have keep : ∀ b o, s.heap.get? b = some o → (h1.push (seqObj "list" ys.toArray 0)).get? b = some o := fun b o e => Heap.get?_push_of_some _ (k1 b o e)
  have hbp : ∀ b o, s.heap.get? b = some o → h1.objs.size ≠ b := fun b o e => Nat.ne_of_gt (Nat.lt_of_lt_of_le (Heap.lt_size e) hle)
  change wpAny _ _ _ _ _ { s with heap := h1.push (seqObj "list" ys.toArray 0), toks := tk, drawn := d }
  refine wpAny_bind (wpAny_holding (wpAny_call_entry slot_list_sort ⟨_, hoL, rfl⟩ entry_list_sort (list_sort_L (s := { s with heap := h1.push (seqObj "list" ys.toArray 0), toks := tk, drawn := d }) o hoL (by (first | lia | omega)) (fun h6 k6 h2 => hc ys h6 tk d hC (fun b o e => k6 b o (hbp b o e).symm (keep b o e)) h2) fun out hp hso => ⟨_, rfl, ?_⟩) (args_list_sort _)))
  generalize h1.push (seqObj "list" ys.toArray 0) = h5 at hoL keep
  obtain ⟨e1, ho1⟩ : ∃ e1, (h5.update h1.objs.size (Obj.mapSeq fun _ => #[])).get? h1.objs.size = some (seqObj "list" #[] e1) := ⟨_, get?_update_seq hoL (fun _ => #[])⟩
  have ho6 := Heap.get?_push_of_some (seqObj "list" #[] 0) (Heap.get?_push_of_some (seqObj "tuple" ys.toArray 0) ho1)
  have hol : out.size ≤ 90000 := by rw [← Array.length_toList, hp.length_eq]; exact hyl
  refine wpAny_pure ⟨_, rfl, q h1.objs.size ys out (sortedHeap h5 h1.objs.size ys out) tk d _ hC hp hso (fun b o e => ?_) (get?_update_seq ho6 (fun _ => out)) hle hol⟩
  unfold sortedHeap
  rw [Heap.get?_update_other _ _ (hbp b o e)]
  refine Heap.get?_push_of_some _ (Heap.get?_push_of_some _ ?_)
  rw [Heap.get?_update_other _ _ (hbp b o e)]
  exact keep b o e
end
section
variable {prog : Program} {w : World} {A : Around} {E : Value → Shared → Prop} {s : Shared} {T : String} {r d : Addr} {n : Nat} {P : Nat → Value → Prop} {OK : Heap → Prop}
/-- what is gone through, item by item -/
theorem collect_src {Q : List Value → Shared → Prop} (K : KdlSrc prog w T r d n P OK) (hh : A.handled = none) (hok : OK s.heap) (hn : n ≤ sizeLine)
    (q : ∀ (acc : Array Value) (h' : Heap) (tk : Nat), (∀ b o, s.heap.get? b = some o → h'.get? b = some o) → ItemsOf P acc n → s.heap.objs.size ≤ h'.objs.size → Q acc.toList { s with heap := h', toks := tk }) : wpAny (model prog w) A (collect (.ref r)) Q E s := by
  unfold collect
  refine wpAny_bind (wpAny_runValue (codeAny_builtin entry_proto_collect' ?_))
  change wpAny _ _ (do again (.builtin "list.__iadd__" ⟨[← newList [], .ref r], []⟩)) _ _ s
  refine wpAny_bind (wpAny_newList (wpAny_pure ⟨Code.quiet_builtin _ (by decide +kernel), codeAny_builtin entry_list_iadd' ?_⟩))
  change wpAny _ A.in1 (Builtin.List.listExtendWith (.ref s.heap.objs.size) (.ref r) (.ref s.heap.objs.size)) _ _ { s with heap := s.heap.push (seqObj "list" #[] 0) }
  have hlt := K.there _ hok
  refine kdl_extend (R := wants (fun v s' => wpAny (model prog w) A (match v with
          | Value.ref a => do
            let o ← load a
            match o.data with
            | .seq xs _ => pure xs.toList
            | _ => unsupported "internal:collect"
          | _ => unsupported "internal:collect") Q E s') E) (s := { s with heap := s.heap.push (seqObj "list" #[] 0) }) K hh (K.keep _ _ hok fun b _ o e => Heap.get?_push_of_some _ e) s.heap.objs.size (Nat.ne_of_gt hlt.1) (Nat.ne_of_gt hlt.2) _ 0 (Heap.get?_push_size _ rfl) (fun h' tk acc c kp hS hit => ?_) hn
  refine wpAny_bind (wpAny_load hS ?_)
  refine wpAny_pure ?_
  exact q acc h' tk (fun b o e => kp b o (Nat.ne_of_lt (Heap.lt_size e)) (Heap.get?_push_of_some _ e)) hit (Nat.le_of_lt (Heap.lt_size hS))
end
end Srd

/-! a list has no keys() -/
namespace Srd
open PySem PyProof.Rows
theorem lk_list_keys : typeLookup (.type "list") "keys" = pure none := by rw [typeLookup_type, builtinLookup_eq_fast]; kernel_rfl
theorem isSubtype_attr : isSubtype (.type "AttributeError") (.type "AttributeError") = pure true := by rw [isSubtype_type]; kernel_rfl
section
variable {prog : Program} {w : World} {A : Around} {E : Value → Shared → Prop} {h : Heap} {g : Array GenState} {d : Drawn} {t : Nat} {os : OsState} {a : Addr}
theorem raise_attr {α : Type} {Q : α → Shared → Prop} {o : Value} {name msg : Str} (hh : A.handled = none) (hm : msg.length ≤ sizeLine) (hq : ∀ (x : Addr) (h' : Heap) (tk : Nat), (∀ b u, h.get? b = some u → h'.get? b = some u) → (∃ ob, h'.get? x = some ob ∧ ob.cls = .type "AttributeError") → h.objs.size ≤ h'.objs.size → E (.ref x) ⟨h', g, d, tk, os⟩) :
    wpAny (model prog w) A (raiseAttrError o name msg : Sem α) Q E ⟨h, g, d, t, os⟩ := by
  unfold raiseAttrError
  repeat (any_goals (first | assumption | wp_step))
  refine wpAny_of_eq isSubtype_attr ?_
  rw [if_neg (by decide)]
  generalize hfa : (if ((Manifest.find? "AttributeError").elim false fun t => t.mro.contains "StopIteration" || t.mro.contains "SystemExit") = true then [Value.str msg t].headD Value.none else Value.none) = fa
  have k1 : ∀ b u, h.get? b = some u → (h.push { cls := Value.type "tuple", data := Data.seq #[Value.str msg t] }).get? b = some u := fun b u e => Heap.get?_push_of_some _ e
  have z1 : (h.push { cls := Value.type "tuple", data := Data.seq #[Value.str msg t] }).objs.size = h.objs.size + 1 := Heap.size_push ..
  generalize h.push { cls := Value.type "tuple", data := Data.seq #[Value.str msg t] } = h1 at k1 z1
  have e1 : (h1.push { cls := Value.type "AttributeError", data := Data.fields (#[Value.ref h.objs.size, Value.none, Value.none, Value.none, Value.bool false, fa] ++ ownMembersOf (Value.type "AttributeError") [Value.str msg t]) }).get? h1.objs.size = some { cls := Value.type "AttributeError", data := Data.fields (#[Value.ref h.objs.size, Value.none, Value.none, Value.none, Value.bool false, fa] ++ ownMembersOf (Value.type "AttributeError") [Value.str msg t]) } := Heap.get?_push_size _ rfl
  have k2 : ∀ b u, h.get? b = some u → (h1.push { cls := Value.type "AttributeError", data := Data.fields (#[Value.ref h.objs.size, Value.none, Value.none, Value.none, Value.bool false, fa] ++ ownMembersOf (Value.type "AttributeError") [Value.str msg t]) }).get? b = some u := fun b u e => Heap.get?_push_of_some _ (k1 b u e)
  have z2 : (h1.push { cls := Value.type "AttributeError", data := Data.fields (#[Value.ref h.objs.size, Value.none, Value.none, Value.none, Value.bool false, fa] ++ ownMembersOf (Value.type "AttributeError") [Value.str msg t]) }).objs.size = h1.objs.size + 1 := Heap.size_push ..
  generalize h1.push { cls := Value.type "AttributeError", data := Data.fields (#[Value.ref h.objs.size, Value.none, Value.none, Value.none, Value.bool false, fa] ++ ownMembersOf (Value.type "AttributeError") [Value.str msg t]) } = h2 at e1 k2 z2
  refine wpAny_bind (wpAny_load e1 ?_)
  dsimp only
  have v6 : (#[Value.ref h.objs.size, Value.none, Value.none, Value.none, Value.bool false, fa] ++ ownMembersOf (Value.type "AttributeError") [Value.str msg t])[6]? = some unsetMember := rfl
  have v7 : (#[Value.ref h.objs.size, Value.none, Value.none, Value.none, Value.bool false, fa] ++ ownMembersOf (Value.type "AttributeError") [Value.str msg t])[7]? = some unsetMember := rfl
  refine wpAny_ite_split (fun hab => absurd hab (by rw [v6, v7]; decide)) (fun _ => wpAny_ite_split (fun hab => absurd hab (by rw [v6, v7]; decide)) (fun _ => wpAny_pure ?_))
  rw [if_pos rfl]
  refine wpAny_bind (wpAny_rule (wpAny_bind (wpAny_typeOf (T := "AttributeError") ⟨_, e1, rfl⟩ ?_)))
  dsimp only
  unfold layMembers
  refine wpAny_bind (wpAny_load e1 ?_)
  dsimp only
  refine wpAny_update e1 ?_
  unfold raiseNew
  refine wpAny_bind (wpAny_handled ?_)
  rw [hh]
  refine wpAny_throw (hq _ _ _ (fun b u e => ?_) ?_ ?_)
  · rw [Heap.get?_update_other _ _ (show h1.objs.size ≠ b from fun z => ?_)]
    · exact k2 b u e
    · have := Heap.lt_size e
      have h3 : h1.objs.size < h.objs.size := z ▸ this
      (first | lia | omega)
  · exact ⟨_, Heap.get?_update_self _ e1 rfl, rfl⟩
  · rw [Heap.size_update]
    show h.objs.size ≤ h2.objs.size
    (first | lia | omega)
theorem miss_entry_list {tk : Tok} {Q : Fin → Shared → Prop} {its : Array Value} {n : Nat} {sl : Array (Option Value)} (hh : A.handled = none) (hx : h.get? a = some { cls := .type "list", dict := none, data := .seq its n, slots := sl }) (hq : ∀ (x : Addr) (h' : Heap) (tk : Nat), (∀ b u, h.get? b = some u → h'.get? b = some u) → (∃ ob, h'.get? x = some ob ∧ ob.cls = .type "AttributeError") → h.objs.size ≤ h'.objs.size → E (.ref x) ⟨h', g, d, tk, os⟩) :
    wpAny (model prog w) A (Builtin.«object.__getattribute__» ⟨[.ref a, .str "keys" tk], []⟩) Q E ⟨h, g, d, t, os⟩ := by
  have hT : (⟨h, g, d, t, os⟩ : Shared).TypeIs (.ref a) "list" := ⟨_, hx, rfl⟩
  have f4 := lk_list_keys
  repeat (any_goals (first | assumption | with_reducible apply raise_attr hh | wp_step))
  decide +kernel
theorem lk_list_getattr : typeLookup (.type "list") "__getattr__" = pure none := by rw [typeLookup_type, builtinLookup_eq_fast]; kernel_rfl
theorem miss_call_list {tk : Tok} {R : Result → Shared → Prop} {its : Array Value} {n : Nat} {sl : Array (Option Value)} (hh : A.handled = none) (hx : h.get? a = some { cls := .type "list", dict := none, data := .seq its n, slots := sl }) (hq : ∀ (x : Addr) (h' : Heap) (tk : Nat), (∀ b u, h.get? b = some u → h'.get? b = some u) → (∃ ob, h'.get? x = some ob ∧ ob.cls = .type "AttributeError") → h.objs.size ≤ h'.objs.size → R (.error (.ref x)) ⟨h', g, d, tk, os⟩) :
    codeAny (model prog w) A (.call (.builtin "list.__getattribute__") ⟨[.ref a, .str "keys" tk], []⟩) R ⟨h, g, d, t, os⟩ :=
  codeAny_call_builtin F.slot_list_getattribute.plain F.entry_list_ga (F.slot_list_getattribute.check _ _ _ _ _ _ _ _ (show (⟨h, g, d, t, os⟩ : Shared).TypeIs (.ref a) "list" from ⟨_, hx, rfl⟩) (F.args_list_getattribute_2 _ _) (miss_entry_list hh hx hq))
theorem miss_by_list {tk : Tok} {Q : Value → Shared → Prop} {its : Array Value} {n : Nat} {sl : Array (Option Value)} (hh : A.handled = none) (hx : h.get? a = some { cls := .type "list", dict := none, data := .seq its n, slots := sl }) (hq : ∀ (x : Addr) (h' : Heap) (tk : Nat), (∀ b u, h.get? b = some u → h'.get? b = some u) → (∃ ob, h'.get? x = some ob ∧ ob.cls = .type "AttributeError") → h.objs.size ≤ h'.objs.size → E (.ref x) ⟨h', g, d, tk, os⟩) :
    wpAny (model prog w) A (getAttrBy (.ref a) (.str "keys" tk) false) Q E ⟨h, g, d, t, os⟩ := by
  have hT : (⟨h, g, d, t, os⟩ : Shared).TypeIs (.ref a) "list" := ⟨_, hx, rfl⟩
  have f2 := F.slot_list_getattribute.lookup
  have f3 := F.slot_list_getattribute.bind (.ref a)
  have f4 := lk_list_getattr
  repeat (any_goals (first | assumption | wp_step))
  refine miss_call_list hh hx fun x h' tk' k1 k2 k3 => ?_
  obtain ⟨ob, e2, c2⟩ := k2
  dsimp only
  unfold getattributeRaised
  refine wpAny_bind (wpAny_isInstance (T := "AttributeError") (b := true) ⟨ob, e2, c2⟩ isSubtype_attr ?_)
  rw [if_pos rfl]
  unfold hookBehind
  rw [if_neg (by decide)]
  refine wpAny_bind (wpAny_of_eq f4 ?_)
  unfold hookOrError attributeErrorLeaves
  dsimp only
  rw [if_pos (by decide)]
  exact wpAny_bind (wpAny_throw (hq x h' tk' k1 ⟨ob, e2, c2⟩ k3))
theorem miss_attr_list {Q : Option Value → Shared → Prop} {its : Array Value} {n : Nat} {sl : Array (Option Value)} (hh : A.handled = none) (hx : h.get? a = some { cls := .type "list", dict := none, data := .seq its n, slots := sl }) (hq : ∀ (h' : Heap) (tk : Nat), (∀ b u, h.get? b = some u → h'.get? b = some u) → h.objs.size ≤ h'.objs.size → Q none ⟨h', g, d, tk, os⟩) :
    wpAny (model prog w) A (getAttr? (.ref a) "keys") Q E ⟨h, g, d, t, os⟩ := by
  unfold getAttr? getAttrBy?
  repeat (any_goals (first | assumption | with_reducible apply miss_by_list hh hx | wp_step))
  intro x h' tk' k1 k2 k3
  obtain ⟨ob, e2, c2⟩ := k2
  dsimp only
  refine wpAny_bind (wpAny_isInstance (T := "AttributeError") (b := true) ⟨ob, e2, c2⟩ isSubtype_attr ?_)
  rw [if_pos rfl]
  exact wpAny_pure (hq h' tk' k1 k3)
end
end Srd

/-! dict(list of pairs) -/
namespace Srd
open PySem PyProof.Rows
theorem entry_dict_update_loop : entryFor table "dict.update.loop" = some Builtin.«dict.update.loop» := entryFor_of_tree (by kernel_rfl)
theorem plain_dict_update_loop : plainId "dict.update.loop" = true := by decide +kernel
end Srd

/-! dict(list of pairs) and sorted(dict of ints), as rules -/
namespace L2
open PySem PySem.Spec PyProof.Rows PySem.W
end L2

/-! arguments without a star: what has no star, by its head alone -/
namespace L2
open PySem PySem.Spec PyProof.Rows
end L2
/-! expressions and arguments, shut: nothing is unfolded while a deep display is put together -/
namespace L2
open PySem PySem.Spec PyProof.Rows
end L2

/-! sets of tuples: every element stands on its own way of probes -/
namespace Stg
open PySem Sts
end Stg

namespace Stg
open PySem Sts
end Stg

namespace Stg
open PySem Sts
end Stg

/-! the order of tuples of an int, a text and two ints -/
namespace Srd
open PySem PyProof.Rows Srt PySem.W
/-- a strict total order -/
structure Sto {α : Type} (lt : α → α → Bool) : Prop where
  irr : ∀ a, lt a a = false
  trans : ∀ a b c, lt a b = true → lt b c = true → lt a c = true
  tri : ∀ a b, lt a b = false → lt b a = false → a = b
section
variable {α β : Type} {lt : α → α → Bool} {lt2 : β → β → Bool}
theorem Sto.asym (o : Sto lt) {a b : α} (h : lt a b = true) : lt b a = false := by
  cases e : lt b a with
  | false => rfl
  | true =>
    have := o.trans a b a h e
    rw [o.irr] at this
    cases this
theorem Sto.neg (o : Sto lt) {x y z : α} (h1 : lt x y = false) (h2 : lt y z = false) : lt x z = false := by
  cases e : lt x z with
  | false => rfl
  | true =>
    cases e2 : lt y x with
    | true => rw [o.trans y x z e2 e] at h2; cases h2
    | false =>
      have := o.tri x y h1 e2
      subst this
      rw [e] at h2
      cases h2
theorem Sto.swo (o : Sto lt) (f : Value → α) : Swo fun x y => lt (f x.1) (f y.1) := ⟨fun _ _ h => o.asym h, fun _ _ _ h1 h2 => o.neg h1 h2⟩
def lexB [DecidableEq α] (lt : α → α → Bool) (lt2 : β → β → Bool) (x y : α × β) : Bool := lt x.1 y.1 || (decide (x.1 = y.1) && lt2 x.2 y.2)
theorem Sto.lex [DecidableEq α] (o : Sto lt) (o2 : Sto lt2) : Sto (lexB lt lt2) where
  irr := fun a => by unfold lexB; rw [o.irr, o2.irr]; simp
  trans := fun a b c h1 h2 => by
    unfold lexB at *
    simp only [Bool.or_eq_true, Bool.and_eq_true, decide_eq_true_eq] at *
    rcases h1 with h1 | ⟨e1, h1⟩
    · rcases h2 with h2 | ⟨e2, h2⟩
      · exact .inl (o.trans _ _ _ h1 h2)
      · exact .inl (e2 ▸ h1)
    · rcases h2 with h2 | ⟨e2, h2⟩
      · exact .inl (e1.symm ▸ h2)
      · exact .inr ⟨e1.trans e2, o2.trans _ _ _ h1 h2⟩
  tri := fun a b h1 h2 => by
    unfold lexB at *
    simp only [Bool.or_eq_false_iff, Bool.and_eq_false_imp, decide_eq_true_eq] at *
    have e1 := o.tri _ _ h1.1 h2.1
    have e2 := o2.tri _ _ (h1.2 e1) (h2.2 e1.symm)
    exact Prod.ext e1 e2
theorem sto_int : Sto fun a b : Int => decide (a < b) := ⟨fun a => by simp, fun a b c h1 h2 => by simp only [decide_eq_true_eq] at *; (first | lia | omega), fun a b h1 h2 => by simp only [decide_eq_false_iff_not] at *; (first | lia | omega)⟩
theorem list_lt_tri : ∀ a b : List Nat, ¬ a < b → ¬ b < a → a = b
  | [], [], _, _ => rfl
  | [], b :: bs, h, _ => absurd (List.nil_lt_cons b bs) h
  | a :: as, [], _, h => absurd (List.nil_lt_cons a as) h
  | a :: as, b :: bs, h1, h2 => by
    rw [List.cons_lt_cons_iff] at h1 h2
    have e : a = b := by
      rcases Nat.lt_trichotomy a b with z | z | z
      · exact absurd (.inl z) h1
      · exact z
      · exact absurd (.inl z) h2
    subst e
    rw [list_lt_tri as bs (fun z => h1 (.inr ⟨rfl, z⟩)) (fun z => h2 (.inr ⟨rfl, z⟩))]
theorem list_lt_irr : ∀ a : List Nat, ¬ a < a
  | [], h => by cases h
  | a :: as, h => by
    rw [List.cons_lt_cons_iff] at h
    rcases h with h | ⟨_, h⟩
    · (first | lia | omega)
    · exact list_lt_irr as h
theorem list_lt_trans : ∀ a b c : List Nat, a < b → b < c → a < c
  | [], _, [], _, h2 => by cases h2
  | [], _, c :: cs, _, _ => List.nil_lt_cons c cs
  | a :: as, [], _, h1, _ => by cases h1
  | a :: as, b :: bs, [], _, h2 => by cases h2
  | a :: as, b :: bs, c :: cs, h1, h2 => by
    rw [List.cons_lt_cons_iff] at *
    rcases h1 with h1 | ⟨e1, h1⟩
    · rcases h2 with h2 | ⟨e2, h2⟩
      · exact .inl (by (first | lia | omega))
      · exact .inl (by (first | lia | omega))
    · rcases h2 with h2 | ⟨e2, h2⟩
      · exact .inl (by (first | lia | omega))
      · exact .inr ⟨by (first | lia | omega), list_lt_trans as bs cs h1 h2⟩
theorem str_ext {x y : Str} (h : x.cps.toList = y.cps.toList) : x = y := by
  cases x
  cases y
  congr 1
  exact Array.toList_inj.mp h
theorem sto_str : Sto fun a b : Str => decide (a.cps.toList < b.cps.toList) := ⟨fun a => decide_eq_false (list_lt_irr _), fun a b c h1 h2 => decide_eq_true (list_lt_trans _ _ _ (of_decide_eq_true h1) (of_decide_eq_true h2)), fun a b h1 h2 => str_ext (list_lt_tri _ _ (of_decide_eq_false h1) (of_decide_eq_false h2))⟩
end
end Srd

namespace Stg
open PySem PyProof.Rows PySem.W Sts
end Stg

/-! strong sets of numbers; set(list) for any kind of set -/
namespace Stg
open PySem PyProof.Rows Sts
end Stg

/-! sorted(set(l)) and sorted(l), with all that can be said -/
namespace Srd
end Srd
namespace L2
open PySem PySem.Spec PyProof.Rows PySem.W Srd Sts Stg
end L2

namespace L2
open PySem PySem.Spec PyProof.Rows PySem.W Srd Sts Stg
end L2

/-! for x, y in zip(xs, ys) -/
namespace L2
open PySem PySem.Spec PyProof.Rows
end L2

/-! sorted(l) of tuples (int, str, int, int) and of ints: the same items, rising -/
namespace L2
open PySem PySem.Spec PyProof.Rows PySem.W Srd
end L2

/-! range(a, b, 2) -/
namespace L2
open PySem PySem.Spec PyProof.Rows
end L2

namespace L2
open PySem PySem.Spec PyProof.Rows
end L2

/-! len(set(l)) of tuples (int, str, int, int): how many unlike ones -/
namespace L2
open PySem PySem.Spec PyProof.Rows PySem.W Srd Sts Stg
end L2

/-! sets of texts: sorted(set(l)) -/
namespace Stg
open PySem PyProof.Rows Sts
end Stg
namespace L2
open PySem PySem.Spec PyProof.Rows PySem.W Srd Sts Stg
end L2

/-! for x in reversed(l) -/
namespace L2
open PySem PySem.Spec PyProof.Rows
end L2

/-! forms in the heap, as lists of all that they hold; what their makers promise; kinds of groves -/
namespace Fg
open PySem L2 FgM
theorem pg_tupK {X : Cx} {K : PySem.W.Frag} {es : List Expr} {k : Nat} {t : TGs} {n : Nat} {pos : Pos} (hK : X.K = K) (hc : X.calm = true) (h : PGs X es t) (hn : (assignEach es X.env).length = n := by rfl) (hst : (assignEach es X.env).findIdx? (·.1) = none := by rfl) : PG X (.Tuple es k pos) (gTup K n t) := by
  subst hK
  exact pg_tup hc h hn hst
theorem bt_sorted : bootBuiltins "sorted" = some (.builtin "sorted") := by decide +kernel
theorem comp_tup {K : PySem.W.Frag} {a p : Addr} {xs : List V} {g : TG} {te : TE} {R : Hp → Prop} {σ0 : St} {H0 : Hp} (Pv : Nat → List V → St → Hp → Prop) (h0 : Pv 0 [] σ0 H0)
    (hl : ∀ i ys σ H, i ≤ xs.length → Pv i ys σ H → SqT K H a xs ∧ H p = some (.lst ys))
    (hs : ∀ i ys x σ H, i < xs.length → xs[i]? = some x → Pv i ys σ H → g x σ H fun σ3 H4 => te σ3 H4 fun v H5 => H5 p = some (.lst ys) ∧ ys.length < sizeLine ∧ ∃ m', m' < xs.length - i ∧ CW xs.length Pv (i + 1) m' (ys ++ [v]) σ3 (upd H5 p (.lst (ys ++ [v]))))
    (hd : ∀ ys σ H, Pv xs.length ys σ H → R H) :
    ∃ W : Nat → Nat → List V → St → Hp → Prop, (∃ m, W 0 m [] σ0 H0) ∧ ∀ i m ys σc H2, W i m ys σc H2 → H2 p = some (.lst ys) ∧ (((Itt K a).stop i H2 ∧ R H2) ∨ ((Itt K a).go i H2 ∧ ∀ x H3, (Itt K a).yld i H2 x H3 → g x σc H3 fun σ3 H4 => te σ3 H4 fun v H5 =>
      H5 p = some (.lst ys) ∧ ys.length < sizeLine ∧ ∃ m', m' < m ∧ W (i + 1) m' (ys ++ [v]) σ3 (upd H5 p (.lst (ys ++ [v]))))) := by
  refine ⟨CW xs.length Pv, ⟨_, rfl, Nat.zero_le _, h0⟩, ?_⟩
  rintro i m ys σ H ⟨rfl, hi, hp⟩
  obtain ⟨h1, h2⟩ := hl i ys σ H hi hp
  refine ⟨h2, ?_⟩
  by_cases hlt : i < xs.length
  · refine .inr ⟨⟨xs, xs[i], h1, List.getElem?_eq_getElem hlt⟩, ?_⟩
    rintro x H3 ⟨rfl, hx⟩
    exact hs i ys x σ _ hlt (hx xs h1) hp
  · refine .inl ⟨⟨xs, h1, by (first | lia | omega)⟩, hd ys σ H ?_⟩
    have e : i = xs.length := by (first | lia | omega)
    rw [← e]
    exact hp
theorem take_succ' {α : Type} {l : List α} {i : Nat} {x : α} (h : l[i]? = some x) : l.take (i + 1) = l.take i ++ [x] := by
  rw [List.take_add_one, h]
  rfl
theorem comp_range {lo : Int} {n : Nat} {p : Addr} {g : TG} {te : TE} {R : Hp → Prop} {σ0 : St} {H0 : Hp} (Pv : Nat → List V → St → Hp → Prop) (h0 : Pv 0 [] σ0 H0)
    (hl : ∀ i ys σ H, i ≤ n → Pv i ys σ H → H p = some (.lst ys))
    (hs : ∀ i ys σ H, i < n → Pv i ys σ H → g (.int (lo + i)) σ H fun σ3 H4 => te σ3 H4 fun v H5 => H5 p = some (.lst ys) ∧ ys.length < sizeLine ∧ ∃ m', m' < n - i ∧ CW n Pv (i + 1) m' (ys ++ [v]) σ3 (upd H5 p (.lst (ys ++ [v]))))
    (hd : ∀ ys σ H, Pv n ys σ H → R H) :
    ∃ W : Nat → Nat → List V → St → Hp → Prop, (∃ m, W 0 m [] σ0 H0) ∧ ∀ i m ys σc H2, W i m ys σc H2 → H2 p = some (.lst ys) ∧ (((Itr lo n).stop i H2 ∧ R H2) ∨ ((Itr lo n).go i H2 ∧ ∀ x H3, (Itr lo n).yld i H2 x H3 → g x σc H3 fun σ3 H4 => te σ3 H4 fun v H5 =>
      H5 p = some (.lst ys) ∧ ys.length < sizeLine ∧ ∃ m', m' < m ∧ W (i + 1) m' (ys ++ [v]) σ3 (upd H5 p (.lst (ys ++ [v]))))) := by
  refine ⟨CW n Pv, ⟨_, rfl, Nat.zero_le _, h0⟩, ?_⟩
  rintro i m ys σ H ⟨rfl, hi, hp⟩
  refine ⟨hl i ys σ H hi hp, ?_⟩
  by_cases hlt : i < n
  · refine .inr ⟨hlt, ?_⟩
    rintro x H3 ⟨rfl, rfl⟩
    exact hs i ys σ _ hlt hp
  · have e : i = n := by (first | lia | omega)
    subst e
    exact .inl ⟨Nat.le_refl _, hd ys σ H hp⟩
theorem ix_nat {n k : Nat} (h : k < n) : ixN n ((k : Nat) : Int) = some k := by
  unfold ixN
  rw [if_pos (by (first | lia | omega)), if_pos (by (first | lia | omega))]
  rfl
theorem modN (x : Int) {n : Nat} (h : 0 < n) : ∃ k : Nat, x % (n : Int) = (k : Int) ∧ k < n := by
  have h1 := Int.emod_nonneg x (by (first | lia | omega) : (n : Int) ≠ 0)
  have h2 := Int.emod_lt_of_pos x (by (first | lia | omega) : (0 : Int) < (n : Int))
  obtain ⟨k, hk⟩ := Int.eq_ofNat_of_zero_le h1
  exact ⟨k, hk, by (first | lia | omega)⟩
/-! forms with all that is known of them -/
end Fg

namespace Fg
open PySem L2 FgM
/-! kinds of groves by a form; words gone through from the last one -/
end Fg

namespace Fg
open PySem L2 FgM
/-! lists of kinds, one for each rest of a row -/
/-! what the makers of words and forms promise -/
end Fg

/-! rows again and again -/
namespace Fg
open PySem L2 FgM
end Fg

/-! d.setdefault(k, x); sorted(d, reverse=True) of a dict with whole numbers as keys -/
namespace L2
open PySem PySem.Spec PyProof.Rows
end L2

/-! places of tags and of their ends; dicts by whole numbers -/
namespace Fg
open PySem L2 FgM
end Fg

namespace L2
open PySem PySem.Spec PyProof.Rows
/-- a comprehension over a list, with a test -/
theorem comp_listT {K : PySem.W.Frag} {a p : Addr} {xs : List V} {g : TG} {tt : TT} {te : TE} {R : Hp → Prop} {σ0 : St} {H0 : Hp} (Pv : Nat → List V → St → Hp → Prop) (h0 : Pv 0 [] σ0 H0)
    (hl : ∀ i ys σ H, i ≤ xs.length → Pv i ys σ H → SqL K H a xs ∧ H p = some (.lst ys))
    (hs : ∀ i ys x σ H, i < xs.length → xs[i]? = some x → Pv i ys σ H → g x σ H fun σ3 H4 => tt σ3 H4 fun b H4' => if b = true then te σ3 H4' fun v H5 => H5 p = some (.lst ys) ∧ ys.length < sizeLine ∧ ∃ m', m' < xs.length - i ∧ CW xs.length Pv (i + 1) m' (ys ++ [v]) σ3 (upd H5 p (.lst (ys ++ [v])))
      else ∃ m', m' < xs.length - i ∧ CW xs.length Pv (i + 1) m' ys σ3 H4')
    (hd : ∀ ys σ H, Pv xs.length ys σ H → R H) :
    ∃ W : Nat → Nat → List V → St → Hp → Prop, (∃ m, W 0 m [] σ0 H0) ∧ ∀ i m ys σc H2, W i m ys σc H2 → H2 p = some (.lst ys) ∧ (((Itl K a).stop i H2 ∧ R H2) ∨ ((Itl K a).go i H2 ∧ ∀ x H3, (Itl K a).yld i H2 x H3 → g x σc H3 fun σ3 H4 => tt σ3 H4 fun b H4' => if b = true then te σ3 H4' fun v H5 =>
      H5 p = some (.lst ys) ∧ ys.length < sizeLine ∧ ∃ m', m' < m ∧ W (i + 1) m' (ys ++ [v]) σ3 (upd H5 p (.lst (ys ++ [v]))) else ∃ m', m' < m ∧ W (i + 1) m' ys σ3 H4')) := by
  refine ⟨CW xs.length Pv, ⟨_, rfl, Nat.zero_le _, h0⟩, ?_⟩
  rintro i m ys σ H ⟨rfl, hi, hp⟩
  obtain ⟨h1, h2⟩ := hl i ys σ H hi hp
  refine ⟨h2, ?_⟩
  by_cases hlt : i < xs.length
  · refine .inr ⟨⟨xs, xs[i], h1, List.getElem?_eq_getElem hlt⟩, ?_⟩
    rintro x H3 ⟨rfl, hx⟩
    exact hs i ys x σ _ hlt (hx xs h1) hp
  · have e : i = xs.length := by (first | lia | omega)
    subst e
    exact .inl ⟨⟨xs, h1, Nat.le_refl _⟩, hd ys σ H hp⟩
end L2

/-! len of a dict; the place of a number in a list -/
namespace L2
open PySem PySem.Spec PyProof.Rows PySem.W
end L2

/-! pairs of numbers in order; sorted of a dict whose keys are such pairs -/
namespace Srd
open PySem PyProof.Rows Srt PySem.W
end Srd
namespace L2
open PySem PySem.Spec PyProof.Rows PySem.W Srd
end L2

/-! list(d): the keys of a dict, in its order -/
namespace L2
open PySem PySem.Spec PyProof.Rows PySem.W Srd
end L2

/-! l.extend(d): the keys of a dict behind what l has -/
namespace L2
open PySem PySem.Spec PyProof.Rows PySem.W Srd
end L2

/-! for i, x in enumerate(tuple); min(list of ints) -/
namespace L2
open PySem PySem.Spec PyProof.Rows
end L2

/-! runs: the first rule at each tag -/
namespace Fg
open PySem L2 FgM
end Fg

/-! list.insert; a quad in a tuple of quads, and its place there -/
namespace L2
open PySem PySem.Spec PyProof.Rows Srd
end L2

/-! an own class called with arguments; isinstance of an own class -/
namespace L2
open PySem PySem.Spec PyProof.Rows
section
variable {X : Cx} {C : Addr} {m x : Str} {ps : List Str} {j k : Nat} {sp : Sp} {o e : Expr} {es : List Expr} {ta : TE} {t : TA} {p pos apos : Pos}
theorem pe_hasc (G : HasC X.prog X.w X.K X.mg X.base C x ps j sp) (hr : Room k X.A) (hg : Gl X x) (ha : PA X (e :: es) t) (hk : j + 1 ≤ k := by decide) (hdb : (x == ("__debug__" : Str)) = false := by decide)
    (he : starEach (e :: es) X.env = (false, eval e X.env) :: starEach es X.env := by rfl) (hpl : (backTo pos (starEach es X.env)).any (·.1) = false := by rfl) : PE X (.Call (.Name x p) (e :: es) [] pos) (tMake C sp [] E0 t) := by
  obtain ⟨f, fd, F, b, M, hm⟩ := G.ex
  exact pe_make M F (hr.mono hk) hg hm b .nil pass0 ha hdb he hpl
end
end L2

/-! sorted(set(l)) of a list of texts of any length, of which few are unlike -/
namespace Stg
open PySem PyProof.Rows Sts
end Stg
namespace L2
open PySem PySem.Spec PyProof.Rows PySem.W Srd Sts Stg
end L2
namespace L2
open PySem PySem.Spec PyProof.Rows
end L2
namespace L2
open PySem PySem.Spec PyProof.Rows
end L2

/-! the reader: its state, in the heap and as lists of pairs -/
namespace Fg
open PySem L2 FgM
/-! in the heap -/
def KeepX (ex : List Addr) (H H' : Hp) : Prop := ∀ b o, b ∉ ex → H b = some o → H' b = some o
/-! the promises of the reader's methods -/
end Fg

/-! what the laws of the reader build -/
namespace Fg
open PySem L2 FgM
end Fg
namespace L2
open PySem PySem.Spec PyProof.Rows
end L2
namespace L2
open PySem PySem.Spec PyProof.Rows
end L2
namespace Fg
open PySem L2 FgM
end Fg
namespace Fg
open PySem L2 FgM
/-- a cut within a block whose parts have names -/
theorem via {u t : TS} {D : Ends} {σ : St} {H : Hp} (R : St → Hp → Prop) (h2 : ∀ σ' H', R σ' H' → t D σ' H') (h1 : (∀ σ' H', R σ' H' → t D σ' H') → u D σ H) : u D σ H := h1 h2
theorem made {H H' : Hp} {x dx C : Addr} (hx : H x = none) (hdx : H dx = none) (kb : ∀ b o, b ≠ x → (upd (upd H dx (.own x)) x (.ins C dx [])) b = some o → H' b = some o) : Same H H' := fun b o e => kb b o (ne_of_none e hx) (by
  rw [upd_ne (ne_of_none e hx), upd_ne (ne_of_none e hdx)]
  exact e)
theorem making {H : Hp} {x dx C : Addr} (hx : H x = none) (hdx : H dx = none) (hne : dx ≠ x) : Same H (upd (upd H dx (.own x)) x (.ins C dx [])) := (Same.new hdx).trans (Same.new (by
  rw [upd_ne hne.symm]
  exact hx))
theorem making_free {H : Hp} {x dx C b : Addr} (h : (upd (upd H dx (.own x)) x (.ins C dx [])) b = none) : H b = none := by
  by_cases h1 : b = x
  · rw [h1, upd_same] at h
    cases h
  · rw [upd_ne h1] at h
    by_cases h2 : b = dx
    · rw [h2, upd_same] at h
      cases h
    · rw [upd_ne h2] at h
      exact h
end Fg
namespace Fg
open PySem L2 FgM
end Fg

/-! sorted(list of pairs), sorted(list of texts) -/
namespace L2
open PySem PySem.Spec PyProof.Rows PySem.W Srd Sts Stg
end L2
namespace Fg
open PySem L2 FgM
end Fg
namespace Fg
open PySem L2 FgM
end Fg
namespace L2
open PySem PySem.Spec PyProof.Rows
/-! a display of many written numbers -/
end L2
namespace L2
open PySem PySem.Spec PyProof.Rows
end L2
namespace Fg
open PySem L2 FgM
end Fg

/-! sorted(set(l)) of a list of pairs of numbers; a pair in a list of pairs -/
namespace L2
open PySem PySem.Spec PyProof.Rows PySem.W Srd Sts Stg
end L2

/-! sum(list of ints) -/
namespace L2
open PySem PySem.Spec PyProof.Rows
end L2

/-! min(list of ints, default=d) -/
namespace L2
open PySem PySem.Spec PyProof.Rows PySem.SeqAt
end L2

/-! a grove under way: rows and tags that are open; one tag opened, one shut -/
namespace Fg
open PySem L2 FgM
structure GvS (H H1 : Hp) (R T : Addr) (as : List Addr) (gs : List (Gr Str)) (ts : List Str) : Prop where
  sm : Same H H1
  hT : H1 T = some (.lst ((ts.map V.str).reverse))
  hR : H1 R = some (.lst ((as.map V.ref).reverse))
  rows : RowsR H1 as gs
  nd : (R :: T :: as).Nodup
  fr : ∀ b ∈ R :: T :: as, H b = none
  gl : gs.length = ts.length + 1
  cl : ∀ g ∈ gs, Clean SL g
  tn : ∀ t ∈ ts, t ≠ SL
section
variable {H H1 : Hp} {R T : Addr} {as : List Addr} {gs : List (Gr Str)} {ts : List Str}
theorem GvS.nR (h : GvS H H1 R T as gs ts) : ∀ b ∈ as, b ≠ R := fun b hb e => (List.nodup_cons.mp h.nd).1 (by rw [← e]; exact List.mem_cons_of_mem _ hb)
theorem GvS.nT (h : GvS H H1 R T as gs ts) : ∀ b ∈ as, b ≠ T := fun b hb e => (List.nodup_cons.mp (List.nodup_cons.mp h.nd).2).1 (by rw [← e]; exact hb)
theorem GvS.RT (h : GvS H H1 R T as gs ts) : R ≠ T := fun e => (List.nodup_cons.mp h.nd).1 (by rw [e]; exact List.mem_cons_self ..)
theorem GvS.start {a0 R T : Addr} (h0 : H a0 = none) (hR : (upd H a0 (.lst [])) R = none) (hT : (upd (upd H a0 (.lst [])) R (.lst [.ref a0])) T = none) : GvS H (upd (upd (upd H a0 (.lst [])) R (.lst [.ref a0])) T (.lst [])) R T [a0] [.nil] [] := by
  obtain ⟨nR0, hR'⟩ := upd_none hR
  obtain ⟨nTR, hT2⟩ := upd_none hT
  obtain ⟨nT0, hT'⟩ := upd_none hT2
  refine ⟨((Same.new h0).upd_new hR').upd_new hT', upd_same, ?_, .cons ⟨[], ?_, .nil⟩ .nil, ?_, ?_, rfl, ?_, fun _ h => (nomatch h)⟩
  · rw [upd_ne nTR.symm]
    exact upd_same
  · rw [upd_ne nT0.symm, upd_ne nR0.symm]
    exact upd_same
  · simp [nTR.symm, nR0, nT0]
  · intro b hb
    simp only [List.mem_cons, List.not_mem_nil, or_false] at hb
    rcases hb with rfl | rfl | rfl
    · exact hR'
    · exact hT'
    · exact h0
  · intro g hg
    obtain rfl := List.mem_singleton.mp hg
    trivial
theorem GvS.opened {wd : Str} {l : Addr} (h : GvS H H1 R T as gs ts) (hw : wd ≠ SL) (hl : (upd H1 T (.lst ((ts.map V.str).reverse ++ [.str wd]))) l = none) : GvS H (upd (upd (upd H1 T (.lst ((ts.map V.str).reverse ++ [.str wd]))) l (.lst [])) R (.lst ((as.map V.ref).reverse ++ [.ref l]))) R T (l :: as) (.nil :: gs) (wd :: ts) := by
  obtain ⟨nlT, hl1⟩ := upd_none hl
  have nlR : R ≠ l := ne_of_none h.hR hl1
  have hRT := h.RT
  have hRb : (upd (upd H1 T (.lst ((ts.map V.str).reverse ++ [.str wd]))) l (.lst [])) R = some (.lst (as.map V.ref).reverse) := by
    rw [upd_ne nlR, upd_ne hRT]
    exact h.hR
  have tk : TK H1 (upd (upd (upd H1 T (.lst ((ts.map V.str).reverse ++ [.str wd]))) l (.lst [])) R (.lst ((as.map V.ref).reverse ++ [.ref l]))) := ((TK.lst h.hT).trans (TK.new hl)).trans (TK.lst hRb)
  have nla : l ∉ as := fun hb => by
    obtain ⟨o, ho⟩ := rows_there h.rows l hb
    rw [hl1] at ho
    cases ho
  obtain ⟨ndR, ndT⟩ := List.nodup_cons.mp h.nd
  obtain ⟨ndT', ndA⟩ := List.nodup_cons.mp ndT
  refine ⟨((h.sm.upd_new (h.fr T (by simp))).upd_new (h.sm.free hl1)).upd_new (h.fr R (by simp)), ?_, ?_, .cons ⟨[], ?_, .nil⟩ (rows_mono tk h.rows fun b hb o ho => ?_), ?_, ?_, by rw [List.length_cons, List.length_cons, h.gl], ?_, ?_⟩
  · rw [upd_ne hRT.symm, upd_ne nlT.symm, upd_same, List.map_cons, List.reverse_cons]
  · rw [upd_same, List.map_cons, List.reverse_cons]
  · rw [upd_ne nlR.symm]
    exact upd_same
  · rw [upd_ne (h.nR b hb), upd_ne (ne_of_none ho hl1), upd_ne (h.nT b hb)]
    exact ho
  · refine List.nodup_cons.mpr ⟨fun h => ?_, List.nodup_cons.mpr ⟨fun h => ?_, List.nodup_cons.mpr ⟨nla, ndA⟩⟩⟩
    · rcases List.mem_cons.mp h with h | h
      · exact hRT h
      · rcases List.mem_cons.mp h with h | h
        · exact nlR h
        · exact ndR (List.mem_cons_of_mem _ h)
    · rcases List.mem_cons.mp h with h | h
      · exact nlT h.symm
      · exact ndT' h
  · intro b hb
    simp only [List.mem_cons] at hb
    rcases hb with rfl | rfl | rfl | hb
    · exact h.fr _ (by simp)
    · exact h.fr _ (by simp)
    · exact h.sm.free hl1
    · exact h.fr b (by simp [hb])
  · intro g hg
    rcases List.mem_cons.mp hg with rfl | hg
    · trivial
    · exact h.cl g hg
  · intro x hx
    rcases List.mem_cons.mp hx with rfl | hx
    · exact hw
    · exact h.tn x hx
end
section
variable {H H1 : Hp} {R T b0 b1 l l2 : Addr} {as : List Addr} {g0 g1 : Gr Str} {gs : List (Gr Str)} {t : Str} {ts : List Str} {vs0 vs1 : List V}
/-- what can be told ahead of a tag's end -/
theorem GvS.two {as0 : List Addr} {gs0 : List (Gr Str)} (h : GvS H H1 R T as0 gs0 (t :: ts)) : ∃ b0 b1 as g0 g1 gs vs0 vs1, as0 = b0 :: b1 :: as ∧ gs0 = g0 :: g1 :: gs ∧ gs.length = ts.length ∧ H1 b0 = some (.lst vs0) ∧ RepG H1 vs0 g0 ∧ H1 b1 = some (.lst vs1) ∧ RepG H1 vs1 g1 ∧
    H1 R = some (.lst (((b1 :: as).map V.ref).reverse ++ [.ref b0])) ∧ H1 T = some (.lst ((ts.map V.str).reverse ++ [.str t])) := by
  have hgl := h.gl
  have hR := h.hR
  have hT := h.hT
  have hrows := h.rows
  cases gs0 with
  | nil => simp at hgl
  | cons g0 gs =>
    cases gs with
    | nil => simp at hgl
    | cons g1 gs =>
      cases hrows with
      | @cons b0 _ as _ r0 hrows =>
        cases hrows with
        | @cons b1 _ as _ r1 hrows =>
          obtain ⟨vs0, h00, r00⟩ := r0
          obtain ⟨vs1, h11, r11⟩ := r1
          refine ⟨b0, b1, as, g0, g1, gs, vs0, vs1, rfl, rfl, by simpa using hgl, h00, r00, h11, r11, ?_, ?_⟩
          · rw [hR, List.map_cons, List.reverse_cons]
          · rw [hT, List.map_cons, List.reverse_cons]
theorem GvS.shut (h : GvS H H1 R T (b0 :: b1 :: as) (g0 :: g1 :: gs) (t :: ts)) (h00 : H1 b0 = some (.lst vs0)) (r00 : RepG H1 vs0 g0) (h11 : H1 b1 = some (.lst vs1)) (r11 : RepG H1 vs1 g1)
    (hl : (upd H1 R (.lst ((b1 :: as).map V.ref).reverse)) l = none) (hl2 : (upd (upd (upd H1 R (.lst ((b1 :: as).map V.ref).reverse)) l (.tup vs0)) T (.lst (ts.map V.str).reverse)) l2 = none) :
    GvS H (upd (upd (upd (upd (upd H1 R (.lst ((b1 :: as).map V.ref).reverse)) l (.tup vs0)) T (.lst (ts.map V.str).reverse)) l2 (.tup [.str t, .ref l])) b1 (.lst (vs1 ++ [.ref l2]))) R T (b1 :: as) (snoc g1 t g0 :: gs) ts := by
  have hRT := h.RT
  have m0 : b0 ∈ b0 :: b1 :: as := List.mem_cons_self ..
  have m1 : b1 ∈ b0 :: b1 :: as := List.mem_cons_of_mem _ (List.mem_cons_self ..)
  obtain ⟨ndR, ndT⟩ := List.nodup_cons.mp h.nd
  obtain ⟨ndT', ndA⟩ := List.nodup_cons.mp ndT
  obtain ⟨nlR, hl1⟩ := upd_none hl
  have hT1 := h.hT
  have hR1 := h.hR
  have nlT : l ≠ T := (ne_of_none hT1 hl1).symm
  have nl1 : b1 ≠ l := ne_of_none h11 hl1
  obtain ⟨n2T, hl2a⟩ := upd_none hl2
  obtain ⟨n2l, hl2b⟩ := upd_none hl2a
  obtain ⟨n2R, hl2c⟩ := upd_none hl2b
  have n21 : b1 ≠ l2 := ne_of_none h11 hl2c
  have h1b : (upd (upd H1 R (.lst ((b1 :: as).map V.ref).reverse)) l (.tup vs0)) b1 = some (.lst vs1) := by
    rw [upd_ne nl1, upd_ne (h.nR b1 m1)]
    exact h11
  have h1d : (upd (upd (upd (upd H1 R (.lst ((b1 :: as).map V.ref).reverse)) l (.tup vs0)) T (.lst (ts.map V.str).reverse)) l2 (.tup [.str t, .ref l])) b1 = some (.lst vs1) := by
    rw [upd_ne n21, upd_ne (h.nT b1 m1)]
    exact h1b
  have hTb : (upd (upd H1 R (.lst ((b1 :: as).map V.ref).reverse)) l (.tup vs0)) T = some (.lst (((t :: ts).map V.str).reverse)) := by
    rw [upd_ne nlT.symm, upd_ne hRT.symm]
    exact hT1
  have tk : TK H1 (upd (upd (upd (upd (upd H1 R (.lst ((b1 :: as).map V.ref).reverse)) l (.tup vs0)) T (.lst (ts.map V.str).reverse)) l2 (.tup [.str t, .ref l])) b1 (.lst (vs1 ++ [.ref l2]))) :=
    ((((TK.lst hR1).trans (TK.new hl)).trans (TK.lst hTb)).trans (TK.new hl2)).trans (TK.lst h1d)
  have ndA2 := (List.nodup_cons.mp ndA).2
  have n1as := (List.nodup_cons.mp ndA2).1
  have hrows : RowsR H1 as gs := by
    cases h.rows with
    | cons _ r =>
      cases r with
      | cons _ r => exact r
  refine ⟨((((h.sm.upd_new (h.fr R (by simp))).upd_new (h.sm.free hl1)).upd_new (h.fr T (by simp))).upd_new (h.sm.free hl2c)).upd_new (h.fr b1 (by simp)), ?_, ?_, .cons ⟨_, upd_same, RepG.snoc (q := l) (ys := vs0) ?_ ?_ (r00.mono tk) (r11.mono tk)⟩ (rows_mono tk hrows fun b hb o ho => ?_), ?_, ?_, ?_, ?_, ?_⟩
  · rw [upd_ne (h.nT b1 m1).symm, upd_ne n2T.symm, upd_same]
  · rw [upd_ne (h.nR b1 m1).symm, upd_ne n2R.symm, upd_ne hRT, upd_ne nlR.symm, upd_same]
  · rw [upd_ne n21.symm]
    exact upd_same
  · rw [upd_ne nl1.symm, upd_ne n2l.symm, upd_ne nlT]
    exact upd_same
  · have mb : b ∈ b0 :: b1 :: as := List.mem_cons_of_mem _ (List.mem_cons_of_mem _ hb)
    have nb1 : b ≠ b1 := fun e => n1as (by rw [← e]; exact hb)
    rw [upd_ne nb1, upd_ne (ne_of_none ho hl2c), upd_ne (h.nT b mb), upd_ne (ne_of_none ho hl1), upd_ne (h.nR b mb)]
    exact ho
  · refine List.nodup_cons.mpr ⟨fun h => ?_, List.nodup_cons.mpr ⟨fun h => ndT' (List.mem_cons_of_mem _ h), ndA2⟩⟩
    rcases List.mem_cons.mp h with h | h
    · exact hRT h
    · exact ndR (List.mem_cons_of_mem _ (List.mem_cons_of_mem _ h))
  · intro b hb
    refine h.fr b ?_
    simp only [List.mem_cons] at hb ⊢
    rcases hb with h | h | h | h
    · exact .inl h
    · exact .inr (.inl h)
    · exact .inr (.inr (.inr (.inl h)))
    · exact .inr (.inr (.inr (.inr h)))
  · have := h.gl
    simpa using this
  · intro g hg
    rcases List.mem_cons.mp hg with rfl | hg
    · exact clean_snoc (h.tn t (List.mem_cons_self ..)) (h.cl g0 (List.mem_cons_self ..)) (h.cl g1 (List.mem_cons_of_mem _ (List.mem_cons_self ..)))
    · exact h.cl g (List.mem_cons_of_mem _ (List.mem_cons_of_mem _ hg))
  · exact fun x hx => h.tn x (List.mem_cons_of_mem _ hx)
theorem GvS.f1 (h : GvS H H1 R T (b0 :: b1 :: as) (g0 :: g1 :: gs) (t :: ts)) (h00 : H1 b0 = some (.lst vs0)) : (upd H1 R (.lst ((b1 :: as).map V.ref).reverse)) b0 = some (.lst vs0) := by
  rw [upd_ne (h.nR b0 (List.mem_cons_self ..))]
  exact h00
theorem GvS.f2 (h : GvS H H1 R T (b0 :: b1 :: as) (g0 :: g1 :: gs) (t :: ts)) (h11 : H1 b1 = some (.lst vs1)) (hl : (upd H1 R (.lst ((b1 :: as).map V.ref).reverse)) l = none) :
    (upd (upd H1 R (.lst ((b1 :: as).map V.ref).reverse)) l (.tup vs0)) R = some (.lst ((as.map V.ref).reverse ++ [.ref b1])) ∧ (upd (upd H1 R (.lst ((b1 :: as).map V.ref).reverse)) l (.tup vs0)) b1 = some (.lst vs1) ∧
    (upd (upd H1 R (.lst ((b1 :: as).map V.ref).reverse)) l (.tup vs0)) T = some (.lst ((ts.map V.str).reverse ++ [.str t])) := by
  obtain ⟨nlR, hl1⟩ := upd_none hl
  have nlT : l ≠ T := (ne_of_none h.hT hl1).symm
  have nl1 : b1 ≠ l := ne_of_none h11 hl1
  refine ⟨?_, ?_, ?_⟩
  · rw [upd_ne nlR.symm, upd_same, List.map_cons, List.reverse_cons]
  · rw [upd_ne nl1, upd_ne (h.nR b1 (List.mem_cons_of_mem _ (List.mem_cons_self ..)))]
    exact h11
  · rw [upd_ne nlT.symm, upd_ne h.RT.symm, h.hT, List.map_cons, List.reverse_cons]
theorem GvS.f3 (h : GvS H H1 R T (b0 :: b1 :: as) (g0 :: g1 :: gs) (t :: ts)) (h11 : H1 b1 = some (.lst vs1)) (hl : (upd H1 R (.lst ((b1 :: as).map V.ref).reverse)) l = none) (hl2 : (upd (upd (upd H1 R (.lst ((b1 :: as).map V.ref).reverse)) l (.tup vs0)) T (.lst (ts.map V.str).reverse)) l2 = none) :
    (upd (upd (upd (upd H1 R (.lst ((b1 :: as).map V.ref).reverse)) l (.tup vs0)) T (.lst (ts.map V.str).reverse)) l2 (.tup [.str t, .ref l])) b1 = some (.lst vs1) := by
  obtain ⟨_, hl2a⟩ := upd_none hl2
  obtain ⟨_, hl2b⟩ := upd_none hl2a
  obtain ⟨_, hl2c⟩ := upd_none hl2b
  rw [upd_ne (ne_of_none h11 hl2c), upd_ne (h.nT b1 (List.mem_cons_of_mem _ (List.mem_cons_self ..)))]
  exact (h.f2 h11 hl).2.1
/-- the words so far, one tag shut -/
theorem flat_shut (hgs : gs.length = ts.length) : (flatR SL (snoc g1 t g0 :: gs) ts).length = (flatR SL (g0 :: g1 :: gs) (t :: ts)).length + 1 ∧ (∀ x ∈ flatR SL (snoc g1 t g0 :: gs) ts, x = SL ∨ x ∈ flatR SL (g0 :: g1 :: gs) (t :: ts)) ∧ (words SL g1).length ≤ (flatR SL (g0 :: g1 :: gs) (t :: ts)).length := by
  have e := flatR_close SL t (w := g0) (r := g1) hgs
  refine ⟨?_, fun x hx => ?_, ?_⟩
  · rw [e, List.length_append, List.length_singleton]
  · rw [e] at hx
    rcases List.mem_append.mp hx with hx | hx
    · exact .inr hx
    · exact .inl (List.mem_singleton.mp hx)
  · have h1 := flatR_ge SL (r := g1) hgs
    simp only [flatR, List.length_append]
    (first | lia | omega)
end
/-! how many tags, how deep, what is within each -/
def gsz : Gr Str → Nat
  | .nil => 0
  | .cons _ w o => 1 + gsz w + gsz o
def gdep : Gr Str → Nat
  | .nil => 0
  | .cons _ w o => max (gdep w + 1) (gdep o)
def kidsG : Gr Str → List (Gr Str)
  | .nil => []
  | .cons _ w o => w :: kidsG o
theorem gsz_words : ∀ g : Gr Str, (words SL g).length = 2 * gsz g
  | .nil => rfl
  | .cons t w o => by
    have h1 := gsz_words w
    have h2 := gsz_words o
    simp only [words, gsz, List.length_cons, List.length_append]
    (first | lia | omega)
theorem gdep_le : ∀ g : Gr Str, gdep g ≤ gsz g
  | .nil => Nat.le_refl _
  | .cons t w o => by
    have h1 := gdep_le w
    have h2 := gdep_le o
    simp only [gdep, gsz]
    (first | lia | omega)
theorem kid_dep : ∀ {g w : Gr Str}, w ∈ kidsG g → gdep w < gdep g
  | .cons t w' o, w, h => by
    simp only [gdep]
    rcases List.mem_cons.mp h with rfl | h
    · (first | lia | omega)
    · have := kid_dep h
      (first | lia | omega)
theorem kid_sz : ∀ {g w : Gr Str}, w ∈ kidsG g → gsz w < gsz g
  | .cons t w' o, w, h => by
    simp only [gsz]
    rcases List.mem_cons.mp h with rfl | h
    · (first | lia | omega)
    · have := kid_sz h
      (first | lia | omega)
end Fg

/-! where the tags of a grove end; what stands at each place; how far two groves are apart -/
namespace Fg
open PySem L2 FgM
end Fg

/-! a tuple times an int; max(list of ints) -/
namespace L2
open PySem PySem.Spec PyProof.Rows
section
variable {X : Cx}
theorem call_len_seqK {K : PySem.W.Frag} (hK : X.K = K) : CallR X (.builtin "len") (fun xs H Q => ∃ p ys, xs = [.ref p] ∧ (SqL K H p ys ∨ SqT K H p ys) ∧ Q (.int ys.length) H) := hK ▸ call_len_seq
end
end L2

/-! a table: a list of lists of ints, each row a list of its own -/
namespace Fg
open PySem L2 FgM
end Fg

/-! how far groves are apart: steps, and what they tell -/
namespace Fg
open PySem L2 FgM
end Fg

/-! groves changed tree by tree; == of groves -/
namespace Fg
open PySem L2 FgM
def takeG : Nat → Gr Str → Gr Str
  | 0, _ => .nil
  | _ + 1, .nil => .nil
  | i + 1, .cons t w o => .cons t w (takeG i o)
theorem RepG.tree {H : Hp} : ∀ {xs : List V} {g : Gr Str}, RepG H xs g → ∀ (i : Nat) z, xs[i]? = some z → ∃ p q t ys w, z = V.ref p ∧ H p = some (.tup [.str t, .ref q]) ∧ H q = some (.tup ys) ∧ RepG H ys w ∧ takeG (i + 1) g = FgM.gapp (takeG i g) (FgM.Gr.cons t w FgM.Gr.nil) ∧ w ∈ kidsG g
  | _, _, .cons h1 h2 h3 t, i, z, hz => by
    cases i with
    | zero =>
      injection hz with hz
      subst hz
      exact ⟨_, _, _, _, _, rfl, h1, h2, h3, rfl, List.mem_cons_self ..⟩
    | succ i =>
      obtain ⟨p, q, t', ys, w, e1, e2, e3, e4, e5, e6⟩ := RepG.tree t i z hz
      refine ⟨p, q, t', ys, w, e1, e2, e3, e4, ?_, List.mem_cons_of_mem _ e6⟩
      show Gr.cons _ _ (takeG (i + 1) _) = Gr.cons _ _ (FgM.gapp (takeG i _) _)
      rw [e5]
theorem RepG.take_all {H : Hp} : ∀ {xs : List V} {g : Gr Str}, RepG H xs g → takeG xs.length g = g
  | _, _, .nil => rfl
  | _, _, .cons _ _ _ t => by
    show Gr.cons _ _ (takeG _ _) = _
    rw [RepG.take_all t]
end Fg

/-! dict(list of pairs) whose keys are tuples -/
namespace Srd
open PySem PyProof.Rows
section
variable {prog : Program} {w : World} {A : Around} {E : Value → Shared → Prop} {R : Result → Shared → Prop}
abbrev TK3 := List L2.Key × Addr × Value
def mergedH (m : List TK3) (ps : List TK3) : List TK3 := ps.foldl (fun m p => storedH m p.1 p.2.1 p.2.2) m
theorem storedH_mem {m : List TK3} {k : List L2.Key} {a : Addr} {v : Value} {x : TK3} (h : x ∈ storedH m k a v) : (∃ y ∈ m, y.1 = x.1 ∧ y.2.1 = x.2.1) ∨ (x.1 = k ∧ x.2.1 = a) := by
  unfold storedH at h
  split at h
  · obtain ⟨y, hy, rfl⟩ := List.mem_map.mp h
    refine .inl ⟨y, hy, ?_⟩
    unfold putAt
    split <;> exact ⟨rfl, rfl⟩
  · rcases List.mem_append.mp h with h | h
    · exact .inl ⟨x, h, rfl, rfl⟩
    · rw [List.mem_singleton.mp h]
      exact .inr ⟨rfl, rfl⟩
theorem storedH_len (m : List TK3) (k : List L2.Key) (a : Addr) (v : Value) : (storedH m k a v).length ≤ m.length + 1 := by
  unfold storedH
  split
  · rw [List.length_map]; (first | lia | omega)
  · rw [List.length_append]; exact Nat.le_refl _
theorem mergedH_len : ∀ (ps m : List TK3), (mergedH m ps).length ≤ m.length + ps.length
  | [], m => Nat.le_refl _
  | p :: ps, m => by
    have h1 := mergedH_len ps (storedH m p.1 p.2.1 p.2.2)
    have h2 := storedH_len m p.1 p.2.1 p.2.2
    show (mergedH (storedH m p.1 p.2.1 p.2.2) ps).length ≤ _
    rw [List.length_cons]
    (first | lia | omega)
theorem mergedH_lt {D : Addr} : ∀ (ps m : List TK3), (∀ x ∈ m, x.2.1 < D) → (∀ x ∈ ps, x.2.1 < D) → ∀ x ∈ mergedH m ps, x.2.1 < D
  | [], m, h, _ => h
  | p :: ps, m, h, hp => mergedH_lt ps _ (fun x hx => by
      rcases storedH_mem hx with ⟨y, hy, _, e⟩ | ⟨_, e⟩
      · rw [← e]; exact h y hy
      · rw [e]; exact hp p (List.mem_cons_self ..)) fun x hx => hp x (List.mem_cons_of_mem _ hx)
theorem mergedH_succ (ps : List TK3) (i : Nat) (p : TK3) (h : ps[i]? = some p) : mergedH [] (ps.take (i + 1)) = storedH (mergedH [] (ps.take i)) p.1 p.2.1 p.2.2 := by
  unfold mergedH
  have e : ps.take (i + 1) = ps.take i ++ [p] := by
    obtain ⟨hi, e⟩ := List.getElem?_eq_some_iff.mp h
    rw [List.take_succ_eq_append_getElem hi, e]
  rw [e, List.foldl_append]
  rfl
abbrev tkn (prog : Program) (w : World) : HeapKind prog w (List L2.Key) := tupleKind (L2.mixKind prog w)
theorem key_keep {h h' : Heap} {k : List L2.Key} {a : Addr} (x : (tkn prog w).is h k a) (e : ∀ o, h.get? a = some o → h'.get? a = some o) : (tkn prog w).is h' k a := by
  obtain ⟨o, its, n, h1, h2⟩ := x
  exact ⟨o, its, n, e o h1, h2⟩
def PairH (prog : Program) (w : World) (h : Heap) (v : Value) (p : TK3) : Prop := ∃ b o n, v = .ref b ∧ h.get? b = some o ∧ o.cls = .type "tuple" ∧ o.data = .seq #[.ref p.2.1, p.2.2] n ∧ (tkn prog w).is h p.1 p.2.1
def PairsH (prog : Program) (w : World) (h0 : Heap) (d : Addr) (items : Array Value) (ps : List TK3) : Prop := items.size = ps.length ∧ (∀ p ∈ ps, p.2.1 < d) ∧ ∀ (i : Nat) v p, items[i]? = some v → ps[i]? = some p → ∀ h : Heap, (∀ b o, b < d → h0.get? b = some o → h.get? b = some o) → PairH prog w h v p
theorem pair_itemsH {s : Shared} {v : Value} {p : TK3} {Q : List Value → Shared → Prop} (hp : PairH prog w s.heap v p) (q : (tkn prog w).is s.heap p.1 p.2.1 → Q [.ref p.2.1, p.2.2] s) : wpAny (model prog w) A (Builtin.Dict.pairItems v) Q E s := by
  obtain ⟨b, o, n, rfl, ho, hc, hd, hk⟩ := hp
  unfold Builtin.Dict.pairItems
  refine wpAny_bind (wpAny_typeOf (T := "tuple") ⟨o, ho, hc⟩ ?_)
  rw [if_pos (by decide)]
  exact wpAny_bind (wpAny_seqItems ho hd (wpAny_pure (q hk)))
set_option maxHeartbeats 1000000 in
theorem dict_loopH {h0 : Heap} {D I l : Addr} {items : Array Value} {ps : List TK3} (hh : A.in1.handled = none) (hu : (tkn prog w).room A.in1) (ht : PairsH prog w h0 D items ps) (hDI : D < I) (hlI : l ≠ I) (hn : items.size ≤ 100000) : ∀ (k i : Nat) (j : Int) (jt : Tok) (s : Shared), items.size - i = k → i ≤ items.size → (s.heap.IsListIter I l i ∧ s.heap.IsList l items) → l < D → s.heap.DictOfH (tkn prog w) D (mergedH [] (ps.take i)) → (∀ b o, b < D → h0.get? b = some o → s.heap.get? b = some o) →
      (∀ h' tk, h'.DictOfH (tkn prog w) D (mergedH [] ps) → (∀ b o, b < D → h0.get? b = some o → h'.get? b = some o) → R (.ok (.ret .none)) { s with heap := h', toks := tk }) → codeAny (model prog w) A (.builtin "dict.update.loop" ⟨[.ref D, .ref I, .int j jt, .none], []⟩) R s := by
  have W := Walks.list (prog := prog) (w := w) (A := A.in1) hh I l hlI items
  have DK : ∀ {h h' : Heap} {i : Nat}, h.DictOfH (tkn prog w) D (mergedH [] (ps.take i)) → (∀ b o, b ≤ D → h.get? b = some o → h'.get? b = some o) → h'.DictOfH (tkn prog w) D (mergedH [] (ps.take i)) := fun {h h' i} ⟨o, es, ep, ho, h1, h2, h3, h4, h5⟩ hk => ⟨o, es, ep, hk D o (Nat.le_refl _) ho, h1, h2, h3, fun x hx => key_keep (h4 x hx) fun o e => hk _ o (Nat.le_of_lt (mergedH_lt _ [] (fun _ h => nomatch h) (fun y hy => ht.2.1 y (List.mem_of_mem_take hy)) x hx)) e, h5⟩
  intro k
  induction k with
  | zero =>
    intro i j jt s hk hi hst hlD hd hb hR
    obtain rfl : i = items.size := by (first | lia | omega)
    refine codeAny_builtin entry_dict_update_loop ?_
    rw [Around.under_plainId plain_dict_update_loop _]
    change wpAny _ A.in1 (pyNext (.ref I) >>= _) _ _ s
    refine wpAny_bind (W.done s _ _ hst fun h' tk hm => ?_)
    change wpAny _ A.in1 (Builtin.Dict.addKeywords D [] >>= fun _ => ret Value.none) _ _ _
    refine wpAny_bind ?_
    unfold Builtin.Dict.addKeywords
    refine wpAny_pure (wpAny_pure ?_)
    have hd' := DK hd fun b o hb' e => hm b o (fun z => Nat.lt_irrefl _ (Nat.lt_of_le_of_lt (List.mem_singleton.mp z ▸ hb') hDI)) e
    rw [ht.1, List.take_length] at hd'
    exact hR h' tk hd' fun b o hb' e => hm b o (fun z => Nat.lt_irrefl _ (Nat.lt_trans (List.mem_singleton.mp z ▸ hb') hDI)) (hb b o hb' e)
  | succ k ih =>
    intro i j jt s hk hi hst hlD hd hb hR
    have hlt : i < items.size := by (first | lia | omega)
    refine codeAny_builtin entry_dict_update_loop ?_
    rw [Around.under_plainId plain_dict_update_loop _]
    change wpAny _ A.in1 (pyNext (.ref I) >>= _) _ _ s
    refine wpAny_bind (W.item i s _ _ hlt hst fun v h' tk hP hst' hm => ?_)
    have hd' := DK hd fun b o hb' e => hm b o (fun z => Nat.lt_irrefl _ (Nat.lt_of_le_of_lt (List.mem_singleton.mp z ▸ hb') hDI)) e
    have hb1 : ∀ b o, b < D → h0.get? b = some o → h'.get? b = some o := fun b o hb' e => hm b o (fun z => Nat.lt_irrefl _ (Nat.lt_trans (List.mem_singleton.mp z ▸ hb') hDI)) (hb b o hb' e)
    have hpl : i < ps.length := by have := ht.1; (first | lia | omega)
    have hp := ht.2.2 i v ps[i] hP (List.getElem?_eq_getElem hpl) h' hb1
    refine wpAny_bind (wpAny_holding (wpAny_bind (wpAny_tryCatch (pair_itemsH (s := { s with heap := h', toks := tk }) hp fun huk => ?_))))
    dsimp only
    have hml : (mergedH [] (ps.take i)).length ≤ sizeLine := by
      have := mergedH_len (ps.take i) []
      rw [List.length_take] at this
      have h0l : ([] : List TK3).length = 0 := rfl
      have := ht.1
      rw [sizeLine_eq]
      (first | lia | omega)
    refine wpAny_holding (wpAny_dictSet_heap (s := { s with heap := h', toks := tk }) (hsz := hml) hu huk hd' fun h2 hd2 sb => ?_)
    have hk2 : ∀ b o, b ≠ D → h'.get? b = some o → h2.get? b = some o := fun b o hb e => (sb.2 b hb).trans e
    refine wpAny_pure ⟨plainId_quiet plain_dict_update_loop _, ih (i + 1) (j + 1) 0 _ (by (first | lia | omega)) hlt ?_ hlD ?_ (fun b o hb' e => hk2 b o (Nat.ne_of_lt hb') (hb1 b o hb' e)) fun h3 tk3 hw3 hb3 => hR h3 tk3 hw3 hb3⟩
    · refine W.frame _ h' h2 hst' fun b hb o e => hk2 b o (fun z => ?_) e
      simp only [List.mem_cons, List.not_mem_nil, or_false] at hb
      rcases hb with rfl | rfl
      · exact Nat.lt_irrefl _ (z ▸ hDI)
      · exact Nat.lt_irrefl _ (z ▸ hlD)
    · rw [mergedH_succ ps i ps[i] (List.getElem?_eq_getElem hpl)]
      exact hd2
set_option maxHeartbeats 1000000 in
theorem call_dict_pairsH {s : Shared} {l : Addr} {items : Array Value} {n : Nat} {sl : Array (Option Value)} {ps : List TK3} {Q : Value → Shared → Prop} (hh : A.handled = none) (hu : A.units + 2 < cLine) (hl : s.heap.get? l = some { cls := .type "list", dict := none, data := .seq items n, slots := sl }) (ht : PairsH prog w s.heap s.heap.objs.size items ps) (hn : items.size ≤ 100000)
    (q : ∀ (h' : Heap) (tk : Nat), h'.DictOfH (tkn prog w) s.heap.objs.size (mergedH [] ps) → (∀ b o, s.heap.get? b = some o → h'.get? b = some o) → Q (.ref s.heap.objs.size) { s with heap := h', toks := tk }) :
    wpAny (model prog w) A (call (.type "dict") [.ref l]) Q E s := by
  refine callType_codes (Q₁ := fun obj s₁ => obj = .ref s.heap.objs.size ∧ s₁ = { s with heap := s.heap.push { cls := .type "dict", data := .dict #[] } }) F.kt_called_dict (F.kt_typeCall_dict_1 _) F.entry_dict_init (kt_code_dict_new _ ⟨rfl, rfl⟩) ?_
  rintro obj s₁ ⟨rfl, rfl⟩
  have hnew : (s.heap.push { cls := .type "dict", data := .dict #[] }).DictOfH (tkn prog w) s.heap.objs.size [] := Heap.DictOfH.new s.heap
  have hl1 : (s.heap.push { cls := .type "dict", data := .dict #[] }).get? l = some { cls := .type "list", dict := none, data := .seq items n, slots := sl } := Heap.get?_push_of_some _ hl
  have hlD : l < s.heap.objs.size := Heap.lt_size hl
  have k0 : ∀ b o, b < s.heap.objs.size → s.heap.get? b = some o → (s.heap.push { cls := .type "dict", data := .dict #[] }).get? b = some o := fun b o _ e => Heap.get?_push_of_some _ e
  have z0 : (s.heap.push { cls := .type "dict", data := .dict #[] }).objs.size = s.heap.objs.size + 1 := Heap.size_push ..
  refine ⟨hnew.typeIs, F.args_dict_init_2 _ _, ?_⟩
  generalize s.heap.push { cls := .type "dict", data := .dict #[] } = h1 at hnew hl1 k0 z0
  unfold Builtin.«dict.__init__»
  refine wpAny_bind ?_
  unfold Builtin.Dict.selfAndRest
  refine wpAny_bind (wpAny_notOrdered_dict hnew.typeIs ?_)
  show wpAny _ _ (pure (s.heap.objs.size, [Value.ref l])) _ _ _
  refine wpAny_pure ?_
  show wpAny _ _ (Builtin.Dict.updateFrom "dict.__init__" s.heap.objs.size (.ref l) [] .none) _ _ _
  unfold Builtin.Dict.updateFrom
  refine wpAny_bind (wpAny_typeOf (T := "list") ⟨_, hl1, rfl⟩ ?_)
  rw [if_pos (by decide)]
  refine wpAny_bind (miss_attr_list hh hl1 fun h2 tk2 k2 z2 => ?_)
  rw [if_pos (show (none : Option Value).isNone = true from rfl)]
  refine wpAny_bind (wpAny_rule ?_)
  have hl2 := k2 _ _ hl1
  have hL2 : h2.IsList l items := ⟨_, hl2, rfl, n, rfl⟩
  refine wpAny_bind (wpAny_pyIter_list hL2 ?_)
  have hd3 : (h2.push { cls := .type "list_iterator", data := .fields #[.ref l, .int 0 0] }).DictOfH (tkn prog w) s.heap.objs.size [] := by
    obtain ⟨o, es, ep, ho, h1, h2, h3, h4, h5⟩ := hnew
    exact ⟨o, es, ep, Heap.get?_push_of_some _ (k2 _ _ ho), h1, h2, h3, fun x hx => (nomatch hx), h5⟩
  have hsz : s.heap.objs.size < h2.objs.size := by (first | lia | omega)
  refine wpAny_pure ⟨plainId_quiet plain_dict_update_loop _, ?_⟩
  refine dict_loopH (h0 := s.heap) (by simpa using hh) ?_ ht hsz (Nat.ne_of_lt (Nat.lt_trans hlD hsz)) hn (items.size - 0) 0 0 0 _ rfl (Nat.zero_le _) ⟨⟨_, Heap.get?_push_size _ rfl, rfl, rfl⟩, hL2.push _⟩ hlD hd3 (fun b o hb e => Heap.get?_push_of_some _ (k2 _ _ (k0 b o hb e))) fun h' tk hd' hb' => ?_
  · exact tupleKind_room_in1 (by show _ < cLine; simp; (first | lia | omega))
  exact ⟨rfl, q h' tk hd' fun b o e => hb' b o (Heap.lt_size e) e⟩
end
end Srd
namespace L2
open PySem PySem.Spec PyProof.Rows PySem.W Srd
def putAllT (kvs : List (List Key × V)) : List (List Key × V) := kvs.foldl (fun m kv => putK m kv.1 kv.2) []
theorem putAllT_len_from : ∀ (kvs m : List (List Key × V)), (kvs.foldl (fun m kv => putK m kv.1 kv.2) m).length ≤ m.length + kvs.length
  | [], m => Nat.le_refl _
  | kv :: kvs, m => by
    have h1 := putAllT_len_from kvs (putK m kv.1 kv.2)
    have h2 := length_putK m kv.1 kv.2
    rw [List.length_cons, List.foldl_cons]
    (first | lia | omega)
theorem kt_all {H : Hp} : ∀ {kvs : List (List Key × V)} {ps : List TK3} {m : List (List Key × V)} {m' : List TK3}, KT H kvs ps → KT H m m' → KT H (kvs.foldl (fun m kv => putK m kv.1 kv.2) m) (mergedH m' ps)
  | _, _, _, _, .nil, h => h
  | _, _, m, m', .cons (a := kv) (b := p) r t, h => by
    have e : p.1 = kv.1 := r.1.symm
    have h1 := h.put kv.1 r.2.1 r.2.2
    have h2 := kt_all t h1
    show KT H (List.foldl _ (putK m kv.1 kv.2) _) (mergedH (storedH m' p.1 p.2.1 p.2.2) _)
    rw [e]
    exact h2
section
variable {X : Cx}
theorem call_dict_listT (hc : X.calm = true) (hu : X.A.units + 2 < cLine) : CallR X (.type "dict") (fun xs H Q => ∃ l ys kvs, xs = [.ref l] ∧ SqL X.K H l ys ∧ ys.length ≤ 90000 ∧ Paired (fun (y : V) (kv : List Key × V) => ∃ t b, y = .ref t ∧ H t = some (.tup [.ref b, kv.2]) ∧ H b = some (.tup (kv.1.map kV))) ys kvs ∧ ∀ d, H d = none → Q (.ref d) (upd H d (.dT (putAllT kvs)))) := by
  intro pins s σ H xs us Q I r h
  obtain ⟨l, ys, kvs, rfl, hq, hlen, hp, q⟩ := h
  obtain ⟨u, rfl, ru⟩ := vals1 r
  cases ru
  obtain ⟨its, rv, ⟨o, n, ho, ocl, odi, oda⟩, hz⟩ := I.list hq
  have hl := rv.length
  obtain ⟨ocls, odict, odata, oslots⟩ := o
  simp only at ocl odi oda
  subst ocl odi oda
  have key : ∀ {ys : List V} {kvs : List (List Key × V)} {its : List Value}, Paired (fun (y : V) (kv : List Key × V) => ∃ t b, y = .ref t ∧ H t = some (.tup [.ref b, kv.2]) ∧ H b = some (.tup (kv.1.map kV))) ys kvs → Vals ys its → ∃ ps : List TK3, KT H kvs ps ∧ its.length = ps.length ∧ (∀ p ∈ ps, p.2.1 < s.heap.objs.size) ∧ ∀ (i : Nat) v p, its[i]? = some v → ps[i]? = some p → PairH X.prog X.w s.heap v p := by
    intro ys kvs its hp
    induction hp generalizing its with
    | nil =>
      intro rv
      cases rv
      exact ⟨[], .nil, rfl, fun _ h => (nomatch h), fun i v p h => (nomatch h)⟩
    | @cons y kv ys kvs r t ih =>
      intro rv
      cases rv with
      | @cons _ v _ its ry rr =>
        obtain ⟨ps, h1, h2, h4, h3⟩ := ih rr
        obtain ⟨ta, tb, rfl, ht, hb⟩ := r
        obtain rfl : v = Value.ref ta := ry
        obtain ⟨_, us, rus, o, ho, hc', n, hd⟩ := I.hok ta _ ht
        obtain ⟨u1, u2, rfl, r1, r2⟩ := Vals.two rus
        obtain rfl : u1 = Value.ref tb := r1
        have hk := key_of I.hok hb
        refine ⟨(kv.1, tb, u2) :: ps, .cons ⟨rfl, hb, r2⟩ h1, by rw [List.length_cons, List.length_cons, h2], fun p hp => ?_, fun i v p e1 e2 => ?_⟩
        · rcases List.mem_cons.mp hp with rfl | hp
          · obtain ⟨o, its, n, h5, _⟩ := hk
            exact Heap.lt_size h5
          · exact h4 p hp
        · cases i with
          | zero =>
            injection e1 with e1
            injection e2 with e2
            subst e1 e2
            exact ⟨ta, o, n, rfl, ho, hc', hd, hk⟩
          | succ i => exact h3 i v p e1 e2
  obtain ⟨ps, h1, h2, h4, h3⟩ := key hp rv
  refine Srd.call_dict_pairsH (ps := ps) (I.ok.hd hc) hu ho ⟨by rw [List.size_toArray]; exact h2, h4, fun i v p e1 e2 h' hk => ?_⟩ (by rw [List.size_toArray]; (first | lia | omega)) fun h' tk hd' hk => ?_
  · obtain ⟨b, o, n, e, ho2, h5, h6, h7⟩ := h3 i v p (by rw [← e1]; simp) e2
    exact ⟨b, o, n, e, hk b o (Heap.lt_size ho2) ho2, h5, h6, key_keep h7 fun o e => hk _ o (Heap.lt_size e) e⟩
  · have hkl : kvs.length = ps.length := h1.length
    have hpl : (putAllT kvs).length ≤ kvs.length := by
      have := putAllT_len_from kvs []
      rw [List.length_nil, Nat.zero_add] at this
      exact this
    obtain ⟨o, es, ep, g1, g2, g3, g4, g5, g6⟩ := hd'
    have hf : H s.heap.objs.size = none := I.hok.fresh (Nat.le_refl _)
    exact ⟨.ref _, _, I.laid (t' := tk) (fun b o e => hk b o e) (Nat.le_refl _) (show ObjOk X.prog X.w _ h' _ (.dT (putAllT kvs)) from ⟨by rw [sizeLine_eq]; (first | lia | omega), beq_eq_false_iff_ne.mpr (Ne.symm (Nat.ne_of_lt I.big)), _, (kt_all h1 .nil).keeps fun b ys e => by rw [upd_ne (ne_of_none e hf)]; exact e, o, es, ep, g1, g2, g3, g4, g6⟩), rfl, q _ hf⟩
end
end L2

/-! pairs of a number and a text in order; sorted of a dict whose keys are such pairs -/
namespace Srd
open PySem PyProof.Rows Srt PySem.W
abbrev Ps := Int × Str
def psLt : Ps → Ps → Bool := lexB (fun a b : Int => decide (a < b)) fun a b : Str => decide (a.cps.toList < b.cps.toList)
theorem psLt_sto : Sto psLt := sto_int.lex sto_str
/-- such a tuple, as a value -/
def IsPs (h : Heap) (v : Value) (q : Ps) : Prop := ∃ a o t u n, v = .ref a ∧ h.get? a = some o ∧ o.cls = .type "tuple" ∧ o.data = .seq #[.int q.1 t, .str q.2 u] n
theorem IsPs.inj {h : Heap} {v : Value} {q q' : Ps} (x : IsPs h v q) (y : IsPs h v q') : q = q' := by
  obtain ⟨a, o, t, u, n, rfl, h1, _, h3⟩ := x
  obtain ⟨a', o', t', u', n', e, h1', _, h3'⟩ := y
  cases e
  rw [h1] at h1'
  cases h1'
  rw [h3] at h3'
  obtain ⟨q1, q2⟩ := q
  obtain ⟨r1, r2⟩ := q'
  simp only [Data.seq.injEq, Array.mk.injEq, List.cons.injEq, Value.int.injEq, Value.str.injEq, and_true] at h3'
  obtain ⟨⟨⟨e1, _⟩, ⟨e2, _⟩⟩, _⟩ := h3'
  rw [e1, e2]
theorem IsPs.keep {h h' : Heap} {v : Value} {q : Ps} (x : IsPs h v q) (k : ∀ b o, h.get? b = some o → h'.get? b = some o) : IsPs h' v q := by
  obtain ⟨a, o, t, u, n, rfl, h1, r⟩ := x
  exact ⟨a, o, t, u, n, rfl, k _ _ h1, r⟩
open Classical in
noncomputable def kps (h : Heap) (v : Value) : Ps := if x : ∃ q, IsPs h v q then x.choose else (0, Str.empty)
theorem kps_of {h : Heap} {v : Value} {q : Ps} (x : IsPs h v q) : kps h v = q := by
  unfold kps
  rw [dif_pos ⟨q, x⟩]
  exact (Exists.choose_spec (⟨q, x⟩ : ∃ q, IsPs h v q)).inj x
section
variable {prog : Program} {w : World} {A : Around} {s : Shared}
theorem pss_tups {h : Heap} : ∀ {vs : List Value}, (∀ v ∈ vs, ∃ q, IsPs h v q) → ∃ fs, KatTups h vs fs ∧ fs.length = vs.length ∧ ∀ f ∈ fs, ∃ i t, f = .int i t
  | [], _ => ⟨[], trivial, rfl, fun _ h => nomatch h⟩
  | v :: vs, hv => by
    obtain ⟨q, a, o, t, u, n, rfl, ho, hc, hd⟩ := hv v (List.mem_cons_self ..)
    obtain ⟨fs, kt, hl, hf⟩ := pss_tups (vs := vs) fun x hx => hv x (List.mem_cons_of_mem _ hx)
    refine ⟨.int q.1 t :: fs, KatTups.cons ho hc hd rfl kt, by simp [hl], fun f hm => ?_⟩
    rcases List.mem_cons.mp hm with rfl | hm
    · exact ⟨_, t, rfl⟩
    · exact hf f hm
theorem pss_sortableL {h0 : Heap} {vs : List Value} (hv : ∀ v ∈ vs, ∃ q, IsPs h0 v q) (k0 : ∀ b o, h0.get? b = some o → s.heap.get? b = some o) (h2 : 2 ≤ vs.length) : SortableL prog w A (fun u v => psLt (kps h0 u) (kps h0 v)) vs s := by
  have hv' : ∀ v ∈ vs, ∃ q, IsPs s.heap v q := fun v hm => let ⟨q, x⟩ := hv v hm; ⟨q, x.keep k0⟩
  obtain ⟨fs, k, hl, hf⟩ := pss_tups hv'
  refine ⟨tuples' true, fun Q E hq => ?_, ?_⟩
  · refine kat_kind (T := .type "int") k (by (first | lia | omega)) (fun v hm => ?_) rfl hq
    obtain ⟨i, t, rfl⟩ := hf v hm
    exact Looks.of_pure rfl
  · intro x y hx hy E
    rw [pairsOf_toList] at hx hy
    obtain ⟨q, xq⟩ := hv _ (mem_zip_self hx).2
    obtain ⟨q', yq⟩ := hv _ (mem_zip_self hy).2
    have e1 : (fun x y : Keyed => psLt (kps h0 x.1) (kps h0 y.1)) x y = psLt q q' := by
      show psLt (kps h0 x.1) (kps h0 y.1) = _
      have hx1 := (mem_zip_self hx)
      have hy1 := (mem_zip_self hy)
      rw [kps_of xq, kps_of yq]
    rw [e1]
    obtain ⟨a, o, t, u, n, e, ho, hc, hd⟩ := xq.keep k0
    obtain ⟨a', o', t', u', n', e', ho', hc', hd'⟩ := yq.keep k0
    rw [e, e']
    obtain ⟨q1, q2⟩ := q
    obtain ⟨r1, r2⟩ := q'
    refine kat_lt ho hd ho' hd' ?_
    have unf : psLt (q1, q2) (r1, r2) = (decide (q1 < r1) || (decide (q1 = r1) && decide (q2.cps.toList < r2.cps.toList))) := rfl
    rw [unf]
    refine kat_cons (wpAny_eqBool_int (kat_go (fun c1 => kat_yes ?_) (fun c1 => kat_no ?_)))
    · have c1' : q1 = r1 := eq_of_beq c1
      refine kat_cons (wpAny_eqBool_str (kat_go (fun c4 => kat_yes (kat_nil ⟨rfl, ?_⟩)) (fun c4 => kat_no ?_)))
      · have c4' : q2 = r2 := eq_of_beq c4
        subst c1' c4'
        simp [list_lt_irr]
      · refine kat_one _ _ (PyProof.Rows.lt_str ⟨rfl, ?_⟩)
        subst c1'
        simp
    · refine oneLt_int ⟨rfl, ?_⟩
      have c1' : ¬ q1 = r1 := fun z => by rw [z] at c1; simp at c1
      simp [c1']
end
end Srd
namespace L2
open PySem PySem.Spec PyProof.Rows PySem.W Srd
def tps (q : Ps) : HO := .tup [.int q.1, .str q.2]
def psK (q : Ps) : List Key := [Sum.inl q.1, Sum.inr q.2]
/-- pairs in the heap, one behind another -/
def PsL (H : Hp) (zs : List V) (qs : List Ps) : Prop := Paired (fun z q => ∃ p, z = V.ref p ∧ H p = some (tps q)) zs qs
theorem PsL.mem {H : Hp} : ∀ {zs : List V} {qs : List Ps}, PsL H zs qs → ∀ z ∈ zs, ∃ p, ∃ q ∈ qs, z = V.ref p ∧ H p = some (tps q)
  | _, _, .cons ⟨p, e1, e2⟩ t, z, hz => by
    rcases List.mem_cons.mp hz with rfl | hz
    · exact ⟨p, _, List.mem_cons_self .., e1, e2⟩
    · obtain ⟨p, q, hq, r⟩ := PsL.mem t z hz
      exact ⟨p, q, List.mem_cons_of_mem _ hq, r⟩
theorem PsL.length {H : Hp} : ∀ {zs : List V} {qs : List Ps}, PsL H zs qs → zs.length = qs.length
  | _, _, .nil => rfl
  | _, _, .cons _ t => by rw [List.length_cons, List.length_cons, PsL.length t]
theorem PsL.get {H : Hp} : ∀ {zs : List V} {qs : List Ps}, PsL H zs qs → ∀ (i : Nat) z, zs[i]? = some z → ∃ p q, qs[i]? = some q ∧ z = V.ref p ∧ H p = some (tps q)
  | _, _, .cons ⟨p, e1, e2⟩ t, i, z, hz => by
    cases i with
    | zero =>
      injection hz with hz
      subst hz
      exact ⟨p, _, rfl, e1, e2⟩
    | succ i => exact PsL.get t i z hz
theorem PsL.keep {H H' : Hp} : ∀ {zs : List V} {qs : List Ps}, PsL H zs qs → (∀ b xs, H b = some (.tup xs) → H' b = some (.tup xs)) → PsL H' zs qs
  | _, _, .nil, _ => .nil
  | _, _, .cons ⟨p, e1, e2⟩ t, k => .cons ⟨p, e1, k _ _ e2⟩ (PsL.keep t k)
theorem isPs_of {P : Program} {w : World} {H : Hp} {h : Heap} {t : Addr} {q : Ps} (ok : HOk P w H h) (e : H t = some (tps q)) : IsPs h (.ref t) q := by
  obtain ⟨_, us, rus, o, ho, hc', n, hd⟩ := ok t _ e
  obtain ⟨u1, us, rfl, r1, rus⟩ := Vals.inv rus
  obtain ⟨u2, us, rfl, r2, rus⟩ := Vals.inv rus
  obtain rfl := Vals.end_ rus
  obtain ⟨t1, rfl⟩ := r1
  obtain ⟨t2, rfl⟩ := r2
  exact ⟨t, o, t1, t2, n, rfl, ho, hc', hd⟩
theorem psl_sub {P : Program} {w : World} {H : Hp} {h0 : Heap} (ok : HOk P w H h0) {ys : List V} {its : List Value} {qs : List Ps} (rv : Vals ys its) (ql : PsL H ys qs) : ∀ us : List Value, (∀ u ∈ us, u ∈ its) → ∃ zs, Vals zs us ∧ PsL H zs (us.map (kps h0))
  | [], _ => ⟨[], .nil, .nil⟩
  | u :: us, h => by
    obtain ⟨y, hy, ry⟩ := vals_mem rv u (h u (List.mem_cons_self ..))
    obtain ⟨zs, rz, hz⟩ := psl_sub ok rv ql us fun x hx => h x (List.mem_cons_of_mem _ hx)
    obtain ⟨t, q, _, rfl, e2⟩ := ql.mem y hy
    have hu : u = Value.ref t := ry
    subst hu
    exact ⟨_, .cons ry rz, .cons ⟨t, rfl, by rw [kps_of (isPs_of ok e2)]; exact e2⟩ hz⟩
theorem kps_all {P : Program} {w : World} {H : Hp} {h0 : Heap} (ok : HOk P w H h0) : ∀ {ys : List V} {its : List Value} {qs : List Ps}, Vals ys its → PsL H ys qs → its.map (kps h0) = qs
  | _, _, _, .nil, .nil => rfl
  | _, _, _, .cons (b := u) r rr, .cons ⟨p, e1, e2⟩ t => by
    subst e1
    have hu : u = Value.ref p := r
    subst hu
    rw [List.map_cons, kps_all ok rr t, kps_of (isPs_of ok e2)]
/-- the keys of such a dict, in its object -/
theorem keys_psl {H : Hp} {kvs : List (List Key × V)} {xs : List (List Key × Addr × Value)} (h : Paired (fun (p : List Key × V) (q : List Key × Addr × Value) => p.1 = q.1 ∧ H q.2.1 = some (.tup (p.1.map kV)) ∧ RelV p.2 q.2.2) kvs xs) : ∀ {ps : List Ps}, kvs.map (·.1) = ps.map psK → ∃ ys, Vals ys (xs.map fun x => Value.ref x.2.1) ∧ PsL H ys ps := by
  induction h with
  | nil =>
    intro ps e
    cases ps with
    | nil => exact ⟨[], .nil, .nil⟩
    | cons n ns => cases e
  | @cons p q l m r t ih =>
    intro ps e
    cases ps with
    | nil => cases e
    | cons n ns =>
      rw [List.map_cons, List.map_cons] at e
      obtain ⟨e1, e2⟩ := List.cons.inj e
      obtain ⟨ys, h1, h2⟩ := ih e2
      refine ⟨.ref q.2.1 :: ys, .cons rfl h1, .cons ⟨q.2.1, rfl, ?_⟩ h2⟩
      have h3 := r.2.1
      rw [e1] at h3
      exact h3
section
variable {X : Cx}
theorem call_sorted_dPs (hc : X.calm = true) : CallR X (.builtin "sorted") (fun xs H Q => ∃ (d : Addr) (kvs : List (List Key × V)) (ps : List Ps), xs = [.ref d] ∧ H d = some (.dT kvs) ∧ kvs.length ≤ 90000 ∧ kvs.map (·.1) = ps.map psK ∧ ∀ (r : Addr) (zs : List V) (ms : List Ps), H r = none → ms.Perm ps → ms.Pairwise (fun a b => psLt b a = false) → PsL H zs ms → Q (.ref r) (upd H r (.lst zs))) := by
  intro pins s σ H xs us Q I r h
  obtain ⟨d, kvs, ps, rfl, hd, hlen, hkn, q⟩ := h
  obtain ⟨u, rfl, rx⟩ := vals1 r
  obtain rfl : u = .ref d := rx
  obtain ⟨z, lo, xs, rel, o, es, ep, ho, hx, hdat, hes, hnd⟩ := (show ObjOk X.prog X.w H s.heap d (.dT kvs) from I.hok d _ hd)
  obtain ⟨ys, rv, pl⟩ := keys_psl rel hkn
  have hek : es.toList.map (·.key) = xs.map fun x => Value.ref x.2.1 := by
    rw [hes, List.map_map]
    rfl
  have hxl : kvs.length = xs.length := rel.length
  have hel : es.size = xs.length := by rw [← Array.length_toList, hes, List.length_map]
  refine sorted_colL (lv := fun u v => psLt (kps s.heap u) (kps s.heap v)) (C := fun ys => ys = xs.map fun x => Value.ref x.2.1) (psLt_sto.swo (kps s.heap)) (fun Q' E' hq => ?_) (fun ys' h6 tk6 d6 hC k6 h2l => ?_) fun pa ys' out h3 tk3 d3 c hC hperm hso k3 e3 hle hos => ?_
  · refine collect_src (raw_src lo) (I.ok.hd hc) (⟨o, ho, hx, hdat⟩ : RawD s.heap d es ep) (by rw [sizeLine_eq]; (first | lia | omega)) fun acc h' tk kp hit hle => ?_
    have hacc : acc.toList = es.toList.map (·.key) := by
      refine List.ext_getElem? fun j => ?_
      rw [Array.getElem?_toList, List.getElem?_map, Array.getElem?_toList]
      cases hj : acc[j]? with
      | none =>
        have h3 : acc.size ≤ j := Array.getElem?_eq_none_iff.mp hj
        rw [hit.1] at h3
        rw [Array.getElem?_eq_none h3]
        rfl
      | some v =>
        obtain ⟨e, h1, rfl⟩ := hit.2 j v hj
        rw [h1]
        rfl
    rw [hacc, hek]
    exact hq _ h' tk s.drawn kp rfl (by rw [List.length_map]; (first | lia | omega)) hle
  · subst hC
    refine pss_sortableL (h0 := s.heap) (fun v hv => ?_) k6 h2l
    obtain ⟨y, hy, ry⟩ := vals_mem rv v hv
    obtain ⟨t, q1, _, rfl, e2⟩ := pl.mem y hy
    obtain rfl : v = Value.ref t := ry
    exact ⟨q1, isPs_of I.hok e2⟩
  · subst hC
    obtain ⟨zs, rz, hzq⟩ := psl_sub I.hok rv pl out.toList fun u hu => hperm.mem_iff.mp hu
    have hzl : zs.length = out.size := rz.length.trans (Array.length_toList ..)
    have hol : out.size = xs.length := by
      have := hperm.length_eq
      rw [Array.length_toList, List.length_map] at this
      exact this
    have I2 := I.laid (h' := h3) (t' := tk3) (a := pa) (o := .lst zs) (fun b o e => k3 b o e) hle (show ObjOk X.prog X.w _ h3 _ (.lst zs) from ⟨by rw [sizeLine_eq]; (first | lia | omega), out.toList, c, rz, e3⟩)
    refine ⟨.ref pa, _, I2.draws (d := d3), rfl, q pa zs _ (I.hok.fresh hle) ?_ (List.pairwise_map.mpr hso) hzq⟩
    rw [← kps_all I.hok rv pl]
    exact hperm.map _
end
end L2

/-! parts of changers in the heap, streams; text.index, list.index of a tuple -/
namespace L2
open PySem PySem.Spec PyProof.Rows PySem.W
section
variable {X : Cx}
theorem occ_az {c : Nat} (h1 : 97 ≤ c) (h2 : c ≤ 122) : ∃ (i : Nat) (r : List Nat), Builtin.Str.occurrences Fg.ABC ⟨#[c]⟩ 0 Fg.ABC.length 1 = i :: r := by
  have h := Fg.notin_az (c := c) (by (first | lia | omega))
  have e : azB c = true := by
    unfold azB
    simp
    (first | lia | omega)
  rw [e] at h
  cases hh : Builtin.Str.occurrences Fg.ABC ⟨#[c]⟩ 0 Fg.ABC.length 1 with
  | nil => rw [hh] at h; cases h
  | cons i r => exact ⟨i, r, rfl⟩
/-- the alphabet's index(letter): some number -/
theorem mt_sindex : MtM X "str.index" (fun x vs H Q => ∃ c : Nat, x = .str Fg.ABC ∧ vs = [.str ⟨#[c]⟩] ∧ 97 ≤ c ∧ c ≤ 122 ∧ ∀ i : Nat, Q (.int (i : Int)) H) := by
  intro pins s σ H x vs v us Q I rx rv h
  obtain ⟨c, rfl, rfl, h1, h2, q⟩ := h
  obtain ⟨t, rfl⟩ := rx
  obtain ⟨u, rfl, ru⟩ := rv.one
  obtain ⟨t2, rfl⟩ := ru
  obtain ⟨i, r, e⟩ := occ_az h1 h2
  exact call_gives PySem.F.slot_str_index (typeIs_str _ _ _) PySem.F.entry_str_index (PySem.F.args_str_index_2 _ _) (gives_str_index _ _ _ _ i r e) ⟨.int (i : Int), H, I.tok _, ⟨_, rfl⟩, q i⟩
/-- list.index(tuple), where texts stand ahead of a tuple alike -/
theorem mt_indexT (hu : X.A.units + 20 < cLine) {K : PySem.W.Frag} (hK : X.K = K) : MtM X "list.index" (fun x vs H Q => ∃ (p y k : Addr) (as : List Str) (bs : List V) (d : PyData), x = .ref p ∧ vs = [.ref y] ∧ SqL K H p (as.map V.str ++ .ref k :: bs) ∧ (as.length + bs.length) ≤ 90000 ∧ (∀ b ∈ bs, ∃ t, b = V.str t ∧ PyData.strOk t = true) ∧ (∀ a ∈ as, PyData.strOk a = true) ∧ Dp K H (.ref k) d ∧ Dp K H (.ref y) d ∧ d.canLay0 = true ∧ d.depth ≤ 8 ∧ Q (.int (as.length : Int)) H) := by
  subst hK
  intro pins s σ H x vs v us Q I rx rv h
  obtain ⟨p, y, k, as, bs, d, rfl, rfl, hq, hlen, hbs, has, dk, dy, hl, hdp, q⟩ := h
  cases rx
  obtain ⟨u, rfl, ru⟩ := rv.one
  obtain ⟨its, r, pl, hz⟩ := I.list hq
  obtain ⟨⟨cls, dd, data, sl⟩, m, ho, hc, hdd, hd⟩ := pl
  simp only at hc hdd hd
  subst hc hdd hd
  have hl2 := r.length
  simp only [List.length_append, List.length_map, List.length_cons] at hl2
  obtain ⟨bsy, rby⟩ := dy.reads I ru
  -- the values
  have shape : ∀ {as : List Str} {bs : List V} {its : List Value}, Vals (as.map V.str ++ .ref k :: bs) its → (∀ b ∈ bs, ∃ t, b = V.str t ∧ PyData.strOk t = true) → (∀ a ∈ as, PyData.strOk a = true) → (∀ u ∈ its, (∃ t x, u = Value.str x t ∧ PyData.strOk x = true) ∨ u = .ref k) ∧ its[as.length]? = some (.ref k) ∧ ∀ (j : Nat) v, j < as.length → its[j]? = some v → ∃ t x, v = Value.str x t := by
    intro as
    induction as with
    | nil =>
      intro bs its r hb _
      cases r with
      | @cons _ u _ us r rr =>
        obtain rfl : u = .ref k := r
        refine ⟨fun v hv => ?_, rfl, fun j v hj => absurd hj (Nat.not_lt_zero _)⟩
        rcases List.mem_cons.mp hv with rfl | hv
        · exact .inr rfl
        · obtain ⟨b, hbm, rb⟩ := vals_mem rr v hv
          obtain ⟨t, rfl, ok⟩ := hb b hbm
          obtain ⟨t', rfl⟩ := rb
          exact .inl ⟨t', t, rfl, ok⟩
    | cons a as ih =>
      intro bs its r hb ha
      cases r with
      | @cons _ u _ us r rr =>
        obtain ⟨t', rfl⟩ := r
        obtain ⟨h1, h2, h3⟩ := ih rr hb fun x hx => ha x (List.mem_cons_of_mem _ hx)
        refine ⟨fun v hv => ?_, h2, fun j v hj e => ?_⟩
        · rcases List.mem_cons.mp hv with rfl | hv
          · exact .inl ⟨t', a, rfl, ha a (List.mem_cons_self ..)⟩
          · exact h1 v hv
        · cases j with
          | zero =>
            injection e with e
            exact ⟨t', a, e.symm⟩
          | succ j => exact h3 j v (by rw [List.length_cons] at hj; (first | lia | omega)) e
  obtain ⟨sh1, sh2, sh3⟩ := shape r hbs has
  let e : Value → Bool := fun v => match v with | .ref _ => true | _ => false
  have hj : as.length < its.length := by (first | lia | omega)
  have hk0 : its[as.length]'hj = .ref k := by
    rw [List.getElem?_eq_getElem hj] at sh2
    injection sh2
  have dkt : ∃ ds, d = .tuple ds ∨ d = .list ds := by
    cases dk with
    | lst _ _ => exact ⟨_, .inr rfl⟩
    | tup _ _ => exact ⟨_, .inl rfl⟩
  refine call_meets PySem.F.slot_list_index ⟨_, ho, rfl⟩ PySem.F.entry_list_index (PySem.F.args_list_index_2 _ _)
    (PySem.SeqAt.list_indexAt p its.toArray m none sl u e as.length (by rw [List.size_toArray]; exact hj) (by rw [sizeLine_eq] at hz; (first | lia | omega)) ?_ ?_) ⟨ho, fun v hv => ?_, ⟨.int _, H, I.tok _, ⟨_, rfl⟩, q⟩⟩
  · show e its[as.length] = true
    rw [hk0]
  · intro j hjs hlt
    show e its[j] = false
    obtain ⟨t, x, e'⟩ := sh3 j _ hlt (List.getElem?_eq_getElem (by simpa using hjs))
    rw [e']
  · have hv' : v ∈ its := by simpa using hv
    have hu2 : X.A.in1.units + 10 < cLine := by
      show X.A.units + 1 + 10 < cLine
      (first | lia | omega)
    rcases sh1 v hv' with ⟨t, x, rfl, ok⟩ | rfl
    · have := PySem.SeqAt.eqAt_reads (.str x) d X.A.in1 s (.str x t) u _ bsy (.str x t) rby ok hl (by show _ + min 0 _ < _; (first | lia | omega))
      have ev : PyData.eqv (.str x) d = false := by
        obtain ⟨ds, rfl | rfl⟩ := dkt <;> rfl
      rw [ev] at this
      exact this
    · obtain ⟨ask, rk⟩ := dk.reads (u := .ref k) I rfl
      have := PySem.SeqAt.eqAt_reads d d X.A.in1 s (.ref k) u ask bsy rk rby hl hl (by (first | lia | omega))
      rw [PySem.SeqAt.eqv_refl _ hl] at this
      exact this
end
end L2
namespace Fg
open PySem L2 FgM
/-- parts -/
inductive Pa where
  | nil
  | kids (m : Int) (o : Pa)
  | tag (t : Str) (w o : Pa)
inductive RepP (H : Hp) : List V → Pa → Prop
  | nil : RepP H [] .nil
  | kids {a : Addr} {m : Int} {vs : List V} {o : Pa} : H a = some (.tup [.str "kids", .int m]) → RepP H vs o → RepP H (.ref a :: vs) (.kids m o)
  | tag {a q : Addr} {t : Str} {ys vs : List V} {w o : Pa} : H a = some (.tup [.str "tag", .str t, .ref q]) → H q = some (.tup ys) → RepP H ys w → RepP H vs o → RepP H (.ref a :: vs) (.tag t w o)
theorem RepP.mono {H H' : Hp} (k : TK H H') : ∀ {vs : List V} {g : Pa}, RepP H vs g → RepP H' vs g
  | _, _, .nil => .nil
  | _, _, .kids h1 h2 => .kids (k _ _ h1) (h2.mono k)
  | _, _, .tag h1 h2 h3 h4 => .tag (k _ _ h1) (k _ _ h2) (h3.mono k) (h4.mono k)
namespace Pa
def app : Pa → Pa → Pa
  | .nil, q => q
  | .kids m o, q => .kids m (app o q)
  | .tag t w o, q => .tag t w (app o q)
/-- how many kids -/
def nk : Pa → Nat
  | .nil => 0
  | .kids _ o => 1 + nk o
  | .tag _ w o => nk w + nk o
def sz : Pa → Nat
  | .nil => 0
  | .kids _ o => 1 + sz o
  | .tag _ w o => 1 + sz w + sz o
def dep : Pa → Nat
  | .nil => 0
  | .kids _ o => dep o
  | .tag _ w o => max (dep w + 1) (dep o)
/-- the kids, from the left -/
def ks : Pa → List Int
  | .nil => []
  | .kids m o => m :: ks o
  | .tag _ w o => ks w ++ ks o
/-- the words, kids among them -/
def spl : Pa → List (Str ⊕ Int)
  | .nil => []
  | .kids m o => .inr m :: spl o
  | .tag t w o => .inl t :: (spl w ++ .inl SL :: spl o)
/-- all tags -/
def tags : Pa → List Str
  | .nil => []
  | .kids _ o => tags o
  | .tag t w o => t :: (tags w ++ tags o)
theorem ks_len : ∀ p : Pa, (ks p).length = nk p
  | .nil => rfl
  | .kids m o => by simp [ks, nk, ks_len o]; (first | lia | omega)
  | .tag t w o => by simp [ks, nk, ks_len w, ks_len o]
theorem dep_le : ∀ p : Pa, dep p ≤ sz p
  | .nil => Nat.le_refl _
  | .kids m o => by have := dep_le o; simp only [dep, sz]; (first | lia | omega)
  | .tag t w o => by have := dep_le w; have := dep_le o; simp only [dep, sz]; (first | lia | omega)
theorem spl_len : ∀ p : Pa, (spl p).length ≤ 2 * sz p
  | .nil => Nat.le_refl _
  | .kids m o => by have := spl_len o; simp only [spl, sz, List.length_cons]; (first | lia | omega)
  | .tag t w o => by have := spl_len w; have := spl_len o; simp only [spl, sz, List.length_cons, List.length_append]; (first | lia | omega)
theorem nk_app : ∀ p q : Pa, nk (app p q) = nk p + nk q
  | .nil, q => by simp [app, nk]
  | .kids m o, q => by simp only [app, nk, nk_app o q]; (first | lia | omega)
  | .tag t w o, q => by simp only [app, nk, nk_app o q]; (first | lia | omega)
theorem sz_app : ∀ p q : Pa, sz (app p q) = sz p + sz q
  | .nil, q => by simp [app, sz]
  | .kids m o, q => by simp only [app, sz, sz_app o q]; (first | lia | omega)
  | .tag t w o, q => by simp only [app, sz, sz_app o q]; (first | lia | omega)
theorem spl_app : ∀ p q : Pa, spl (app p q) = spl p ++ spl q
  | .nil, q => rfl
  | .kids m o, q => by simp [app, spl, spl_app o q]
  | .tag t w o, q => by simp [app, spl, spl_app o q]
theorem ks_app : ∀ p q : Pa, ks (app p q) = ks p ++ ks q
  | .nil, q => rfl
  | .kids m o, q => by simp [app, ks, ks_app o q]
  | .tag t w o, q => by simp [app, ks, ks_app o q]
theorem tags_app : ∀ p q : Pa, tags (app p q) = tags p ++ tags q
  | .nil, q => rfl
  | .kids m o, q => by simp [app, tags, tags_app o q]
  | .tag t w o, q => by simp [app, tags, tags_app o q]
/-- the first i -/
def take : Nat → Pa → Pa
  | 0, _ => .nil
  | _ + 1, .nil => .nil
  | i + 1, .kids m o => .kids m (take i o)
  | i + 1, .tag t w o => .tag t w (take i o)
end Pa
theorem RepP.app {H : Hp} : ∀ {xs ys : List V} {p q : Pa}, RepP H xs p → RepP H ys q → RepP H (xs ++ ys) (p.app q)
  | _, _, _, _, .nil, h => h
  | _, _, _, _, .kids h1 h2, h => .kids h1 (h2.app h)
  | _, _, _, _, .tag h1 h2 h3 h4, h => .tag h1 h2 h3 (h4.app h)
theorem RepP.length {H : Hp} : ∀ {xs : List V} {p : Pa}, RepP H xs p → xs.length ≤ p.sz
  | _, _, .nil => Nat.le_refl _
  | _, _, .kids _ h => by have := h.length; simp only [Pa.sz, List.length_cons]; (first | lia | omega)
  | _, _, .tag _ _ _ h => by have := h.length; simp only [Pa.sz, List.length_cons]; (first | lia | omega)
theorem RepP.at {H : Hp} : ∀ {xs : List V} {p : Pa}, RepP H xs p → ∀ (i : Nat) z, xs[i]? = some z → ∃ a, z = V.ref a ∧ ((∃ m, H a = some (.tup [.str "kids", .int m]) ∧ p.take (i + 1) = (p.take i).app (Pa.kids m Pa.nil)) ∨ ∃ t q ys w, H a = some (.tup [.str "tag", .str t, .ref q]) ∧ H q = some (.tup ys) ∧ RepP H ys w ∧ p.take (i + 1) = (p.take i).app (Pa.tag t w Pa.nil) ∧ w.dep < p.dep ∧ w.sz < p.sz)
  | _, _, .kids h1 h2, i, z, hz => by
    cases i with
    | zero =>
      injection hz with hz
      subst hz
      exact ⟨_, rfl, .inl ⟨_, h1, rfl⟩⟩
    | succ i =>
      obtain ⟨a, e, h⟩ := h2.at i z hz
      refine ⟨a, e, ?_⟩
      rcases h with ⟨m, g1, g2⟩ | ⟨t, q, ys, w, g1, g2, g3, g4, g5, g6⟩
      · exact .inl ⟨m, g1, by show Pa.kids _ (Pa.take (i + 1) _) = Pa.kids _ ((Pa.take i _).app _); rw [g2]⟩
      · exact .inr ⟨t, q, ys, w, g1, g2, g3, by show Pa.kids _ (Pa.take (i + 1) _) = Pa.kids _ ((Pa.take i _).app _); rw [g4], g5, by simp only [Pa.sz]; (first | lia | omega)⟩
  | _, _, .tag h1 h2 h3 h4, i, z, hz => by
    cases i with
    | zero =>
      injection hz with hz
      subst hz
      exact ⟨_, rfl, .inr ⟨_, _, _, _, h1, h2, h3, rfl, by simp only [Pa.dep]; (first | lia | omega), by simp only [Pa.sz]; (first | lia | omega)⟩⟩
    | succ i =>
      obtain ⟨a, e, h⟩ := h4.at i z hz
      refine ⟨a, e, ?_⟩
      rcases h with ⟨m, g1, g2⟩ | ⟨t, q, ys, w, g1, g2, g3, g4, g5, g6⟩
      · exact .inl ⟨m, g1, by show Pa.tag _ _ (Pa.take (i + 1) _) = Pa.tag _ _ ((Pa.take i _).app _); rw [g2]⟩
      · exact .inr ⟨t, q, ys, w, g1, g2, g3, by show Pa.tag _ _ (Pa.take (i + 1) _) = Pa.tag _ _ ((Pa.take i _).app _); rw [g4], by simp only [Pa.dep]; (first | lia | omega), by simp only [Pa.sz]; (first | lia | omega)⟩
theorem RepP.take_all {H : Hp} : ∀ {xs : List V} {p : Pa}, RepP H xs p → p.take xs.length = p
  | _, _, .nil => rfl
  | _, _, .kids _ h => by show Pa.kids _ (Pa.take _ _) = _; rw [h.take_all]
  | _, _, .tag _ _ _ h => by show Pa.tag _ _ (Pa.take _ _) = _; rw [h.take_all]
theorem Pa.take_sz : ∀ (i : Nat) (p : Pa), (p.take i).sz ≤ p.sz
  | 0, _ => Nat.zero_le _
  | _ + 1, .nil => Nat.le_refl _
  | i + 1, .kids m o => by have := Pa.take_sz i o; simp only [Pa.take, Pa.sz]; (first | lia | omega)
  | i + 1, .tag t w o => by have := Pa.take_sz i o; simp only [Pa.take, Pa.sz]; (first | lia | omega)
/-- words, kids among them, in the heap -/
def WdV (H : Hp) (z : V) (x : Str ⊕ Int) : Prop := match x with | .inl s => z = .str s | .inr m => ∃ a, z = .ref a ∧ H a = some (.tup [.str "kids", .int m])
def WdL (H : Hp) (zs : List V) (xs : List (Str ⊕ Int)) : Prop := Paired (WdV H) zs xs
theorem WdV.tk {H H' : Hp} (k : TK H H') {z : V} {x : Str ⊕ Int} (h : WdV H z x) : WdV H' z x := by
  cases x with
  | inl s => exact h
  | inr m =>
    obtain ⟨a, e, h⟩ := h
    exact ⟨a, e, k _ _ h⟩
theorem WdL.tk {H H' : Hp} (k : TK H H') : ∀ {zs : List V} {xs : List (Str ⊕ Int)}, WdL H zs xs → WdL H' zs xs
  | _, _, .nil => .nil
  | _, _, .cons r t => .cons (r.tk k) (WdL.tk k t)
theorem WdL.app {H : Hp} {zs zs' : List V} {xs xs' : List (Str ⊕ Int)} (h : WdL H zs xs) (h' : WdL H zs' xs') : WdL H (zs ++ zs') (xs ++ xs') := Paired.app h h'
theorem WdL.strs {H : Hp} : ∀ (ts : List Str), WdL H (ts.map V.str) (ts.map Sum.inl)
  | [] => .nil
  | t :: ts => .cons rfl (WdL.strs ts)
theorem WdL.to {H : Hp} : ∀ {zs : List V} {ts : List Str}, WdL H zs (ts.map Sum.inl) → zs = ts.map V.str
  | _, [], h => by cases h; rfl
  | _, t :: ts, h => by
    cases h with
    | cons r t =>
      have e : _ = V.str _ := r
      rw [e, WdL.to t]
      rfl
/-- cut at the kids -/
def cutW : List (Str ⊕ Int) → List Str × Option Int × List Str
  | [] => ([], none, [])
  | .inl s :: r => (s :: (cutW r).1, (cutW r).2)
  | .inr m :: r => ([], some m, r.filterMap Sum.getLeft?)
/-- what the words of parts with kids at most once are -/
theorem spl_cut : ∀ p : Pa, (p.nk = 0 → ∃ ts : List Str, p.spl = ts.map Sum.inl ∧ p.ks = []) ∧ (p.nk = 1 → ∃ (a b : List Str) (m : Int), p.spl = a.map Sum.inl ++ .inr m :: b.map Sum.inl ∧ p.ks = [m])
  | .nil => ⟨fun _ => ⟨[], rfl, rfl⟩, fun h => by simp [Pa.nk] at h⟩
  | .kids m o => by
    refine ⟨fun h => by simp [Pa.nk] at h, fun h => ?_⟩
    obtain ⟨ts, e1, e2⟩ := (spl_cut o).1 (by simp only [Pa.nk] at h; (first | lia | omega))
    exact ⟨[], ts, m, by simp [Pa.spl, e1], by simp [Pa.ks, e2]⟩
  | .tag t w o => by
    refine ⟨fun h => ?_, fun h => ?_⟩
    · simp only [Pa.nk] at h
      obtain ⟨ts, e1, e2⟩ := (spl_cut w).1 (by (first | lia | omega))
      obtain ⟨us, e3, e4⟩ := (spl_cut o).1 (by (first | lia | omega))
      exact ⟨t :: (ts ++ SL :: us), by simp [Pa.spl, e1, e3], by simp [Pa.ks, e2, e4]⟩
    · simp only [Pa.nk] at h
      by_cases c : w.nk = 0
      · obtain ⟨ts, e1, e2⟩ := (spl_cut w).1 c
        obtain ⟨a, b, m, e3, e4⟩ := (spl_cut o).2 (by (first | lia | omega))
        exact ⟨t :: (ts ++ SL :: a), b, m, by simp [Pa.spl, e1, e3], by simp [Pa.ks, e2, e4]⟩
      · obtain ⟨a, b, m, e1, e2⟩ := (spl_cut w).2 (by (first | lia | omega))
        obtain ⟨us, e3, e4⟩ := (spl_cut o).1 (by (first | lia | omega))
        exact ⟨t :: a, b ++ SL :: us, m, by simp [Pa.spl, e1, e3], by simp [Pa.ks, e2, e4]⟩
theorem cutW_none (ts : List Str) : cutW (ts.map Sum.inl) = (ts, none, []) := by
  induction ts with
  | nil => rfl
  | cons t ts ih => rw [List.map_cons, cutW, ih]
theorem cutW_some (a b : List Str) (m : Int) : cutW (a.map Sum.inl ++ .inr m :: b.map Sum.inl) = (a, some m, b) := by
  induction a with
  | nil =>
    show ([], some m, (b.map Sum.inl).filterMap Sum.getLeft?) = _
    have : (b.map Sum.inl : List (Str ⊕ Int)).filterMap Sum.getLeft? = b := by
      induction b with
      | nil => rfl
      | cons x b ih =>
        rw [List.map_cons, List.filterMap_cons]
        show x :: _ = _
        rw [ih]
    rw [this]
  | cons t ts ih => rw [List.map_cons, List.cons_append, cutW, ih]
/-- the words that come ahead, the mode within, the words behind -/
abbrev Kn := Int → Str → Option Pa
def rlS (kn : Kn) (m : Option Int) (t : Str) : List Str × Option Int × List Str := match m with
  | none => ([], none, [])
  | some m => match kn m t with
    | none => ([t], some m, [SL])
    | some p => cutW p.spl
abbrev Bg := List (Option Int × List Str)
/-- the mode of the innermost open tag -/
def modeB (bs : Bg) : Option Int := match bs.getLast? with | none => some 0 | some b => b.1
/-- a word taken: what comes, and what is open then -/
def stepS (kn : Kn) (bs : Bg) (w : Str) : List Str × Bg := if w = SL then (match bs.getLast? with | none => ([], []) | some b => (b.2, bs.dropLast)) else ((rlS kn (modeB bs) w).1, bs ++ [(rlS kn (modeB bs) w).2])
def owedB (bs : Bg) : List Str := (bs.reverse.map (·.2)).flatten
/-- rules known: the dict in the heap -/
def KnR (H : Hp) (m : List (List Key × V)) (kn : Kn) : Prop := ∀ (i : Int) (t : Str), (valV m [Sum.inl i, Sum.inr t] = none ∧ kn i t = none) ∨ ∃ q ys p, valV m [Sum.inl i, Sum.inr t] = some (.ref q) ∧ H q = some (.tup ys) ∧ RepP H ys p ∧ kn i t = some p
theorem KnR.tk {H H' : Hp} {m : List (List Key × V)} {kn : Kn} (h : KnR H m kn) (k : TK H H') : KnR H' m kn := fun i t => by
  rcases h i t with h | ⟨q, ys, p, h1, h2, h3, h4⟩
  · exact .inl h
  · exact .inr ⟨q, ys, p, h1, k _ _ h2, h3.mono k, h4⟩
/-- rules that a stream can take -/
structure KnOk (kn : Kn) : Prop where
  one : ∀ i t p, kn i t = some p → p.nk ≤ 1
  sz : ∀ i t p, kn i t = some p → p.sz ≤ 20
  ok : ∀ i t p, kn i t = some p → ∀ x ∈ p.tags, PyData.strOk x = true
def moV (m : Option Int) : V := match m with | none => .non | some i => .int i
/-- what is open: a list of tuples, each with a list of its own -/
def BgV (H : Hp) (z : V) (l : Addr) (b : Option Int × List Str) : Prop := ∃ a, z = .ref a ∧ H a = some (.tup [moV b.1, .ref l]) ∧ H l = some (.lst (b.2.map V.str))
inductive BgL (H : Hp) : List V → List Addr → Bg → Prop
  | nil : BgL H [] [] []
  | cons {z : V} {l : Addr} {b : Option Int × List Str} {zs : List V} {ls : List Addr} {bs : Bg} : BgV H z l b → BgL H zs ls bs → BgL H (z :: zs) (l :: ls) (b :: bs)
theorem BgL.keep {H H' : Hp} : ∀ {zs : List V} {ls : List Addr} {bs : Bg}, BgL H zs ls bs → TK H H' → (∀ l ∈ ls, ∀ o, H l = some o → H' l = some o) → BgL H' zs ls bs
  | _, _, _, .nil, _, _ => .nil
  | _, _, _, .cons ⟨a, e1, e2, e3⟩ t, k, kl => .cons ⟨a, e1, k _ _ e2, kl _ (List.mem_cons_self ..) _ e3⟩ (t.keep k fun l hl => kl l (List.mem_cons_of_mem _ hl))
theorem BgL.snoc {H : Hp} {z : V} {l : Addr} {b : Option Int × List Str} (h : BgV H z l b) : ∀ {zs : List V} {ls : List Addr} {bs : Bg}, BgL H zs ls bs → BgL H (zs ++ [z]) (ls ++ [l]) (bs ++ [b])
  | _, _, _, .nil => .cons h .nil
  | _, _, _, .cons r t => .cons r (t.snoc h)
theorem BgL.len {H : Hp} : ∀ {zs : List V} {ls : List Addr} {bs : Bg}, BgL H zs ls bs → zs.length = bs.length ∧ ls.length = bs.length
  | _, _, _, .nil => ⟨rfl, rfl⟩
  | _, _, _, .cons _ t => by simp [t.len.1, t.len.2]
theorem BgL.unsnoc {H : Hp} : ∀ {zs : List V} {ls : List Addr} {bs : Bg} {b : Option Int × List Str}, BgL H zs ls (bs ++ [b]) → ∃ zs' z ls' l, zs = zs' ++ [z] ∧ ls = ls' ++ [l] ∧ BgL H zs' ls' bs ∧ BgV H z l b
  | _, _, [], _, h => by
    cases h with
    | cons r t =>
      cases t
      exact ⟨[], _, [], _, rfl, rfl, .nil, r⟩
  | _, _, c :: bs, _, h => by
    cases h with
    | cons r t =>
      obtain ⟨zs', z, ls', l, rfl, rfl, h1, h2⟩ := t.unsnoc
      exact ⟨_ :: zs', z, _ :: ls', l, rfl, rfl, .cons r h1, h2⟩
/-- the class of streams -/
structure StC (K : PySem.W.Frag) (C : Addr) : Prop where
  cls : Cls K C
  n1 : NoAttr K C "known"
  n2 : NoAttr K C "taken"
  n3 : NoAttr K C "begun"
def stF (dk B : Addr) (n : Int) : List (Str × V) := [("known", .ref dk), ("taken", .int n), ("begun", .ref B)]
/-- a stream in this state -/
structure StAt (C : Addr) (H : Hp) (a dk B : Addr) (ls : List Addr) (kn : Kn) (bs : Bg) (n : Int) : Prop where
  ok : KnOk kn
  ho : ∃ dx, H a = some (.ins C dx (stF dk B n))
  hk : ∃ m, H dk = some (.dT m) ∧ KnR H m kn
  hb : ∃ zs, H B = some (.lst zs) ∧ BgL H zs ls bs
  nd : (B :: ls).Nodup
  so : ∀ b ∈ bs, ∀ x ∈ b.2, PyData.strOk x = true
theorem StAt.keep {C : Addr} {H H' : Hp} {a dk B : Addr} {ls : List Addr} {kn : Kn} {bs : Bg} {n : Int} {ex : List Addr} (h : StAt C H a dk B ls kn bs n) (k : KeepX ex H H') (hx : ∀ b ∈ ex, ∀ xs, H b ≠ some (.tup xs)) (ha : a ∉ ex) (hd : dk ∉ ex) (hB : B ∉ ex) (hl : ∀ l ∈ ls, l ∉ ex) : StAt C H' a dk B ls kn bs n := by
  have tk : TK H H' := fun b xs e => k b _ (fun z => hx b z xs e) e
  obtain ⟨dx, h1⟩ := h.ho
  obtain ⟨m, h2, h3⟩ := h.hk
  obtain ⟨zs, h4, h5⟩ := h.hb
  exact ⟨h.ok, ⟨dx, k _ _ ha h1⟩, ⟨m, k _ _ hd h2, h3.tk tk⟩, ⟨zs, k _ _ hB h4, h5.keep tk fun l hl' o e => k _ _ (hl l hl') e⟩, h.nd, h.so⟩
theorem StAt.same {C : Addr} {H H' : Hp} {a dk B : Addr} {ls : List Addr} {kn : Kn} {bs : Bg} {n : Int} (h : StAt C H a dk B ls kn bs n) (s : Same H H') : StAt C H' a dk B ls kn bs n :=
  h.keep (ex := []) (fun b o _ e => s b o e) (fun _ hb => nomatch hb) (fun z => nomatch z) (fun z => nomatch z) (fun z => nomatch z) (fun _ _ z => nomatch z)
/-- a tag opened: the stream behind it -/
theorem StAt.opened {C : Addr} {H : Hp} {a dk Bl t l : Addr} {ls : List Addr} {kn : Kn} {bs : Bg} {n : Int} {zs : List V} {b : Option Int × List Str} (h : StAt C H a dk Bl ls kn bs n) (hB : H Bl = some (.lst zs)) (ht : H t = some (.tup [moV b.1, .ref l])) (hl : H l = some (.lst (b.2.map V.str))) (hn : l ∉ Bl :: ls) (hs : ∀ x ∈ b.2, PyData.strOk x = true) : StAt C (upd H Bl (.lst (zs ++ [.ref t]))) a dk Bl (ls ++ [l]) kn (bs ++ [b]) n := by
  obtain ⟨dx, h1⟩ := h.ho
  obtain ⟨m, h2, h3⟩ := h.hk
  obtain ⟨zs', h4, h5⟩ := h.hb
  rw [hB] at h4
  injection h4 with h4
  injection h4 with h4
  subst h4
  obtain ⟨n1, n2⟩ := List.nodup_cons.mp h.nd
  have nl : l ≠ Bl := fun z => hn (by rw [z]; exact List.mem_cons_self ..)
  have tk : TK H (upd H Bl (.lst (zs ++ [.ref t]))) := TK.lst hB
  refine ⟨h.ok, ⟨dx, by rw [upd_ne (ne_of h1 hB (by intro z; cases z))]; exact h1⟩, ⟨m, by rw [upd_ne (ne_of h2 hB (by intro z; cases z))]; exact h2, h3.tk tk⟩, ⟨_, upd_same, (h5.keep tk fun l' hl' o e => ?_).snoc ⟨t, rfl, tk _ _ ht, by rw [upd_ne nl]; exact hl⟩⟩, ?_, fun c hc => ?_⟩
  · rw [upd_ne (fun z => n1 (by rw [← z]; exact hl'))]
    exact e
  · refine List.nodup_cons.mpr ⟨fun z => ?_, List.nodup_append.mpr ⟨n2, by simp, fun x hx y hy e => ?_⟩⟩
    · rcases List.mem_append.mp z with z | z
      · exact n1 z
      · exact nl (List.mem_singleton.mp z).symm
    · rw [List.mem_singleton.mp hy] at e
      exact hn (List.mem_cons_of_mem _ (e ▸ hx))
  · rcases List.mem_append.mp hc with hc | hc
    · exact h.so c hc
    · rw [List.mem_singleton.mp hc]
      exact hs
theorem BgL.live {H : Hp} : ∀ {zs : List V} {ls : List Addr} {bs : Bg}, BgL H zs ls bs → ∀ l ∈ ls, ∃ xs, H l = some (.lst xs)
  | _, _, _, .cons ⟨_, _, _, e⟩ t, l, hl => by
    rcases List.mem_cons.mp hl with rfl | hl
    · exact ⟨_, e⟩
    · exact BgL.live t l hl
theorem StAt.live {C : Addr} {H : Hp} {a dk Bl : Addr} {ls : List Addr} {kn : Kn} {bs : Bg} {n : Int} (h : StAt C H a dk Bl ls kn bs n) : ∀ b ∈ Bl :: ls, ∃ xs, H b = some (.lst xs) := by
  obtain ⟨zs, h4, h5⟩ := h.hb
  intro b hb
  rcases List.mem_cons.mp hb with rfl | hb
  · exact ⟨_, h4⟩
  · exact h5.live b hb
theorem StAt.free {C : Addr} {H : Hp} {a dk Bl l : Addr} {ls : List Addr} {kn : Kn} {bs : Bg} {n : Int} (h : StAt C H a dk Bl ls kn bs n) (hl : H l = none) : l ∉ Bl :: ls := fun z => by
  obtain ⟨xs, e⟩ := h.live l z
  rw [hl] at e
  cases e
theorem kids_lay (m : Int) : (PyData.tuple [PyData.str "kids", PyData.int m]).canLay0 = true := by
  have h : PyData.strOk "kids" = true := by decide +kernel
  show (PyData.strOk "kids" && _) = true
  rw [h]
  rfl
theorem tagB_letsS {z : Str} (h : Lets z) (h8 : z.length ≤ 8) : tagB z = true := by
  have h1 : 1 ≤ z.length := by
    have : 0 < z.cps.toList.length := List.length_pos_iff.mpr h.1
    rw [Array.length_toList] at this
    exact this
  unfold tagB
  rw [decide_eq_true h1, decide_eq_true h8, Bool.true_and, Bool.true_and, List.all_eq_true]
  intro c hc
  have := h.2 c hc
  unfold azB
  simp; (first | lia | omega)
end Fg

/-! methods that may raise; isinstance of an exception, of any class -/
namespace L2
open PySem PySem.Spec PyProof.Rows PySem.W
end L2
namespace L2
open PySem PySem.Spec PyProof.Rows
end L2
namespace L2
open PySem PySem.Spec PyProof.Rows
end L2

namespace K94
open PySem L2 FgM Fg
def top (i : Nat) : Stmt := PySem.Challenge.pw_formgrove_k94_whole_no_word_too_late.main.body.getD i (.Pass ⟨0, 0, 0, 0⟩)
abbrev s_is_tag : Stmt := top 7
abbrev s_all_parts : Stmt := top 9
abbrev s_parts_by_rule : Stmt := top 10
abbrev s_parts_for : Stmt := top 11
abbrev s_straight : Stmt := top 13
abbrev s_kids_in : Stmt := top 14
abbrev s_words_of_parts : Stmt := top 15
abbrev s_Stream___init__ : Stmt := inClass (top 16) 0
abbrev s_Stream_take : Stmt := inClass (top 16) 1
abbrev s_Stream_take_begin : Stmt := inClass (top 16) 2
abbrev s_l_cell : Stmt := top 18
abbrev s_l_tags : Stmt := top 19
abbrev s_l_parts : Stmt := top 20
abbrev s_l_rules : Stmt := top 21
abbrev s_l_words : Stmt := top 22
abbrev s_l_kids_mode : Stmt := top 23
abbrev s_l_open_modes : Stmt := top 24
abbrev s_l_read : Stmt := top 25
abbrev s_l_put : Stmt := top 26
abbrev s_l_changed : Stmt := top 27
abbrev s_law : Stmt := top 28
theorem sc_is_tag : FnScope ["text"] ["text"] (defScope s_is_tag) := ⟨rfl, rfl, rfl, by decide +kernel, rfl, by decide +kernel, by decide +kernel⟩
theorem sc_all_parts : FnScope ["parts", "found", "part"] ["parts"] (defScope s_all_parts) := ⟨rfl, rfl, rfl, by decide +kernel, rfl, by decide +kernel, by decide +kernel⟩
theorem sc_parts_by_rule : FnScope ["changer"] ["changer"] (defScope s_parts_by_rule) := ⟨rfl, rfl, rfl, by decide +kernel, rfl, by decide +kernel, by decide +kernel⟩
theorem sc_parts_for : FnScope ["known", "mode", "tag"] ["known", "mode", "tag"] (defScope s_parts_for) := ⟨rfl, rfl, rfl, by decide +kernel, rfl, by decide +kernel, by decide +kernel⟩
theorem sc_straight : FnScope ["changer"] ["changer"] (defScope s_straight) := ⟨rfl, rfl, rfl, by decide +kernel, rfl, by decide +kernel, by decide +kernel⟩
theorem sc_kids_in : FnScope ["parts"] ["parts"] (defScope s_kids_in) := ⟨rfl, rfl, rfl, by decide +kernel, rfl, by decide +kernel, by decide +kernel⟩
theorem sc_words_of_parts : FnScope ["parts", "words", "part"] ["parts"] (defScope s_words_of_parts) := ⟨rfl, rfl, rfl, by decide +kernel, rfl, by decide +kernel, by decide +kernel⟩
theorem sc_Stream___init__ : FnScope ["self", "changer"] ["self", "changer"] (defScope s_Stream___init__) := ⟨rfl, rfl, rfl, by decide +kernel, rfl, by decide +kernel, by decide +kernel⟩
theorem sc_Stream_take : FnScope ["self", "word"] ["self", "word"] (defScope s_Stream_take) := ⟨rfl, rfl, rfl, by decide +kernel, rfl, by decide +kernel, by decide +kernel⟩
theorem sc_Stream_take_begin : FnScope ["self", "mode", "tag", "parts", "words", "kids", "at"] ["self", "mode", "tag"] (defScope s_Stream_take_begin) := ⟨rfl, rfl, rfl, by decide +kernel, rfl, by decide +kernel, by decide +kernel⟩
theorem sc_l_cell : FnScope ["_law_script", "_law_k", "_law_number"] ["_law_script", "_law_k"] (defScope s_l_cell) := ⟨rfl, rfl, rfl, by decide +kernel, rfl, by decide +kernel, by decide +kernel⟩
theorem sc_l_tags : FnScope ["_law_cell_here", "_law_letters", "_law_base", "_law_at", "_law_other", "_law_place"] ["_law_cell_here"] (defScope s_l_tags) := ⟨rfl, rfl, rfl, by decide +kernel, rfl, by decide +kernel, by decide +kernel⟩
theorem sc_l_parts : FnScope ["_law_cell_here", "_law_tags_here", "_law_modes", "_law_rows", "_law_opened", "_law_kids", "_law_rest", "_law_k", "_law_turn", "_law_inner"] ["_law_cell_here", "_law_tags_here", "_law_modes"] (defScope s_l_parts) := ⟨rfl, rfl, rfl, by decide +kernel, rfl, by decide +kernel, by decide +kernel⟩
theorem sc_l_rules : FnScope ["_law_script", "_law_modes", "_law_tags_here", "_law_made", "_law_k", "_law_cell_here"] ["_law_script", "_law_modes", "_law_tags_here"] (defScope s_l_rules) := ⟨rfl, rfl, rfl, by decide +kernel, rfl, by decide +kernel, by decide +kernel⟩
theorem sc_l_words : FnScope ["_law_script", "_law_tags_here", "_law_words_here", "_law_opened", "_law_k", "_law_cell_here"] ["_law_script", "_law_tags_here"] (defScope s_l_words) := ⟨rfl, rfl, rfl, by decide +kernel, rfl, by decide +kernel, by decide +kernel⟩
theorem sc_l_kids_mode : FnScope ["_law_parts_here", "_law_part", "_law_found"] ["_law_parts_here"] (defScope s_l_kids_mode) := ⟨rfl, rfl, rfl, by decide +kernel, rfl, by decide +kernel, by decide +kernel⟩
theorem sc_l_open_modes : FnScope ["_law_made", "_law_words_here", "_law_modes", "_law_word"] ["_law_made", "_law_words_here"] (defScope s_l_open_modes) := ⟨rfl, rfl, rfl, by decide +kernel, rfl, by decide +kernel, by decide +kernel⟩
theorem sc_l_read : FnScope ["_law_words_here", "_law_rows", "_law_opened", "_law_word", "_law_inner"] ["_law_words_here"] (defScope s_l_read) := ⟨rfl, rfl, rfl, by decide +kernel, rfl, by decide +kernel, by decide +kernel⟩
theorem sc_l_put : FnScope ["_law_made", "_law_parts_here", "_law_inner", "_law_words_here", "_law_part"] ["_law_made", "_law_parts_here", "_law_inner"] (defScope s_l_put) := ⟨rfl, rfl, rfl, by decide +kernel, rfl, by decide +kernel, by decide +kernel⟩
theorem sc_l_changed : FnScope ["_law_made", "_law_mode", "_law_grove", "_law_words_here", "_law_tag", "_law_inner"] ["_law_made", "_law_mode", "_law_grove"] (defScope s_l_changed) := ⟨rfl, rfl, rfl, by decide +kernel, rfl, by decide +kernel, by decide +kernel⟩
theorem sc_law : FnScope ["_law_script", "_law_modes", "_law_tags_here", "_law_made", "_law_stream", "_law_words_here", "_law_came", "_law_word", "_law_left", "_law_ended", "_law_tag", "_law_grove"] ["_law_script"] (defScope s_law) := ⟨rfl, rfl, rfl, by decide +kernel, rfl, by decide +kernel, by decide +kernel⟩
abbrev blts : List Str := ["all", "dict", "len", "list", "range", "sorted", "tuple"]
section
variable {P : Program} {w : World} {K : PySem.W.Frag} {mg : Str → Option Value} {base : Heap} {f : Addr} {fd : FuncData}
theorem ok_is_tag (B : ∀ x ∈ blts, mg x = none) (Cc : ∃ t : Tok, mg "LONGEST_TAG" = some (.int 8 t)) (F : Fun K "is_tag" "is_tag" s_is_tag f fd) : FnOk P w K mg base CX0 1 f fd ["text"] spIsTag := by
  refine F.ok sc_is_tag (fun vs H Q E h => ?_) (fun cdv A outer s H vs Q E hr h => ?_)
  · obtain ⟨z, rfl, _⟩ := h
    rfl
  obtain ⟨z, rfl, hz, q⟩ := h
  obtain ⟨t8, c_LONGEST_TAG⟩ := Cc
  unfold tagB at q
  refine ⟨_, (pss_one (ps_ret (pe_and (pe_chain op_le op_le pe_int (pe_callB call_len_str rfl (B "len" (by decide)) PySem.boot_len (pa_cons (pv 0) pa_nil)) (pe_glob (v := .int 8) rfl c_LONGEST_TAG ⟨_, rfl⟩)) (pe_one (pe_callB (call_all rfl) rfl (B "all" (by decide)) bt_all (pa_cons (pe_comp_az (pv 0) rfl (by decide) (by decide) rfl (by decide) rfl (by decide) (fun _ => rfl)) pa_nil)))))), ?_⟩
  refine ⟨_, rfl, z, rfl, len1000 (by (first | lia | omega)), _, _, rfl, rfl, _, rfl, ?_⟩
  refine ite2 (fun c => ?_) (fun c => ?_)
  · have c1 : 1 ≤ z.length := by
      have := of_decide_eq_true c
      (first | lia | omega)
    rw [decide_eq_true c1, Bool.true_and] at q
    refine ⟨_, _, rfl, rfl, _, rfl, ?_⟩
    refine ite2 (fun c => ?_) (fun c => ?_)
    · have c2 : z.length ≤ 8 := by
        have := of_decide_eq_true c
        (first | lia | omega)
      rw [decide_eq_true c2, Bool.true_and] at q
      refine ⟨_, rfl, z, rfl, len1000 (by (first | lia | omega)), fun p hp => ⟨p, z.cps.toList.map azB, rfl, SqL.of ?_, ?_⟩⟩
      · rw [upd_same, List.map_map]
        rfl
      · have e : (z.cps.toList.map azB).all id = z.cps.toList.all azB := by
          rw [List.all_map]
          rfl
        rw [e]
        exact q _ (Same.new hp)
    · have c2 : ¬ z.length ≤ 8 := fun h => c (decide_eq_true (by show ((z.length : Nat) : Int) ≤ 8; (first | lia | omega)))
      rw [decide_eq_false c2, Bool.false_and] at q
      exact q H (Same.refl H)
  · have c1 : ¬ 1 ≤ z.length := fun h => c (decide_eq_true (by show (1 : Int) ≤ ((z.length : Nat) : Int); (first | lia | omega)))
    rw [decide_eq_false c1, Bool.false_and, Bool.false_and] at q
    exact ⟨_, rfl, iteF (q H (Same.refl H))⟩
/-- a part of the one sort or the other -/
def PtV (H : Hp) (z : V) (x : Option Int) : Prop := match x with | some m => ∃ a, z = .ref a ∧ H a = some (.tup [.str "kids", .int m]) | none => ∃ a t q, z = .ref a ∧ H a = some (.tup [.str "tag", .str t, .ref q])
def PtL (H : Hp) (zs : List V) (xs : List (Option Int)) : Prop := Paired (PtV H) zs xs
theorem PtL.tk {H H' : Hp} (k : TK H H') : ∀ {zs : List V} {xs : List (Option Int)}, PtL H zs xs → PtL H' zs xs
  | _, _, .nil => .nil
  | _, _, .cons (b := x) r t => .cons (by
      cases x with
      | some m => obtain ⟨a, e, h⟩ := r; exact ⟨a, e, k _ _ h⟩
      | none => obtain ⟨a, t', q, e, h⟩ := r; exact ⟨a, t', q, e, k _ _ h⟩) (PtL.tk k t)
def allP : Pa → List (Option Int)
  | .nil => []
  | .kids m o => some m :: allP o
  | .tag _ w o => none :: (allP w ++ allP o)
theorem allP_app : ∀ p q : Pa, allP (p.app q) = allP p ++ allP q
  | .nil, q => rfl
  | .kids m o, q => by simp [Pa.app, allP, allP_app o q]
  | .tag t w o, q => by simp [Pa.app, allP, allP_app o q]
theorem allP_ks : ∀ p : Pa, (allP p).filterMap id = p.ks
  | .nil => rfl
  | .kids m o => by simp [allP, Pa.ks, allP_ks o]
  | .tag t w o => by simp [allP, Pa.ks, allP_ks w, allP_ks o]
theorem allP_len : ∀ p : Pa, (allP p).length = p.sz
  | .nil => rfl
  | .kids m o => by simp [allP, Pa.sz, allP_len o]; (first | lia | omega)
  | .tag t w o => by simp [allP, Pa.sz, allP_len w, allP_len o]; (first | lia | omega)
def spAllP (d : Nat) : Sp := fun vs H Q _ => ∃ (q : Addr) (ys : List V) (p : Pa), vs = [.ref q] ∧ H q = some (.tup ys) ∧ RepP H ys p ∧ p.dep < d ∧ p.sz ≤ 1000 ∧ ∀ (r : Addr) (zs : List V) (H' : Hp), Same H H' → H r = none → H' r = some (.lst zs) → PtL H' zs (allP p) → Q (.ref r) H'
set_option maxHeartbeats 2000000 in
theorem ok_all_parts (d : Nat) (B : ∀ x ∈ blts, mg x = none) (g_all_parts : Has P w K mg base "all_parts" ["parts"] d (spAllP d)) (F : Fun K "all_parts" "all_parts" s_all_parts f fd) : FnOk P w K mg base CX0 (d + 1) f fd ["parts"] (spAllP (d + 1)) := by
  refine F.ok sc_all_parts (fun vs H Q E h => ?_) (fun cdv A outer s H vs Q E hr h => ?_)
  · obtain ⟨q, ys, p, rfl, _⟩ := h
    rfl
  obtain ⟨q, ys, p, rfl, hq, hP, hd, hz, qq⟩ := h
  have hpl := hP.length
  refine ⟨_, (pss_cons (ps_set (i := 1) sc_all_parts.nd rfl (Or.inl rfl) (pe_lst pa_nil))
    (pss_cons (ps_for PassesOwn.never rfl (pi_tup (pv 0)) (pg_name (i := 2) sc_all_parts.nd rfl (Or.inl rfl))
      (pss_cons (ps_expr (pe_bm PySem.F.plainAttrs_list PySem.F.slot_list_append PySem.F.type_list_append mt_append (pv 1) (pa_cons (pv 2) pa_nil)))
        (pss_one (ps_if (pt_cmpR op_eq (pe_ix ix_tup (pv 2) pe_int (fun _ _ => rfl)) pe_str (nomark _))
          (pss_one (ps_expr (pe_bm PySem.F.plainAttrs_list PySem.F.slot_list_extend PySem.F.type_list_extend mt_extend (pv 1) (pa_cons (pe_has g_all_parts hr rfl (pa_cons (pe_ix ix_tup (pv 2) pe_int (fun _ _ => rfl)) pa_nil) (by (first | lia | omega))) pa_nil))))
          pss_nil))))
    (pss_one (ps_ret (pv 1))))), ?_⟩
  refine ⟨by decide, fun L hL => ?_⟩
  have s0 : Same H (upd H L (.lst [])) := Same.new hL
  refine ⟨_, rfl, q, rfl, ⟨_, SqT.of (s0 _ _ hq)⟩, for_tup (K := K) (a := q) (xs := ys) (fun i σ H1 => ∃ (v2 : Option V) (zs : List V), σ = [some (.ref q), some (.ref L), v2] ∧ Same H H1 ∧ H1 L = some (.lst zs) ∧ PtL H1 zs (allP (p.take i)))
    ⟨none, [], rfl, s0, upd_same, .nil⟩ ?_ ?_ ?_⟩
  · rintro i σ H1 _ ⟨_, _, _, s1, _⟩
    exact SqT.of (s1 _ _ hq)
  · rintro i x σ H1 hx ⟨v2, zs, rfl, s1, hL1, hzs⟩
    obtain ⟨a, rfl, ha⟩ := hP.at i x hx
    have hts := p.take_sz i
    have hzl : zs.length = (p.take i).sz := (Paired.length hzs).trans (allP_len _)
    refine ⟨_, rfl, .inl ⟨rfl, _, SqL.of hL1⟩, _, rfl, L, _, _, rfl, rfl, hL1, len1000' (by (first | lia | omega)), ?_⟩
    have tk : TK H1 (upd H1 L (.lst (zs ++ [.ref a]))) := TK.lst hL1
    rcases ha with ⟨m, h1, h2⟩ | ⟨t, q', ys', w', h1, h2, h3, h4, h5, h6⟩
    · have h1' := tk _ _ (s1 _ _ h1)
      refine ⟨_, rfl, a, _, 0, _, rfl, rfl, SqT.of h1', rfl, rfl, _, rfl, iteF ?_⟩
      refine ⟨_, _, rfl, s1.upd_new hL, upd_same, ?_⟩
      rw [h2, allP_app]
      exact Paired.app (hzs.tk tk) (.cons ⟨a, rfl, h1'⟩ .nil)
    · have h1' := tk _ _ (s1 _ _ h1)
      refine ⟨_, rfl, a, _, 0, _, rfl, rfl, SqT.of h1', rfl, rfl, _, rfl, iteT ?_⟩
      have s2 : Same H (upd H1 L (.lst (zs ++ [.ref a]))) := s1.upd_new hL
      refine ⟨_, rfl, .inl ⟨rfl, _, SqL.of upd_same⟩, _, rfl, a, _, 2, _, rfl, rfl, SqT.of h1', rfl, q', ys', w', rfl, s2 _ _ h2, h3.mono s2.tk, by (first | lia | omega), by (first | lia | omega), fun r zr H3 s3 hr0 hr3 hzr => ?_⟩
      have hL3 := s3 _ _ (show (upd H1 L (.lst (zs ++ [.ref a]))) L = some (.lst (zs ++ [.ref a])) from upd_same)
      have hrl : zr.length = w'.sz := (Paired.length hzr).trans (allP_len _)
      refine ⟨L, r, _, _, rfl, rfl, hL3, hr3, len1000 (by rw [List.length_append, List.length_singleton]; (first | lia | omega)), ?_⟩
      have tk4 := TK.lst (o := .lst (zs ++ [.ref a] ++ zr)) hL3
      refine ⟨_, _, rfl, (s2.trans s3).upd_new hL, upd_same, ?_⟩
      rw [h4, allP_app]
      have e : allP (Pa.tag t w' .nil) = none :: allP w' := by simp [allP]
      rw [e]
      have k5 : PtL (upd H3 L (.lst (zs ++ [.ref a] ++ zr))) (zs ++ (.ref a :: zr)) (allP (p.take i) ++ none :: allP w') := Paired.app (((hzs.tk tk).tk s3.tk).tk tk4) (.cons ⟨a, t, q', rfl, tk4 _ _ (s3 _ _ h1')⟩ (hzr.tk tk4))
      rw [show zs ++ V.ref a :: zr = zs ++ [V.ref a] ++ zr by simp] at k5
      exact k5
  · rintro σ H1 ⟨v2, zs, rfl, s1, hL1, hzs⟩
    rw [hP.take_all] at hzs
    exact ⟨_, rfl, qq L zs H1 s1 hL hL1 hzs⟩
def KdL (H : Hp) (zs : List V) (ms : List Int) : Prop := Paired (fun z m => ∃ a, z = V.ref a ∧ H a = some (.tup [.str "kids", .int m])) zs ms
theorem KdL.tk {H H' : Hp} (k : TK H H') : ∀ {zs : List V} {xs : List Int}, KdL H zs xs → KdL H' zs xs
  | _, _, .nil => .nil
  | _, _, .cons ⟨a, e, h⟩ t => .cons ⟨a, e, k _ _ h⟩ (KdL.tk k t)
def spKidsIn (d : Nat) : Sp := fun vs H Q _ => ∃ (q : Addr) (ys : List V) (p : Pa), vs = [.ref q] ∧ H q = some (.tup ys) ∧ RepP H ys p ∧ p.dep < d ∧ p.sz ≤ 1000 ∧ ∀ (r : Addr) (zs : List V) (H' : Hp), Same H H' → H r = none → H' r = some (.lst zs) → KdL H' zs p.ks → Q (.ref r) H'
theorem PtL.get {H : Hp} : ∀ {zs : List V} {xs : List (Option Int)}, PtL H zs xs → ∀ (i : Nat) z, zs[i]? = some z → ∃ x, xs[i]? = some x ∧ PtV H z x
  | _, _, .cons r t, 0, z, hz => by
    injection hz with hz
    subst hz
    exact ⟨_, rfl, r⟩
  | _, _, .cons r t, i + 1, z, hz => PtL.get t i z hz
set_option maxHeartbeats 2000000 in
theorem ok_kids_in (B : ∀ x ∈ blts, mg x = none) (g_all_parts : Has P w K mg base "all_parts" ["parts"] 22 (spAllP 22)) (F : Fun K "kids_in" "kids_in" s_kids_in f fd) : FnOk P w K mg base CX0 23 f fd ["parts"] (spKidsIn 22) := by
  refine F.ok sc_kids_in (fun vs H Q E h => ?_) (fun cdv A outer s H vs Q E hr h => ?_)
  · obtain ⟨q, ys, p, rfl, _⟩ := h
    rfl
  obtain ⟨q, ys, p, rfl, hq, hP, hd, hz, qq⟩ := h
  refine ⟨_, (pss_one (ps_ret (pe_comp_if (cl := []) ["part"] [] (pi_list (pe_has g_all_parts hr rfl (pa_cons (pv 0) pa_nil))) (fun _ _ _ _ => (pg_name (i := 0) nd1 rfl (Or.inl rfl))) (fun _ _ _ _ => (pt_cmpR op_eq (pe_ix (ix_tupK (K := K) rfl) (pv 0) pe_int (fun _ _ => rfl)) pe_str (nomark _))) (fun _ _ _ _ => (pv 0)) rfl rfl (by decide) rfl (by decide) (fun _ _ h => nomatch h) (nofree (by decide)) (fun _ _ h => nomatch h) (fun _ => rfl)))), ?_⟩
  refine ⟨_, rfl, q, ys, p, rfl, hq, hP, hd, hz, fun r zr H1 s1 hr0 hr1 hzr => ?_⟩
  have hzl : zr.length = p.sz := (Paired.length hzr).trans (allP_len _)
  refine ⟨r, rfl, ⟨_, SqL.of hr1⟩, fun pc hpc => comp_listT (K := K) (a := r) (p := pc) (xs := zr) (fun i us σ H2 => ∃ (v0 : Option V), σ = [v0] ∧ Same H1 H2 ∧ H2 pc = some (.lst us) ∧ KdL H2 us (((allP p).take i).filterMap id))
    ⟨none, rfl, Same.new hpc, upd_same, .nil⟩ ?_ ?_ ?_⟩
  · rintro i us σ H2 _ ⟨_, _, s2, h, _⟩
    exact ⟨SqL.of (s2 _ _ hr1), h⟩
  · rintro i us x σ H2 hi hx ⟨v0, rfl, s2, hp, hus⟩
    obtain ⟨o, ho, hv⟩ := hzr.get i x hx
    have hul : us.length ≤ i := by
      rw [Paired.length hus]
      exact Nat.le_trans (List.length_filterMap_le _ _) (by rw [List.length_take]; (first | lia | omega))
    cases o with
    | some m =>
      obtain ⟨a, rfl, ha⟩ := hv
      refine ⟨_, rfl, a, _, 0, _, rfl, rfl, SqT.of (s2 _ _ ha), rfl, rfl, _, rfl, iteT ?_⟩
      refine ⟨_, rfl, hp, len1000' (by (first | lia | omega)), CW.next hi ⟨_, rfl, s2.upd_new hpc, upd_same, ?_⟩⟩
      rw [take_succ' ho, List.filterMap_append]
      exact Paired.app (hus.tk (TK.lst hp)) (.cons ⟨a, rfl, TK.lst hp _ _ (s2 _ _ ha)⟩ .nil)
    | none =>
      obtain ⟨a, t, q', rfl, ha⟩ := hv
      refine ⟨_, rfl, a, _, 0, _, rfl, rfl, SqT.of (s2 _ _ ha), rfl, rfl, _, rfl, iteF ?_⟩
      refine CW.next hi ⟨_, rfl, s2, hp, ?_⟩
      rw [take_succ' ho, List.filterMap_append]
      simpa using hus
  rintro us σ H2 ⟨v0, rfl, s2, hp, hus⟩
  rw [hzl, ← allP_len, List.take_length, allP_ks] at hus
  exact qq pc us H2 (s1.trans s2) (s1.free hpc) hp hus
/-- rules in the heap -/
def RlV (H : Hp) (z : V) (r : Int × Str × Pa) : Prop := ∃ a q ys, z = .ref a ∧ H a = some (.tup [.int r.1, .str r.2.1, .ref q]) ∧ H q = some (.tup ys) ∧ RepP H ys r.2.2
def RlL (H : Hp) (zs : List V) (rs : List (Int × Str × Pa)) : Prop := Paired (RlV H) zs rs
theorem RlL.tk {H H' : Hp} (k : TK H H') : ∀ {zs : List V} {rs : List (Int × Str × Pa)}, RlL H zs rs → RlL H' zs rs
  | _, _, .nil => .nil
  | _, _, .cons ⟨a, q, ys, e, h1, h2, h3⟩ t => .cons ⟨a, q, ys, e, k _ _ h1, k _ _ h2, h3.mono k⟩ (RlL.tk k t)
theorem RlL.get {H : Hp} : ∀ {zs : List V} {xs : List (Int × Str × Pa)}, RlL H zs xs → ∀ (i : Nat) z, zs[i]? = some z → ∃ x, xs[i]? = some x ∧ RlV H z x
  | _, _, .cons r t, 0, z, hz => by
    injection hz with hz
    subst hz
    exact ⟨_, rfl, r⟩
  | _, _, .cons r t, i + 1, z, hz => RlL.get t i z hz
/-- a changer in the heap -/
def ChR (H : Hp) (c : Addr) (rs : List (Int × Str × Pa)) : Prop := ∃ n rt zs, H c = some (.tup [.int n, .ref rt]) ∧ H rt = some (.tup zs) ∧ RlL H zs rs ∧ rs.length ≤ 100 ∧ ∀ r ∈ rs, r.2.2.sz ≤ 20
theorem ChR.tk {H H' : Hp} {c : Addr} {rs : List (Int × Str × Pa)} (h : ChR H c rs) (k : TK H H') : ChR H' c rs := by
  obtain ⟨n, rt, zs, h1, h2, h3, h4⟩ := h
  exact ⟨n, rt, zs, k _ _ h1, k _ _ h2, h3.tk k, h4⟩
def spStraight : Sp := fun vs H Q _ => ∃ (c : Addr) (rs : List (Int × Str × Pa)), vs = [.ref c] ∧ ChR H c rs ∧ ∀ H', Same H H' → Q (.bl (rs.all fun r => decide (r.2.2.nk ≤ 1))) H'
set_option maxHeartbeats 2000000 in
theorem ok_straight (B : ∀ x ∈ blts, mg x = none) (g_kids_in : Has P w K mg base "kids_in" ["parts"] 23 (spKidsIn 22)) (F : Fun K "straight" "straight" s_straight f fd) : FnOk P w K mg base CX0 24 f fd ["changer"] spStraight := by
  refine F.ok sc_straight (fun vs H Q E h => ?_) (fun cdv A outer s H vs Q E hr h => ?_)
  · obtain ⟨c, rs, rfl, _⟩ := h
    rfl
  obtain ⟨c, rs, rfl, ⟨n, rt, zs, h1, h2, h3, h4, h5⟩, qq⟩ := h
  have hzl : zs.length = rs.length := Paired.length h3
  refine ⟨_, (pss_one (ps_ret (pe_callB (call_all rfl) rfl (B "all" (by decide)) bt_all (pa_cons (pe_comp (cl := []) ["mode", "tag", "parts"] [] (pi_tup (pe_ix ix_tup (pv 0) pe_int (fun _ _ => rfl))) (fun _ _ _ _ => (pg_tupK (K := K) (n := 3) rfl rfl (pgs_cons (pg_name (i := 0) (show List.Nodup (["mode", "tag", "parts"] : List Str) by decide) rfl (Or.inl rfl)) (pgs_cons (pg_name (i := 1) (show List.Nodup (["mode", "tag", "parts"] : List Str) by decide) rfl (Or.inl rfl)) (pgs_cons (pg_name (i := 2) (show List.Nodup (["mode", "tag", "parts"] : List Str) by decide) rfl (Or.inl rfl)) pgs_nil))))) (fun _ _ _ _ => (pe_cmpR op_le (pe_callB (call_len_seqK (K := K) rfl) rfl (B "len" (by decide)) PySem.boot_len (pa_cons (pe_has g_kids_in hr rfl (pa_cons (pv 2) pa_nil)) pa_nil)) pe_int (nomark _))) rfl rfl (by decide) rfl (by decide) (fun _ _ h => nomatch h) (nofree (by decide)) (fun _ _ h => nomatch h) (fun _ => rfl)) pa_nil)))), ?_⟩
  refine ⟨_, rfl, c, _, 1, _, rfl, rfl, SqT.of h1, rfl, rt, rfl, ⟨_, SqT.of h2⟩, fun pc hpc => comp_tup (K := K) (a := rt) (p := pc) (xs := zs) (fun i us σ H2 => ∃ (v0 v1 v2 : Option V), σ = [v0, v1, v2] ∧ Same H H2 ∧ H2 pc = some (.lst us) ∧ us = ((rs.take i).map fun r => decide (r.2.2.nk ≤ 1)).map V.bl)
    ⟨none, none, none, rfl, Same.new hpc, upd_same, rfl⟩ ?_ ?_ ?_⟩
  · rintro i us σ H2 _ ⟨_, _, _, _, s2, h, _⟩
    exact ⟨SqT.of (s2 _ _ h2), h⟩
  · rintro i us x σ H2 hi hx ⟨v0, v1, v2, rfl, s2, hp, rfl⟩
    obtain ⟨r, hr1, a, q, ys, rfl, g1, g2, g3⟩ := h3.get i x hx
    have hsz := h5 r (List.mem_of_getElem? hr1)
    have hdp := r.2.2.dep_le
    refine ⟨a, _, rfl, SqT.of (s2 _ _ g1), rfl, _, _, rfl, _, _, rfl, _, _, rfl, rfl, ?_⟩
    refine ⟨_, rfl, q, ys, r.2.2, rfl, s2 _ _ g2, g3.mono s2.tk, by (first | lia | omega), by (first | lia | omega), fun r' zr H3 s3 hr0 hr3 hk => ?_⟩
    have hkl : zr.length = r.2.2.nk := (Paired.length hk).trans (Pa.ks_len _)
    refine ⟨r', _, rfl, .inl (SqL.of hr3), _, _, rfl, rfl, s3 _ _ hp, len1000' (by rw [List.length_map, List.length_map, List.length_take]; (first | lia | omega)), CW.next hi ⟨_, _, _, rfl, (s2.trans s3).upd_new hpc, upd_same, ?_⟩⟩
    rw [take_succ' hr1, List.map_append, List.map_append]
    congr 1
    show [V.bl (decide ((zr.length : Int) ≤ 1))] = [V.bl (decide (r.2.2.nk ≤ 1))]
    congr 2
    rw [decide_eq_decide]
    (first | lia | omega)
  rintro us σ H2 ⟨v0, v1, v2, rfl, s2, hp, rfl⟩
  rw [hzl, List.take_length] at hp
  refine ⟨pc, _, rfl, SqL.of hp, ?_⟩
  have := qq H2 s2
  rw [show (rs.map fun r => decide (r.2.2.nk ≤ 1)).all id = rs.all fun r => decide (r.2.2.nk ≤ 1) by rw [List.all_map]; rfl]
  exact this
def knPut (f : Kn) (r : Int × Str × Pa) : Kn := fun i t => if i = r.1 ∧ t = r.2.1 then some r.2.2 else f i t
def knOf (rs : List (Int × Str × Pa)) : Kn := rs.foldl knPut fun _ _ => none
def rkey (i : Int) (t : Str) : List Key := [Sum.inl i, Sum.inr t]
theorem rkey_inj {i j : Int} {t u : Str} (h : rkey i t = rkey j u) : i = j ∧ t = u := by
  unfold rkey at h
  simpa using h
def spByRule : Sp := fun vs H Q _ => ∃ (c : Addr) (rs : List (Int × Str × Pa)), vs = [.ref c] ∧ ChR H c rs ∧ ∀ (d : Addr) (m : List (List Key × V)) (H' : Hp), Same H H' → H d = none → H' d = some (.dT m) → KnR H' m (knOf rs) → Q (.ref d) H'
/-- pairs, as they make a dict -/
def PkV (H : Hp) (y : V) (kv : List Key × V) (r : Int × Str × Pa) : Prop := (∃ t b, y = .ref t ∧ H t = some (.tup [.ref b, kv.2]) ∧ H b = some (.tup (kv.1.map kV))) ∧ kv.1 = rkey r.1 r.2.1 ∧ ∃ q ys, kv.2 = .ref q ∧ H q = some (.tup ys) ∧ RepP H ys r.2.2
inductive PkL (H : Hp) : List V → List (List Key × V) → List (Int × Str × Pa) → Prop
  | nil : PkL H [] [] []
  | cons {y : V} {kv : List Key × V} {r : Int × Str × Pa} {ys : List V} {kvs : List (List Key × V)} {rs : List (Int × Str × Pa)} : PkV H y kv r → PkL H ys kvs rs → PkL H (y :: ys) (kv :: kvs) (r :: rs)
theorem PkL.tk {H H' : Hp} (k : TK H H') : ∀ {ys : List V} {kvs : List (List Key × V)} {rs : List (Int × Str × Pa)}, PkL H ys kvs rs → PkL H' ys kvs rs
  | _, _, _, .nil => .nil
  | _, _, _, .cons ⟨⟨t, b, e1, e2, e3⟩, e4, q, zs, e5, e6, e7⟩ t' => .cons ⟨⟨t, b, e1, k _ _ e2, k _ _ e3⟩, e4, q, zs, e5, k _ _ e6, e7.mono k⟩ (t'.tk k)
theorem PkL.snoc {H : Hp} {y : V} {kv : List Key × V} {r : Int × Str × Pa} (h : PkV H y kv r) : ∀ {ys : List V} {kvs : List (List Key × V)} {rs : List (Int × Str × Pa)}, PkL H ys kvs rs → PkL H (ys ++ [y]) (kvs ++ [kv]) (rs ++ [r])
  | _, _, _, .nil => .cons h .nil
  | _, _, _, .cons r t => .cons r (t.snoc h)
theorem PkL.pairs {H : Hp} : ∀ {ys : List V} {kvs : List (List Key × V)} {rs : List (Int × Str × Pa)}, PkL H ys kvs rs → Paired (fun (y : V) (kv : List Key × V) => ∃ t b, y = .ref t ∧ H t = some (.tup [.ref b, kv.2]) ∧ H b = some (.tup (kv.1.map kV))) ys kvs ∧ ys.length = rs.length
  | _, _, _, .nil => ⟨.nil, rfl⟩
  | _, _, _, .cons r t => ⟨.cons r.1 t.pairs.1, by simp [t.pairs.2]⟩
theorem PkL.kn {H : Hp} : ∀ {ys : List V} {kvs : List (List Key × V)} {rs : List (Int × Str × Pa)} {m : List (List Key × V)} {f : Kn}, PkL H ys kvs rs → KnR H m f → KnR H (kvs.foldl (fun m kv => putK m kv.1 kv.2) m) (rs.foldl knPut f)
  | _, _, _, _, _, .nil, h => h
  | _, _, _, m, f, .cons (kv := kv) (r := r) ⟨_, e4, q, zs, e5, e6, e7⟩ t, h => by
    refine t.kn (m := putK m kv.1 kv.2) (f := knPut f r) fun i u => ?_
    show (valV (putK m kv.1 kv.2) (rkey i u) = none ∧ knPut f r i u = none) ∨ ∃ q ys p, valV (putK m kv.1 kv.2) (rkey i u) = some (.ref q) ∧ H q = some (.tup ys) ∧ RepP H ys p ∧ knPut f r i u = some p
    rw [valV_put, e4]
    unfold knPut
    by_cases c : i = r.1 ∧ u = r.2.1
    · rw [if_pos (by rw [c.1, c.2]), if_pos c]
      exact .inr ⟨q, zs, r.2.2, by rw [e5], e6, e7, rfl⟩
    · rw [if_neg (fun z => c (rkey_inj (i := i) (t := u) z)), if_neg c]
      exact h i u
set_option maxHeartbeats 2000000 in
theorem ok_parts_by_rule (B : ∀ x ∈ blts, mg x = none) (F : Fun K "parts_by_rule" "parts_by_rule" s_parts_by_rule f fd) : FnOk P w K mg base CX0 1 f fd ["changer"] spByRule := by
  refine F.ok sc_parts_by_rule (fun vs H Q E h => ?_) (fun cdv A outer s H vs Q E hr h => ?_)
  · obtain ⟨c, rs, rfl, _⟩ := h
    rfl
  obtain ⟨c, rs, rfl, ⟨n, rt, zs, h1, h2, h3, h4, h5⟩, qq⟩ := h
  have hu2 : (A.deeper (PyProof.Rows.envOfC (Str.ofString "parts_by_rule") (defScope s_parts_by_rule) s.heap.objs.size f cdv)).units + 2 < cLine := by have := hr.un; (first | lia | omega)
  have hzl : zs.length = rs.length := Paired.length h3
  refine ⟨_, (pss_one (ps_ret (pe_callTy (call_dict_listT rfl hu2) rfl (B "dict" (by decide)) bt_dict (pa_cons (pe_comp (cl := []) ["mode", "tag", "parts"] [] (pi_tup (pe_ix ix_tup (pv 0) pe_int (fun _ _ => rfl))) (fun _ _ _ _ => (pg_tupK (K := K) (n := 3) rfl rfl (pgs_cons (pg_name (i := 0) (show List.Nodup (["mode", "tag", "parts"] : List Str) by decide) rfl (Or.inl rfl)) (pgs_cons (pg_name (i := 1) (show List.Nodup (["mode", "tag", "parts"] : List Str) by decide) rfl (Or.inl rfl)) (pgs_cons (pg_name (i := 2) (show List.Nodup (["mode", "tag", "parts"] : List Str) by decide) rfl (Or.inl rfl)) pgs_nil))))) (fun _ _ _ _ => (pe_tup (pa_cons (pe_tup (pa_cons (pv 0) (pa_cons (pv 1) pa_nil))) (pa_cons (pv 2) pa_nil)))) rfl rfl (by decide) rfl (by decide) (fun _ _ h => nomatch h) (nofree (by decide)) (fun _ _ h => nomatch h) (fun _ => rfl)) pa_nil)))), ?_⟩
  refine ⟨_, rfl, c, _, 1, _, rfl, rfl, SqT.of h1, rfl, rt, rfl, ⟨_, SqT.of h2⟩, fun pc hpc => comp_tup (K := K) (a := rt) (p := pc) (xs := zs) (fun i us σ H2 => ∃ (v0 v1 v2 : Option V) (kvs : List (List Key × V)), σ = [v0, v1, v2] ∧ Same H H2 ∧ H2 pc = some (.lst us) ∧ PkL H2 us kvs (rs.take i))
    ⟨none, none, none, [], rfl, Same.new hpc, upd_same, .nil⟩ ?_ ?_ ?_⟩
  · rintro i us σ H2 _ ⟨_, _, _, _, _, s2, h, _⟩
    exact ⟨SqT.of (s2 _ _ h2), h⟩
  · rintro i us x σ H2 hi hx ⟨v0, v1, v2, kvs, rfl, s2, hp, hpk⟩
    obtain ⟨r, hr1, a, q, ys, rfl, g1, g2, g3⟩ := h3.get i x hx
    have hul := hpk.pairs.2
    rw [List.length_take] at hul
    refine ⟨a, _, rfl, SqT.of (s2 _ _ g1), rfl, _, _, rfl, _, _, rfl, _, _, rfl, rfl, ?_⟩
    refine ⟨_, rfl, _, rfl, (by show 2 ≤ sizeLine; decide), fun t1 ht1 => ⟨_, rfl, (by show 2 ≤ sizeLine; decide), fun t2 ht2 => ?_⟩⟩
    obtain ⟨n21, ht2'⟩ := upd_none ht2
    have s4 : Same H2 (upd (upd H2 t1 (.tup [.int r.1, .str r.2.1])) t2 (.tup [.ref t1, .ref q])) := (Same.new ht1).upd_new ht2'
    refine ⟨s4 _ _ hp, len1000' (by (first | lia | omega)), CW.next hi ⟨_, _, _, kvs ++ [(rkey r.1 r.2.1, .ref q)], rfl, (s2.trans s4).upd_new hpc, upd_same, ?_⟩⟩
    rw [take_succ' hr1]
    have tk := s4.tk.trans (TK.lst (o := .lst (us ++ [.ref t2])) (s4 _ _ hp))
    have nt2 : t2 ≠ pc := fun z => by rw [z, hp] at ht2'; cases ht2'
    have nt1 : t1 ≠ pc := fun z => by rw [z, hp] at ht1; cases ht1
    refine (hpk.tk tk).snoc ⟨⟨t2, t1, rfl, ?_, ?_⟩, rfl, q, ys, rfl, tk _ _ (s2 _ _ g2), (g3.mono s2.tk).mono tk⟩
    · rw [upd_ne nt2]
      exact upd_same
    · rw [upd_ne nt1, upd_ne n21.symm, upd_same]
      rfl
  rintro us σ H2 ⟨v0, v1, v2, kvs, rfl, s2, hp, hpk⟩
  rw [hzl, List.take_length] at hpk
  obtain ⟨hpp, hul⟩ := hpk.pairs
  refine ⟨pc, us, kvs, rfl, SqL.of hp, by (first | lia | omega), hpp, fun d hd => ?_⟩
  have s3 : Same H2 (upd H2 d (.dT (putAllT kvs))) := Same.new hd
  refine qq d (putAllT kvs) _ (s2.trans s3) (s2.free hd) upd_same ?_
  exact (hpk.kn (m := []) (f := fun _ _ => none) (fun i t => .inl ⟨rfl, rfl⟩)).tk s3.tk
def paD (kn : Kn) (m : Int) (t : Str) : Pa := (kn m t).getD (.tag t (.kids m .nil) .nil)
def spPartsFor : Sp := fun vs H Q _ => ∃ (d : Addr) (m : List (List Key × V)) (kn : Kn) (i : Int) (t : Str), vs = [.ref d, .int i, .str t] ∧ H d = some (.dT m) ∧ KnR H m kn ∧ ∀ (q : Addr) (ys : List V) (H' : Hp), Same H H' → H' q = some (.tup ys) → RepP H' ys (paD kn i t) → Q (.ref q) H'
set_option maxHeartbeats 2000000 in
theorem ok_parts_for (B : ∀ x ∈ blts, mg x = none) (F : Fun K "parts_for" "parts_for" s_parts_for f fd) : FnOk P w K mg base CX0 1 f fd ["known", "mode", "tag"] spPartsFor := by
  refine F.ok sc_parts_for (fun vs H Q E h => ?_) (fun cdv A outer s H vs Q E hr h => ?_)
  · obtain ⟨d, m, kn, i, t, rfl, _⟩ := h
    rfl
  obtain ⟨d, m, kn, i, t, rfl, hd, hkn, qq⟩ := h
  have hu1 : (A.deeper (PyProof.Rows.envOfC (Str.ofString "parts_for") (defScope s_parts_for) s.heap.objs.size f cdv)).units + 1 < cLine := by have := hr.un; (first | lia | omega)
  refine ⟨_, (pss_one (ps_ret (pe_dget2 hu1 (pv 0) (pe_tup (pa_cons (pv 1) (pa_cons (pv 2) pa_nil))) (pe_tup (pa_cons (pe_tup (pa_cons pe_str (pa_cons (pv 2) (pa_cons (pe_tup (pa_cons (pe_tup (pa_cons pe_str (pa_cons (pv 1) pa_nil))) pa_nil)) pa_nil)))) pa_nil)) ⟨rfl, rfl, rfl, rfl⟩))), ?_⟩
  refine ⟨_, rfl, d, rfl, .inr ⟨m, .inl hd⟩, _, rfl, _, rfl, (by show 2 ≤ sizeLine; decide), fun t1 ht1 => ?_⟩
  refine ⟨_, rfl, _, rfl, (by show 2 ≤ sizeLine; decide), fun t2 ht2 => ⟨(by show 1 ≤ sizeLine; decide), fun t3 ht3 => ⟨(by show 3 ≤ sizeLine; decide), fun t4 ht4 => ⟨(by show 1 ≤ sizeLine; decide), fun t5 ht5 => ?_⟩⟩⟩⟩
  obtain ⟨n21, ht2a⟩ := upd_none ht2
  obtain ⟨n32, ht3a⟩ := upd_none ht3
  obtain ⟨n31, ht3b⟩ := upd_none ht3a
  obtain ⟨n43, ht4a⟩ := upd_none ht4
  obtain ⟨n42, ht4b⟩ := upd_none ht4a
  obtain ⟨n41, ht4c⟩ := upd_none ht4b
  obtain ⟨n54, ht5a⟩ := upd_none ht5
  obtain ⟨n53, ht5b⟩ := upd_none ht5a
  obtain ⟨n52, ht5c⟩ := upd_none ht5b
  obtain ⟨n51, ht5d⟩ := upd_none ht5c
  have s5 : Same H (upd (upd (upd (upd (upd H t1 (.tup [.int i, .str t])) t2 (.tup [.str "kids", .int i])) t3 (.tup [.ref t2])) t4 (.tup [.str "tag", .str t, .ref t3])) t5 (.tup [.ref t4])) := ((((Same.new ht1).upd_new ht2a).upd_new ht3b).upd_new ht4c).upd_new ht5d
  have x1 : (upd (upd (upd (upd (upd H t1 (.tup [.int i, .str t])) t2 (.tup [.str "kids", .int i])) t3 (.tup [.ref t2])) t4 (.tup [.str "tag", .str t, .ref t3])) t5 (.tup [.ref t4])) t1 = some (.tup ((rkey i t).map kV)) := by
    rw [upd_ne n51.symm, upd_ne n41.symm, upd_ne n31.symm, upd_ne n21.symm, upd_same]
    rfl
  have x2 : (upd (upd (upd (upd (upd H t1 (.tup [.int i, .str t])) t2 (.tup [.str "kids", .int i])) t3 (.tup [.ref t2])) t4 (.tup [.str "tag", .str t, .ref t3])) t5 (.tup [.ref t4])) t2 = some (.tup [.str "kids", .int i]) := by
    rw [upd_ne n52.symm, upd_ne n42.symm, upd_ne n32.symm, upd_same]
  have x3 : (upd (upd (upd (upd (upd H t1 (.tup [.int i, .str t])) t2 (.tup [.str "kids", .int i])) t3 (.tup [.ref t2])) t4 (.tup [.str "tag", .str t, .ref t3])) t5 (.tup [.ref t4])) t3 = some (.tup [.ref t2]) := by
    rw [upd_ne n53.symm, upd_ne n43.symm, upd_same]
  have x4 : (upd (upd (upd (upd (upd H t1 (.tup [.int i, .str t])) t2 (.tup [.str "kids", .int i])) t3 (.tup [.ref t2])) t4 (.tup [.str "tag", .str t, .ref t3])) t5 (.tup [.ref t4])) t4 = some (.tup [.str "tag", .str t, .ref t3]) := by
    rw [upd_ne n54.symm, upd_same]
  have x5 : (upd (upd (upd (upd (upd H t1 (.tup [.int i, .str t])) t2 (.tup [.str "kids", .int i])) t3 (.tup [.ref t2])) t4 (.tup [.str "tag", .str t, .ref t3])) t5 (.tup [.ref t4])) t5 = some (.tup [.ref t4]) := upd_same
  refine ⟨_, DGet.t (k := rkey i t) (s5 _ _ hd) x1, ?_⟩
  rcases hkn i t with ⟨e1, e2⟩ | ⟨q, ys, p, e1, e2, e3, e4⟩
  · have e1' : valV m (rkey i t) = none := e1
    rw [e1']
    refine qq t5 [.ref t4] _ s5 x5 ?_
    unfold paD
    rw [e2]
    exact .tag x4 x3 (.kids x2 .nil) .nil
  · have e1' : valV m (rkey i t) = some (.ref q) := e1
    rw [e1']
    refine qq q ys _ s5 (s5 _ _ e2) ?_
    unfold paD
    rw [e4]
    exact e3.mono s5.tk
def spWordsP (d : Nat) : Sp := fun vs H Q _ => ∃ (q : Addr) (ys : List V) (p : Pa), vs = [.ref q] ∧ H q = some (.tup ys) ∧ RepP H ys p ∧ p.dep < d ∧ p.sz ≤ 1000 ∧ ∀ (r : Addr) (zs : List V) (H' : Hp), Same H H' → H r = none → H' r = some (.lst zs) → WdL H' zs p.spl → Q (.ref r) H'
set_option maxHeartbeats 2000000 in
theorem ok_words_of_parts (d : Nat) (B : ∀ x ∈ blts, mg x = none) (g_words_of_parts : Has P w K mg base "words_of_parts" ["parts"] d (spWordsP d)) (F : Fun K "words_of_parts" "words_of_parts" s_words_of_parts f fd) : FnOk P w K mg base CX0 (d + 1) f fd ["parts"] (spWordsP (d + 1)) := by
  refine F.ok sc_words_of_parts (fun vs H Q E h => ?_) (fun cdv A outer s H vs Q E hr h => ?_)
  · obtain ⟨q, ys, p, rfl, _⟩ := h
    rfl
  obtain ⟨q, ys, p, rfl, hq, hP, hd, hz, qq⟩ := h
  have hpl := hP.length
  refine ⟨_, (pss_cons (ps_set (i := 1) sc_words_of_parts.nd rfl (Or.inl rfl) (pe_lst pa_nil))
    (pss_cons (ps_for PassesOwn.never rfl (pi_tup (pv 0)) (pg_name (i := 2) sc_words_of_parts.nd rfl (Or.inl rfl))
      (pss_one (ps_if (pt_cmpR op_eq (pe_ix ix_tup (pv 2) pe_int (fun _ _ => rfl)) pe_str (nomark _))
          (pss_one (ps_expr (pe_bm PySem.F.plainAttrs_list PySem.F.slot_list_append PySem.F.type_list_append mt_append (pv 1) (pa_cons (pv 2) pa_nil))))
          (pss_one (ps_expr (pe_bm PySem.F.plainAttrs_list PySem.F.slot_list_extend PySem.F.type_list_extend mt_extend (pv 1) (pa_cons (pe_op op_cat (pe_op op_cat (pe_lst (pa_cons (pe_ix ix_tup (pv 2) pe_int (fun _ _ => rfl)) pa_nil)) (pe_has g_words_of_parts hr rfl (pa_cons (pe_ix ix_tup (pv 2) pe_int (fun _ _ => rfl)) pa_nil) (by (first | lia | omega)))) (pe_lst (pa_cons pe_str pa_nil))) pa_nil)))))))
    (pss_one (ps_ret (pv 1))))), ?_⟩
  refine ⟨by decide, fun L hL => ?_⟩
  have s0 : Same H (upd H L (.lst [])) := Same.new hL
  refine ⟨_, rfl, q, rfl, ⟨_, SqT.of (s0 _ _ hq)⟩, for_tup (K := K) (a := q) (xs := ys) (fun i σ H1 => ∃ (v2 : Option V) (zs : List V), σ = [some (.ref q), some (.ref L), v2] ∧ Same H H1 ∧ H1 L = some (.lst zs) ∧ WdL H1 zs (p.take i).spl)
    ⟨none, [], rfl, s0, upd_same, .nil⟩ ?_ ?_ ?_⟩
  · rintro i σ H1 _ ⟨_, _, _, s1, _⟩
    exact SqT.of (s1 _ _ hq)
  · rintro i x σ H1 hx ⟨v2, zs, rfl, s1, hL1, hzs⟩
    obtain ⟨a, rfl, ha⟩ := hP.at i x hx
    have hts := p.take_sz i
    have hzl := Paired.length hzs
    have hsl := (p.take i).spl_len
    rcases ha with ⟨m, h1, h2⟩ | ⟨t, q', ys', w', h1, h2, h3, h4, h5, h6⟩
    · have h1' := s1 _ _ h1
      refine ⟨_, rfl, a, _, 0, _, rfl, rfl, SqT.of h1', rfl, rfl, _, rfl, iteT ?_⟩
      refine ⟨_, rfl, .inl ⟨rfl, _, SqL.of hL1⟩, _, rfl, L, _, _, rfl, rfl, hL1, len1000' (by (first | lia | omega)), ?_⟩
      have tk : TK H1 (upd H1 L (.lst (zs ++ [.ref a]))) := TK.lst hL1
      refine ⟨_, _, rfl, s1.upd_new hL, upd_same, ?_⟩
      rw [h2, Pa.spl_app]
      exact (hzs.tk tk).app (.cons ⟨a, rfl, tk _ _ h1'⟩ .nil)
    · have h1' := s1 _ _ h1
      have hwl := w'.spl_len
      refine ⟨_, rfl, a, _, 0, _, rfl, rfl, SqT.of h1', rfl, rfl, _, rfl, iteF ?_⟩
      refine ⟨_, rfl, .inl ⟨rfl, _, SqL.of hL1⟩, _, rfl, a, _, 1, _, rfl, rfl, SqT.of h1', rfl, (by show 1 ≤ sizeLine; decide), fun l1 hl1 => ?_⟩
      have s2 : Same H1 (upd H1 l1 (.lst [.str t])) := Same.new hl1
      have s12 := s1.trans s2
      refine ⟨_, rfl, a, _, 2, _, rfl, rfl, SqT.of (s2 _ _ h1'), rfl, q', ys', w', rfl, s12 _ _ h2, h3.mono s12.tk, by (first | lia | omega), by (first | lia | omega), fun r zr H3 s3 hr0 hr3 hzr => ?_⟩
      have hrl := Paired.length hzr
      refine ⟨l1, r, _, _, rfl, rfl, s3 _ _ upd_same, hr3, len1000 (by show 1 + _ ≤ _; (first | lia | omega)), fun l2 hl2 => ⟨(by show 1 ≤ sizeLine; decide), fun l3 hl3 => ?_⟩⟩
      obtain ⟨n32, hl3a⟩ := upd_none hl3
      refine ⟨l2, l3, _, _, rfl, rfl, by rw [upd_ne n32.symm]; exact upd_same, upd_same, len1000 (by rw [List.length_append]; show 1 + _ + 1 ≤ _; (first | lia | omega)), fun l4 hl4 => ?_⟩
      obtain ⟨n43, hl4a⟩ := upd_none hl4
      obtain ⟨n42, hl4b⟩ := upd_none hl4a
      have s5 : Same H3 (upd (upd (upd H3 l2 (.lst ([.str t] ++ zr))) l3 (.lst [.str SL])) l4 (.lst ([.str t] ++ zr ++ [.str SL]))) := ((Same.new hl2).upd_new hl3a).upd_new hl4b
      have hL5 := s5 _ _ (s3 _ _ (s2 _ _ hL1))
      refine ⟨L, l4, _, _, rfl, rfl, hL5, upd_same, len1000 (by rw [List.length_append, List.length_append]; show _ + (1 + _ + 1) ≤ _; (first | lia | omega)), ?_⟩
      have s15 := (s2.trans s3).trans s5
      refine ⟨_, _, rfl, (s1.trans s15).upd_new hL, upd_same, ?_⟩
      rw [h4, Pa.spl_app]
      have tk6 := TK.lst (o := .lst (zs ++ ([.str t] ++ zr ++ [.str SL]))) hL5
      have e : Pa.spl (Pa.tag t w' .nil) = [Sum.inl t] ++ w'.spl ++ [Sum.inl SL] := by simp [Pa.spl]
      rw [e]
      exact ((hzs.tk s15.tk).tk tk6).app (((WdL.app (WdL.strs [t]) ((hzr.tk s5.tk).tk tk6))).app (WdL.strs [SL]))
  · rintro σ H1 ⟨v2, zs, rfl, s1, hL1, hzs⟩
    rw [hP.take_all] at hzs
    exact ⟨_, rfl, qq L zs H1 s1 hL hL1 hzs⟩
def spStInit (C : Addr) : Sp := fun vs H Q _ => ∃ (a c dx : Addr) (rs : List (Int × Str × Pa)), vs = [.ref a, .ref c] ∧ H a = some (.ins C dx []) ∧ ChR H c rs ∧ (∀ r ∈ rs, r.2.2.nk ≤ 1 ∧ ∀ x ∈ r.2.2.tags, PyData.strOk x = true) ∧
  ∀ (H' : Hp) (dk Bl : Addr), KeepX [a] H H' → H dk = none → H Bl = none → StAt C H' a dk Bl [] (knOf rs) [] 0 → Q .non H'
theorem knOf_in {rs : List (Int × Str × Pa)} {i : Int} {t : Str} {p : Pa} : knOf rs i t = some p → ∃ r ∈ rs, r.1 = i ∧ r.2.1 = t ∧ r.2.2 = p := by
  have go : ∀ (rs : List (Int × Str × Pa)) (f : Kn), rs.foldl knPut f i t = some p → f i t = some p ∨ ∃ r ∈ rs, r.1 = i ∧ r.2.1 = t ∧ r.2.2 = p := by
    intro rs
    induction rs with
    | nil => exact fun f h => .inl h
    | cons r rs ih =>
      intro f h
      rcases ih (knPut f r) h with h | ⟨r', hr, e⟩
      · unfold knPut at h
        by_cases c : i = r.1 ∧ t = r.2.1
        · rw [if_pos c] at h
          injection h with h
          exact .inr ⟨r, List.mem_cons_self .., c.1.symm, c.2.symm, h⟩
        · rw [if_neg c] at h
          exact .inl h
      · exact .inr ⟨r', List.mem_cons_of_mem _ hr, e⟩
  intro h
  rcases go rs _ h with h | h
  · cases h
  · exact h
set_option maxHeartbeats 2000000 in
theorem ok_Stream___init__ {C : Addr} (B : ∀ x ∈ blts, mg x = none) (c_Stream : StC K C) (g_straight : Has P w K mg base "straight" ["changer"] 24 spStraight) (g_parts_by_rule : Has P w K mg base "parts_by_rule" ["changer"] 1 spByRule) (F : Fun K "__init__" "Stream.__init__" s_Stream___init__ f fd) : FnOk P w K mg base CX0 25 f fd ["self", "changer"] (spStInit C) := by
  refine F.ok sc_Stream___init__ (fun vs H Q E h => ?_) (fun cdv A outer s H vs Q E hr h => ?_)
  · obtain ⟨a, c, dx, rs, rfl, _⟩ := h
    rfl
  obtain ⟨a, c, dx, rs, rfl, hA, hC, hrs, qq⟩ := h
  refine ⟨_, (pss_cons (ps_if (pt_not (pt_truth (pe_has g_straight hr rfl (pa_cons (pv 1) pa_nil)) (fun _ => rfl)))
      (pss_one ps_never)
      pss_nil)
    (pss_cons (ps_fld (pv 0) (pe_has g_parts_by_rule hr rfl (pa_cons (pv 1) pa_nil)) rfl)
    (pss_cons (ps_fld (pv 0) pe_int rfl)
    (pss_one (ps_fld (pv 0) (pe_lst pa_nil) rfl))))), ?_⟩
  refine ⟨_, rfl, c, rs, rfl, hC, fun H1 s1 => ⟨true, ?_, iteF ?_⟩⟩
  · show true = _
    symm
    rw [List.all_eq_true]
    exact fun r hr => decide_eq_true (hrs r hr).1
  refine ⟨_, rfl, c, rs, rfl, hC.tk s1.tk, fun dk m H2 s2 hdk hdk2 hkn => ?_⟩
  have s12 := s1.trans s2
  have hA2 := s12 _ _ hA
  have ndk : dk ≠ a := fun z => by rw [z, s1 _ _ hA] at hdk; cases hdk
  refine ⟨_, rfl, a, C, dx, _, rfl, hA2, c_Stream.cls, c_Stream.n1, by decide, ?_⟩
  refine ⟨_, rfl, a, C, dx, _, rfl, upd_same, c_Stream.cls, c_Stream.n2, (show 1 < 1000 by decide), ?_⟩
  rw [upd_upd]
  refine ⟨by decide, fun Bl hBg => ?_⟩
  obtain ⟨nBa, hBg2⟩ := upd_none hBg
  refine ⟨_, rfl, a, C, dx, putF "taken" (.int 0) (putF "known" (.ref dk) []), rfl, by rw [upd_ne nBa.symm]; exact upd_same, c_Stream.cls, c_Stream.n3, (show 2 < 1000 by decide), ?_⟩
  have x9 : (upd (upd (upd H2 a (.ins C dx (putF "taken" (.int 0) (putF "known" (.ref dk) [])))) Bl (.lst [])) a (.ins C dx (putF "begun" (.ref Bl) (putF "taken" (.int 0) (putF "known" (.ref dk) []))))) a = some (.ins C dx (stF dk Bl 0)) := by
    rw [upd_same]
    rfl
  have k9 : KeepX [a] H2 (upd (upd (upd H2 a (.ins C dx (putF "taken" (.int 0) (putF "known" (.ref dk) [])))) Bl (.lst [])) a (.ins C dx (putF "begun" (.ref Bl) (putF "taken" (.int 0) (putF "known" (.ref dk) []))))) := fun b o hb e => by
    have hb' : b ≠ a := fun z => hb (List.mem_singleton.mpr z)
    rw [upd_ne hb', upd_ne (ne_of_none e hBg2), upd_ne hb']
    exact e
  have b9 : (upd (upd (upd H2 a (.ins C dx (putF "taken" (.int 0) (putF "known" (.ref dk) [])))) Bl (.lst [])) a (.ins C dx (putF "begun" (.ref Bl) (putF "taken" (.int 0) (putF "known" (.ref dk) []))))) Bl = some (.lst []) := by
    rw [upd_ne nBa]
    exact upd_same
  have tk9 : TK H2 (upd (upd (upd H2 a (.ins C dx (putF "taken" (.int 0) (putF "known" (.ref dk) [])))) Bl (.lst [])) a (.ins C dx (putF "begun" (.ref Bl) (putF "taken" (.int 0) (putF "known" (.ref dk) []))))) := fun b xs e => k9 b _ (fun z => by rw [List.mem_singleton.mp z, hA2] at e; cases e) e
  refine qq _ dk Bl (fun b o hb e => k9 b o hb (s12 _ _ e)) (s1.free hdk) (s12.free hBg2) ⟨⟨fun i t p h => ?_, fun i t p h => ?_, fun i t p h => ?_⟩, ⟨dx, x9⟩, ⟨m, k9 _ _ (fun z => ndk (List.mem_singleton.mp z)) hdk2, hkn.tk tk9⟩, ⟨[], b9, .nil⟩, by simp, fun _ h => (nomatch h)⟩
  · obtain ⟨r, hr, _, _, rfl⟩ := knOf_in h
    exact (hrs r hr).1
  · obtain ⟨r, hr, _, _, rfl⟩ := knOf_in h
    obtain ⟨_, _, _, _, _, _, _, h5⟩ := hC
    exact h5 r hr
  · obtain ⟨r, hr, _, _, rfl⟩ := knOf_in h
    exact (hrs r hr).2
/-- a new open tag -/
def spBegin (C : Addr) : Sp := fun vs H Q _ => ∃ (a dk Bl : Addr) (ls : List Addr) (kn : Kn) (bs : Bg) (n : Int) (m : Option Int) (t : Str), vs = [.ref a, moV m, .str t] ∧ StAt C H a dk Bl ls kn bs n ∧ bs.length ≤ 900 ∧ PyData.strOk t = true ∧
  ∀ (r l : Addr) (H' : Hp), KeepX [Bl] H H' → H r = none → H l = none → r ≠ l → H' r = some (.lst ((rlS kn m t).1.map V.str)) → StAt C H' a dk Bl (ls ++ [l]) kn (bs ++ [(rlS kn m t).2]) n → Q (.ref r) H'
theorem rls_some {kn : Kn} (ok : KnOk kn) {m : Int} {t : Str} (ht : PyData.strOk t = true) : (paD kn m t).nk ≤ 1 ∧ (paD kn m t).sz ≤ 20 ∧ (∀ x ∈ (paD kn m t).tags, PyData.strOk x = true) ∧ rlS kn (some m) t = cutW (paD kn m t).spl := by
  unfold paD
  show _ ∧ _ ∧ _ ∧ (match kn m t with | none => ([t], some m, [SL]) | some p => cutW p.spl) = _
  cases h : kn m t with
  | none =>
    refine ⟨(show 1 ≤ 1 by decide), (show 2 ≤ 20 by decide), fun x hx => ?_, rfl⟩
    have : x = t := by simpa [Pa.tags] using hx
    rw [this]
    exact ht
  | some p => exact ⟨ok.one _ _ _ h, ok.sz _ _ _ h, ok.ok _ _ _ h, rfl⟩
theorem spl_ok : ∀ {p : Pa}, (∀ x ∈ p.tags, PyData.strOk x = true) → ∀ s : Str, Sum.inl s ∈ p.spl → PyData.strOk s = true
  | .nil, _, s, h => by cases h
  | .kids m o, hp, s, h => by
    rcases List.mem_cons.mp h with h | h
    · cases h
    · exact spl_ok (p := o) hp s h
  | .tag t w o, hp, s, h => by
    rcases List.mem_cons.mp h with h | h
    · injection h with h
      rw [h]
      exact hp t (List.mem_cons_self ..)
    · rcases List.mem_append.mp h with h | h
      · exact spl_ok (p := w) (fun x hx => hp x (List.mem_cons_of_mem _ (List.mem_append_left _ hx))) s h
      · rcases List.mem_cons.mp h with h | h
        · injection h with h
          rw [h]
          exact sl_ok
        · exact spl_ok (p := o) (fun x hx => hp x (List.mem_cons_of_mem _ (List.mem_append_right _ hx))) s h
set_option maxHeartbeats 4000000 in
theorem ok_Stream_take_begin {C : Addr} (B : ∀ x ∈ blts, mg x = none) (c_Stream : StC K C) (g_parts_for : Has P w K mg base "parts_for" ["known", "mode", "tag"] 1 spPartsFor) (g_words_of_parts : Has P w K mg base "words_of_parts" ["parts"] 22 (spWordsP 22)) (g_kids_in : Has P w K mg base "kids_in" ["parts"] 23 (spKidsIn 22)) (F : Fun K "take_begin" "Stream.take_begin" s_Stream_take_begin f fd) : FnOk P w K mg base CX0 24 f fd ["self", "mode", "tag"] (spBegin C) := by
  refine F.ok sc_Stream_take_begin (fun vs H Q E h => ?_) (fun cdv A outer s H vs Q E hr h => ?_)
  · obtain ⟨a, dk, Bl, ls, kn, bs, n, m, t, rfl, _⟩ := h
    rfl
  obtain ⟨a, dk, Bl, ls, kn, bs, n, m, t, rfl, hS, hbl, hto, qq⟩ := h
  have hu := hu_room hr
  have hu20 : (A.deeper (PyProof.Rows.envOfC (Str.ofString "Stream.take_begin") (defScope s_Stream_take_begin) s.heap.objs.size f cdv)).units + 20 < cLine := by (first | lia | omega)
  obtain ⟨dx, h1⟩ := hS.ho
  obtain ⟨km, h2, h3⟩ := hS.hk
  obtain ⟨zs, h4, h5⟩ := hS.hb
  have hzl := h5.len.1
  refine ⟨_, (pss_cons (ps_if (pt_cmpR op_isN (pv 1) pe_non (nomark _))
      (pss_cons (ps_expr (pe_bm PySem.F.plainAttrs_list PySem.F.slot_list_append PySem.F.type_list_append mt_append (pe_fld (pv 0) rfl) (pa_cons (pe_tup (pa_cons pe_non (pa_cons (pe_lst pa_nil) pa_nil))) pa_nil)))
        (pss_one (ps_ret (pe_lst pa_nil))))
      pss_nil)
    (pss_cons (ps_set (i := 3) sc_Stream_take_begin.nd rfl (Or.inl rfl) (pe_has g_parts_for hr rfl (pa_cons (pe_fld (pv 0) rfl) (pa_cons (pv 1) (pa_cons (pv 2) pa_nil)))))
    (pss_cons (ps_set (i := 4) sc_Stream_take_begin.nd rfl (Or.inl rfl) (pe_has g_words_of_parts hr rfl (pa_cons (pv 3) pa_nil)))
    (pss_cons (ps_set (i := 5) sc_Stream_take_begin.nd rfl (Or.inl rfl) (pe_has g_kids_in hr rfl (pa_cons (pv 3) pa_nil)))
    (pss_cons (ps_if (pt_not (pt_truth (pv 5) (fun _ => rfl)))
      (pss_cons (ps_expr (pe_bm PySem.F.plainAttrs_list PySem.F.slot_list_append PySem.F.type_list_append mt_append (pe_fld (pv 0) rfl) (pa_cons (pe_tup (pa_cons pe_non (pa_cons (pe_lst pa_nil) pa_nil))) pa_nil)))
        (pss_one (ps_ret (pv 4))))
      pss_nil)
    (pss_cons (ps_set (i := 6) sc_Stream_take_begin.nd rfl (Or.inl rfl) (pe_bm PySem.F.plainAttrs_list PySem.F.slot_list_index PySem.F.type_list_index (mt_indexT hu20 (K := K) rfl) (pv 4) (pa_cons (pe_ix ix_list (pv 5) pe_int (fun _ _ => rfl)) pa_nil)))
    (pss_cons (ps_expr (pe_bm PySem.F.plainAttrs_list PySem.F.slot_list_append PySem.F.type_list_append mt_append (pe_fld (pv 0) rfl) (pa_cons (pe_tup (pa_cons (pe_ix ix_tup (pe_ix ix_list (pv 5) pe_int (fun _ _ => rfl)) pe_int (fun _ _ => rfl)) (pa_cons (pe_slice sl_list (pv 4) (po_some (pe_op op_add (pv 6) pe_int)) po_none) pa_nil))) pa_nil)))
    (pss_one (ps_ret (pe_slice sl_list (pv 4) po_none (po_some (pv 6)))))))))))), ?_⟩
  -- a new open tag of which nothing comes
  have new0 : ∀ (H1 : Hp), Same H H1 → ∀ l, H1 l = none → ∀ t', (upd H1 l (.lst [])) t' = none → StAt C (upd (upd (upd H1 l (.lst [])) t' (.tup [.non, .ref l])) Bl (.lst (zs ++ [.ref t']))) a dk Bl (ls ++ [l]) kn (bs ++ [(none, [])]) n ∧ KeepX [Bl] H (upd (upd (upd H1 l (.lst [])) t' (.tup [.non, .ref l])) Bl (.lst (zs ++ [.ref t']))) := fun H1 s1 l hl t' ht' => by
    obtain ⟨ntl, ht0⟩ := upd_none ht'
    have s2 : Same H (upd (upd H1 l (.lst [])) t' (.tup [.non, .ref l])) := (s1.upd_new (s1.free hl)).upd_new (s1.free ht0)
    refine ⟨(hS.same s2).opened (b := (none, [])) (s2 _ _ h4) upd_same (by rw [upd_ne ntl.symm]; exact upd_same) (hS.free (s1.free hl)) (fun _ h => nomatch h), fun b o hb e => ?_⟩
    rw [upd_ne (fun z => hb (List.mem_singleton.mpr z))]
    exact s2 _ _ e
  cases m with
  | none =>
    refine ⟨_, rfl, rfl, _, rfl, iteT ?_⟩
    refine ⟨_, rfl, a, C, dx, _, _, rfl, h1, c_Stream.cls, c_Stream.n3, rfl, .inl ⟨rfl, _, SqL.of h4⟩, by decide, fun l hl => ⟨(by show 2 ≤ sizeLine; decide), fun t' ht' => ?_⟩⟩
    obtain ⟨ntl, ht0⟩ := upd_none ht'
    have s2 : Same H (upd (upd H l (.lst [])) t' (.tup [.non, .ref l])) := (Same.new hl).upd_new ht0
    refine ⟨Bl, _, _, rfl, rfl, s2 _ _ h4, len1000' (by (first | lia | omega)), ?_⟩
    refine ⟨by decide, fun r hr' => ?_⟩
    obtain ⟨g1, g2⟩ := new0 H (Same.refl H) l hl t' ht'
    have hrB := upd_none hr'
    obtain ⟨nrB, hr1⟩ := upd_none hr'
    obtain ⟨nrt, hr2⟩ := upd_none hr1
    obtain ⟨nrl, hr3⟩ := upd_none hr2
    have s9 := Same.new (o := .lst []) hr'
    exact qq r l _ (fun b o hb e => s9 _ _ (g2 b o hb e)) hr3 hl nrl upd_same (g1.same s9)
  | some m =>
    obtain ⟨r1, r2, r3, r4⟩ := rls_some hS.ok (m := m) hto
    have hdp := (paD kn m t).dep_le
    refine ⟨_, rfl, rfl, _, rfl, iteF ?_⟩
    refine ⟨_, rfl, a, C, dx, _, _, rfl, h1, c_Stream.cls, c_Stream.n1, rfl, _, rfl, _, rfl, dk, km, kn, m, t, rfl, h2, h3, fun q ys H1 s1 hq hP => ?_⟩
    refine ⟨_, rfl, q, ys, _, rfl, hq, hP, by (first | lia | omega), by (first | lia | omega), fun W ws H2 s2 hW0 hW2 hWd => ?_⟩
    refine ⟨_, rfl, q, ys, _, rfl, s2 _ _ hq, hP.mono s2.tk, by (first | lia | omega), by (first | lia | omega), fun kd kz H3 s3 hkd0 hkd3 hKd => ?_⟩
    have s13 := (s1.trans s2).trans s3
    have hW3 := s3 _ _ hW2
    have hWd3 := hWd.tk s3.tk
    have hwl := Paired.length hWd
    have hsl := (paD kn m t).spl_len
    by_cases c : (paD kn m t).nk = 0
    · obtain ⟨ts, e1, e2⟩ := (spl_cut (paD kn m t)).1 c
      rw [e1, cutW_none] at r4
      rw [e1] at hWd3
      obtain rfl := hWd3.to
      rw [e2] at hKd
      cases hKd
      refine ⟨_, rfl, _, .inl ⟨[], SqL.of hkd3, rfl⟩, iteT ?_⟩
      refine ⟨_, rfl, a, C, dx, _, _, rfl, s13 _ _ h1, c_Stream.cls, c_Stream.n3, rfl, .inl ⟨rfl, _, SqL.of (s13 _ _ h4)⟩, by decide, fun l hl => ⟨(by show 2 ≤ sizeLine; decide), fun t' ht' => ?_⟩⟩
      obtain ⟨ntl, ht0⟩ := upd_none ht'
      have s2' : Same H (upd (upd H3 l (.lst [])) t' (.tup [.non, .ref l])) := (s13.upd_new (s13.free hl)).upd_new (s13.free ht0)
      refine ⟨Bl, _, _, rfl, rfl, s2' _ _ h4, len1000' (by (first | lia | omega)), ?_⟩
      obtain ⟨g1, g2⟩ := new0 H3 s13 l hl t' ht'
      have nWl : W ≠ l := ne_of_none hW3 hl
      have nWt : W ≠ t' := ne_of_none hW3 ht0
      have nWB : W ≠ Bl := fun z => by
        have := (s1 _ _ h4)
        rw [← z, hW0] at this
        cases this
      refine ⟨_, rfl, qq W l _ g2 (s1.free hW0) (s13.free hl) nWl ?_ ?_⟩
      · rw [r4, upd_ne nWB, upd_ne nWt, upd_ne nWl]
        exact hW3
      · rw [r4]
        exact g1
    · obtain ⟨ta, tb, mk, e1, e2⟩ := (spl_cut (paD kn m t)).2 (by (first | lia | omega))
      have oka : ∀ x ∈ ta, PyData.strOk x = true := fun x hx => spl_ok r3 x (by rw [e1]; exact List.mem_append_left _ (List.mem_map.mpr ⟨x, hx, rfl⟩))
      have okb : ∀ x ∈ tb, PyData.strOk x = true := fun x hx => spl_ok r3 x (by rw [e1]; exact List.mem_append_right _ (List.mem_cons_of_mem _ (List.mem_map.mpr ⟨x, hx, rfl⟩)))
      rw [e1, cutW_some] at r4
      rw [e1] at hWd3 hsl hwl
      rw [List.length_append, List.length_cons, List.length_map, List.length_map] at hsl hwl
      rw [e2] at hKd
      -- the words, cut
      have cutA : ∀ {ta : List Str} {ws : List V}, WdL H3 ws (ta.map Sum.inl ++ .inr mk :: tb.map Sum.inl) → ∃ k, ws = ta.map V.str ++ .ref k :: tb.map V.str ∧ H3 k = some (.tup [.str "kids", .int mk]) := by
        intro ta
        induction ta with
        | nil =>
          intro ws h
          cases h with
          | cons r t =>
            obtain ⟨k, e, hk⟩ := r
            have ht : WdL H3 _ (tb.map Sum.inl) := t
            exact ⟨k, by rw [e, ht.to]; rfl, hk⟩
        | cons x ta ih =>
          intro ws h
          cases h with
          | cons r t =>
            obtain ⟨k, e, hk⟩ := ih t
            have e0 : _ = V.str x := r
            exact ⟨k, by rw [e0, e]; rfl, hk⟩
      obtain ⟨k, rfl, hk⟩ := cutA hWd3
      cases hKd with
      | cons r rt =>
        cases rt
        obtain ⟨ka, rfl, hka⟩ := r
        refine ⟨_, rfl, _, .inl ⟨[.ref ka], SqL.of hkd3, rfl⟩, iteF ?_⟩
        have dpk : ∀ x, H3 x = some (.tup [.str "kids", .int mk]) → Dp K H3 (.ref x) (.tuple [.str "kids", .int mk]) := fun x hx => .tup (SqT.of hx) (.cons (.str _) (.cons (.int _) .nil))
        refine ⟨_, rfl, .inl ⟨rfl, _, SqL.of hW3⟩, _, rfl, kd, _, 0, _, rfl, rfl, SqL.of hkd3, rfl, W, ka, k, ta, tb.map V.str, _, rfl, rfl, SqL.of hW3, by rw [List.length_map]; (first | lia | omega), fun b hb => ?_, oka, dpk k hk, dpk ka hka, kids_lay mk, (show (1 : Nat) ≤ 8 by decide), ?_⟩
        · obtain ⟨x, hx, rfl⟩ := List.mem_map.mp hb
          exact ⟨x, rfl, okb x hx⟩
        refine ⟨_, rfl, a, C, dx, _, _, rfl, s13 _ _ h1, c_Stream.cls, c_Stream.n3, rfl, .inl ⟨rfl, _, SqL.of (s13 _ _ h4)⟩, _, rfl, kd, _, 0, _, rfl, rfl, SqL.of hkd3, rfl, ka, _, 1, _, rfl, rfl, SqT.of hka, rfl, _, rfl, _, rfl, _, _, rfl, rfl, _, rfl, W, _, rfl, SqL.of hW3, fun l hl => ?_⟩
        have cb : cutV (ta.map V.str ++ .ref k :: tb.map V.str) (some ((ta.length : Int) + 1)) none = tb.map V.str := by
          have := cut_from (ta.map V.str ++ .ref k :: tb.map V.str) (ta.length + 1)
          rw [show ((ta.length + 1 : Nat) : Int) = (ta.length : Int) + 1 from rfl] at this
          rw [this, List.drop_append, List.drop_eq_nil_of_le (by rw [List.length_map]; (first | lia | omega)), List.length_map, show ta.length + 1 - ta.length = 1 by (first | lia | omega)]
          rfl
        have ca : cutV (ta.map V.str ++ .ref k :: tb.map V.str) none (some (ta.length : Int)) = ta.map V.str := by
          rw [cut_upto, List.take_append, List.take_of_length_le (by rw [List.length_map]; (first | lia | omega)), List.length_map, Nat.sub_self]
          exact List.append_nil _
        refine ⟨(by show 2 ≤ sizeLine; decide), fun t' ht' => ?_⟩
        rw [cb] at ht' ⊢
        obtain ⟨ntl, ht0⟩ := upd_none ht'
        have s4 : Same H (upd (upd H3 l (.lst (tb.map V.str))) t' (.tup [.int mk, .ref l])) := (s13.upd_new (s13.free hl)).upd_new (s13.free ht0)
        refine ⟨Bl, _, _, rfl, rfl, s4 _ _ h4, len1000' (by (first | lia | omega)), ?_⟩
        have g1 := (hS.same s4).opened (b := (some mk, tb)) (s4 _ _ h4) (show (upd (upd H3 l (.lst (tb.map V.str))) t' (.tup [.int mk, .ref l])) t' = some (.tup [.int mk, .ref l]) from upd_same) (by rw [upd_ne ntl.symm]; exact upd_same) (hS.free (s13.free hl)) okb
        have nWl : W ≠ l := ne_of_none hW3 hl
        have nWt : W ≠ t' := ne_of_none hW3 ht0
        have nWB : W ≠ Bl := fun z => by
          have := (s1 _ _ h4)
          rw [← z, hW0] at this
          cases this
        have hW5 : (upd (upd (upd H3 l (.lst (tb.map V.str))) t' (.tup [.int mk, .ref l])) Bl (.lst (zs ++ [.ref t']))) W = some (.lst (ta.map V.str ++ .ref k :: tb.map V.str)) := by
          rw [upd_ne nWB, upd_ne nWt, upd_ne nWl]
          exact hW3
        refine ⟨_, rfl, _, rfl, _, rfl, W, _, rfl, SqL.of hW5, fun r hr' => ?_⟩
        rw [ca]
        have s9 := Same.new (o := .lst (ta.map V.str)) hr'
        obtain ⟨nrB, hr1⟩ := upd_none hr'
        obtain ⟨nrt, hr2⟩ := upd_none hr1
        obtain ⟨nrl, hr3⟩ := upd_none hr2
        refine qq r l _ (fun b o hb e => s9 _ _ ?_) (s13.free hr3) (s13.free hl) nrl ?_ ?_
        · rw [upd_ne (fun z => hb (List.mem_singleton.mpr z))]
          exact s4 _ _ e
        · rw [r4, upd_same]
        · rw [r4]
          exact g1.same s9
/-- a word taken -/
def spTakeS (C : Addr) : Sp := fun vs H Q _ => ∃ (a dk Bl : Addr) (ls : List Addr) (kn : Kn) (bs : Bg) (n : Int) (t : Str), vs = [.ref a, .str t] ∧ StAt C H a dk Bl ls kn bs n ∧ bs.length ≤ 900 ∧ ((t = SL ∧ bs ≠ []) ∨ (Lets t ∧ t.length ≤ 8)) ∧
  ∀ (r : Addr) (ls' : List Addr) (H' : Hp), KeepX [a, Bl] H H' → (H r = none ∨ r ∈ ls) → (∀ l ∈ ls', l ∈ ls ∨ H l = none) → r ∉ Bl :: ls' → H' r = some (.lst ((stepS kn bs t).1.map V.str)) → StAt C H' a dk Bl ls' kn (stepS kn bs t).2 (n + 1) → Q (.ref r) H'
theorem last_of {α : Type} {l : List α} (h : l ≠ []) : ∃ l' x, l = l' ++ [x] := ⟨l.dropLast, l.getLast h, (List.dropLast_concat_getLast h).symm⟩
set_option maxHeartbeats 4000000 in
theorem ok_Stream_take {C : Addr} (B : ∀ x ∈ blts, mg x = none) (c_Stream : StC K C) (g_is_tag : Has P w K mg base "is_tag" ["text"] 1 spIsTag) (g_Stream_take_begin : HasM P w K mg base C "take_begin" ["self", "mode", "tag"] 24 (spBegin C)) (F : Fun K "take" "Stream.take" s_Stream_take f fd) : FnOk P w K mg base CX0 25 f fd ["self", "word"] (spTakeS C) := by
  refine F.ok sc_Stream_take (fun vs H Q E h => ?_) (fun cdv A outer s H vs Q E hr h => ?_)
  · obtain ⟨a, dk, Bl, ls, kn, bs, n, t, rfl, _⟩ := h
    rfl
  obtain ⟨a, dk, Bl, ls, kn, bs, n, t, rfl, hS, hbl, ht, qq⟩ := h
  obtain ⟨dx, h1⟩ := hS.ho
  obtain ⟨km, h2, h3⟩ := hS.hk
  obtain ⟨zs, h4, h5⟩ := hS.hb
  have hzl := h5.len.1
  have nab : a ≠ Bl := ne_of h1 h4 (by intro z; cases z)
  have nad : dk ≠ a := ne_of h2 h1 (by intro z; cases z)
  -- the stream with one more taken
  have more : ∀ (G : Hp), Same H G → ∀ (H1 : Hp), H1 = upd G a (.ins C dx (putF "taken" (.int (n + 1)) (stF dk Bl n))) → StAt C H1 a dk Bl ls kn bs (n + 1) ∧ KeepX [a] G H1 ∧ H1 a = some (.ins C dx (stF dk Bl (n + 1))) := fun G sG H1 e => by
    subst e
    replace h1 := sG _ _ h1
    replace h2 := sG _ _ h2
    replace h3 := h3.tk sG.tk
    replace h4 := sG _ _ h4
    replace h5 := h5.keep sG.tk fun l _ o e => sG _ _ e
    have x1 : (upd G a (.ins C dx (putF "taken" (.int (n + 1)) (stF dk Bl n)))) a = some (.ins C dx (stF dk Bl (n + 1))) := by
      rw [upd_same]
      rfl
    have kx : KeepX [a] G (upd G a (.ins C dx (putF "taken" (.int (n + 1)) (stF dk Bl n)))) := fun b o hb e => by
      rw [upd_ne (fun z => hb (List.mem_singleton.mpr z))]
      exact e
    have tk : TK G (upd G a (.ins C dx (putF "taken" (.int (n + 1)) (stF dk Bl n)))) := fun b xs e => kx b _ (fun z => by rw [List.mem_singleton.mp z, h1] at e; cases e) e
    refine ⟨⟨hS.ok, ⟨dx, x1⟩, ⟨km, kx _ _ (fun z => nad (List.mem_singleton.mp z)) h2, h3.tk tk⟩, ⟨zs, kx _ _ (fun z => nab (List.mem_singleton.mp z).symm) h4, h5.keep tk fun l hl o e => kx _ _ (fun z => ?_) e⟩, hS.nd, hS.so⟩, kx, x1⟩
    obtain ⟨xs, el⟩ := h5.live l hl
    rw [List.mem_singleton.mp z, h1] at el
    cases el
  refine ⟨_, (pss_cons (ps_if (PW.pt (pw_and (pt_cmpR op_eq (pv 1) pe_str (nomark _)) (pw_and1 (pt_truth (pe_fld (pv 0) rfl) (fun _ => rfl)))))
      (pss_cons (ps_fldaug (pv 0) pe_int in_add)
        (pss_one (ps_ret (pe_ix ix_tup (pe_bm0 PySem.F.plainAttrs_list PySem.F.slot_list_pop PySem.F.type_list_pop mt_pop (pe_fld (pv 0) rfl)) pe_int (fun _ _ => rfl)))))
      pss_nil)
    (pss_cons (ps_if (pt_not (pt_truth (pe_has g_is_tag hr rfl (pa_cons (pv 1) pa_nil)) (fun _ => rfl)))
      (pss_one ps_never)
      pss_nil)
    (pss_cons (ps_fldaug (pv 0) pe_int in_add)
    (pss_one (ps_ret (pe_hasm g_Stream_take_begin hr (pv 0) c_Stream.cls (pa_cons (pe_ifExp (pt_truth (pe_fld (pv 0) rfl) (fun _ => rfl)) (pe_ix ix_tup (pe_ix ix_list (pe_fld (pv 0) rfl) (pe_un un_neg pe_int) (fun _ _ => rfl)) pe_int (fun _ _ => rfl)) pe_int) (pa_cons (pv 1) pa_nil)))))))), ?_⟩
  by_cases c : t = SL
  · subst c
    have hbn : bs ≠ [] := by
      rcases ht with h | h
      · exact h.2
      · exact absurd rfl h.1.ne
    obtain ⟨bs', b, rfl⟩ := last_of hbn
    obtain ⟨zs', z, ls', l, rfl, rfl, h6, h7⟩ := h5.unsnoc
    obtain ⟨tb, rfl, g1, g2⟩ := h7
    have est : stepS kn (bs' ++ [b]) SL = (b.2, bs') := by
      unfold stepS
      rw [if_pos rfl, List.getLast?_concat, List.dropLast_concat]
    refine ⟨_, rfl, rfl, _, rfl, iteT ?_⟩
    refine ⟨_, rfl, a, C, dx, _, _, rfl, h1, c_Stream.cls, c_Stream.n3, rfl, true, .inl ⟨_, SqL.of h4, by simp⟩, iteT ?_⟩
    refine ⟨_, rfl, a, C, dx, _, _, rfl, h1, c_Stream.cls, c_Stream.n2, rfl, _, _, rfl, rfl, dx, _, h1, (show 3 < 1000 by decide), ?_⟩
    obtain ⟨S1, k1, x1⟩ := more H (Same.refl H) _ rfl
    obtain ⟨zs2, h42, h52⟩ := S1.hb
    have hB1 : (upd H a (.ins C dx (putF "taken" (.int (n + 1)) (stF dk Bl n)))) Bl = some (.lst (zs' ++ [.ref tb])) := k1 _ _ (fun z => nab (List.mem_singleton.mp z).symm) h4
    rw [hB1] at h42
    injection h42 with h42
    injection h42 with h42
    subst h42
    have tk1 : TK H (upd H a (.ins C dx (putF "taken" (.int (n + 1)) (stF dk Bl n)))) := fun b xs e => k1 b _ (fun z => by rw [List.mem_singleton.mp z, h1] at e; cases e) e
    refine ⟨_, rfl, a, C, dx, _, _, rfl, x1, c_Stream.cls, c_Stream.n3, rfl, .inl ⟨rfl, _, SqL.of hB1⟩, Bl, _, _, rfl, rfl, hB1, snoc_last _ _, ?_⟩
    rw [snoc_drop]
    have g1' : (upd (upd H a (.ins C dx (putF "taken" (.int (n + 1)) (stF dk Bl n)))) Bl (.lst zs')) tb = some (.tup [moV b.1, .ref l]) := TK.lst hB1 _ _ (tk1 _ _ g1)
    refine ⟨tb, _, 1, _, rfl, rfl, SqT.of g1', rfl, ?_⟩
    obtain ⟨nd1, nd2⟩ := List.nodup_cons.mp S1.nd
    obtain ⟨nda, _, ndb⟩ := List.nodup_append.mp nd2
    have nlB : l ≠ Bl := fun z => nd1 (by rw [← z]; exact List.mem_append_right _ (List.mem_singleton.mpr rfl))
    have nla : l ≠ a := fun z => by rw [z, h1] at g2; cases g2
    refine qq l ls' _ (fun b' o hb e => ?_) (.inr (List.mem_append_right _ (List.mem_singleton.mpr rfl))) (fun l' hl' => .inl (List.mem_append_left _ hl')) ?_ ?_ ?_
    · simp only [List.mem_cons, List.not_mem_nil, or_false, not_or] at hb
      rw [upd_ne hb.2]
      exact k1 _ _ (fun z => hb.1 (List.mem_singleton.mp z)) e
    · intro z
      rcases List.mem_cons.mp z with z | z
      · exact nlB z
      · exact ndb l z l (List.mem_singleton.mpr rfl) rfl
    · rw [est, upd_ne nlB]
      exact k1 _ _ (fun z => nla (List.mem_singleton.mp z)) g2
    · rw [est]
      obtain ⟨m2, y1, y2⟩ := S1.hk
      have tk2 : TK (upd H a (.ins C dx (putF "taken" (.int (n + 1)) (stF dk Bl n)))) (upd (upd H a (.ins C dx (putF "taken" (.int (n + 1)) (stF dk Bl n)))) Bl (.lst zs')) := TK.lst hB1
      refine ⟨S1.ok, ⟨dx, by rw [upd_ne nab]; exact x1⟩, ⟨m2, by rw [upd_ne (ne_of y1 hB1 (by intro z; cases z))]; exact y1, y2.tk tk2⟩, ⟨zs', upd_same, ?_⟩, List.nodup_cons.mpr ⟨fun z => nd1 (List.mem_append_left _ z), nda⟩, fun c hc => S1.so c (List.mem_append_left _ hc)⟩
      refine (h6.keep tk1 fun l' hl' o e => k1 _ _ (fun z => ?_) e).keep tk2 fun l' hl' o e => ?_
      · obtain ⟨xs, el⟩ := h6.live l' hl'
        rw [List.mem_singleton.mp z, h1] at el
        cases el
      · rw [upd_ne (fun z => nd1 (by rw [← z]; exact List.mem_append_left _ hl'))]
        exact e
  · have htt : Lets t ∧ t.length ≤ 8 := by
      rcases ht with h | h
      · exact absurd h.1 c
      · exact h
    have est : stepS kn bs t = ((rlS kn (modeB bs) t).1, bs ++ [(rlS kn (modeB bs) t).2]) := by
      unfold stepS
      rw [if_neg c]
    refine ⟨_, rfl, rfl, _, rfl, ?_⟩
    rw [decide_eq_false (fun z => c (by injection z))]
    refine iteF ?_
    refine ⟨_, rfl, t, rfl, by (first | lia | omega), fun H1 s1 => ⟨true, ?_, iteF ?_⟩⟩
    · show true = tagB t
      rw [tagB_letsS htt.1 htt.2]
    refine ⟨_, rfl, a, C, dx, _, _, rfl, s1 _ _ h1, c_Stream.cls, c_Stream.n2, rfl, _, _, rfl, rfl, dx, _, s1 _ _ h1, (show 3 < 1000 by decide), ?_⟩
    obtain ⟨S1, k1, x1⟩ := more H1 s1 _ rfl
    have hB1 : (upd H1 a (.ins C dx (putF "taken" (.int (n + 1)) (stF dk Bl n)))) Bl = some (.lst zs) := k1 _ _ (fun z => nab (List.mem_singleton.mp z).symm) (s1 _ _ h4)
    have tk1 : TK H (upd H1 a (.ins C dx (putF "taken" (.int (n + 1)) (stF dk Bl n)))) := fun b xs e => k1 b _ (fun z => by rw [List.mem_singleton.mp z, h1] at e; cases e) (s1 _ _ e)
    generalize upd H1 a (.ins C dx (putF "taken" (.int (n + 1)) (stF dk Bl n))) = H2 at S1 k1 x1 hB1 tk1 ⊢
    have ok : PyData.strOk t = true := htt.1.let0.ok
    have fin : ∀ (r l : Addr) (H' : Hp), KeepX [Bl] H2 H' → H2 r = none → H2 l = none → r ≠ l → H' r = some (.lst ((rlS kn (modeB bs) t).1.map V.str)) → StAt C H' a dk Bl (ls ++ [l]) kn (bs ++ [(rlS kn (modeB bs) t).2]) (n + 1) → Q (.ref r) H' := fun r l H' kx hr0 hl0 nrl hr1 S2 => by
      have free : ∀ b, H2 b = none → H b = none := fun b hb => by
        refine Option.eq_none_iff_forall_ne_some.mpr fun o ho => ?_
        by_cases z : b = a
        · rw [z, x1] at hb
          cases hb
        · rw [k1 _ _ (fun y => z (List.mem_singleton.mp y)) (s1 _ _ ho)] at hb
          cases hb
      refine qq r (ls ++ [l]) H' (fun b o hb e => ?_) (.inl (free r hr0)) (fun l' hl' => ?_) (fun z => ?_) (by rw [est]; exact hr1) (by rw [est]; exact S2)
      · simp only [List.mem_cons, List.not_mem_nil, or_false, not_or] at hb
        exact kx _ _ (fun z => hb.2 (List.mem_singleton.mp z)) (k1 _ _ (fun z => hb.1 (List.mem_singleton.mp z)) (s1 _ _ e))
      · rcases List.mem_append.mp hl' with h | h
        · exact .inl h
        · rw [List.mem_singleton.mp h]
          exact .inr (free l hl0)
      · rcases List.mem_cons.mp z with z | z
        · rw [z, hB1] at hr0
          cases hr0
        · rcases List.mem_append.mp z with z | z
          · obtain ⟨xs, el⟩ := S1.live r (List.mem_cons_of_mem _ z)
            rw [hr0] at el
            cases el
          · exact nrl (List.mem_singleton.mp z)
    by_cases hbs : bs = []
    · subst hbs
      have hz0 : zs = [] := List.eq_nil_of_length_eq_zero hzl
      subst hz0
      refine ⟨_, rfl, a, dx, _, rfl, x1, rfl, _, rfl, a, C, dx, _, _, rfl, x1, c_Stream.cls, c_Stream.n3, rfl, false, .inl ⟨_, SqL.of hB1, rfl⟩, iteF ?_⟩
      refine ⟨_, rfl, a, dk, Bl, ls, kn, [], n + 1, some 0, t, rfl, S1, by decide, ok, fin⟩
    · obtain ⟨bs', b, e⟩ := last_of hbs
      subst e
      obtain ⟨zs2, y1, y2⟩ := S1.hb
      rw [hB1] at y1
      injection y1 with y1
      injection y1 with y1
      subst y1
      obtain ⟨zs', z, ls', l, rfl, rfl, h6, h7⟩ := y2.unsnoc
      obtain ⟨tb, rfl, g1, g2⟩ := h7
      refine ⟨_, rfl, a, dx, _, rfl, x1, rfl, _, rfl, a, C, dx, _, _, rfl, x1, c_Stream.cls, c_Stream.n3, rfl, true, .inl ⟨_, SqL.of hB1, by simp⟩, iteT ?_⟩
      have em : modeB (bs' ++ [b]) = b.1 := by
        unfold modeB
        rw [List.getLast?_concat]
      refine ⟨_, rfl, a, C, dx, _, _, rfl, x1, c_Stream.cls, c_Stream.n3, rfl, 1, rfl, Bl, _, -1, _, rfl, rfl, SqL.of hB1, atI_last _ _, tb, _, 0, _, rfl, rfl, SqT.of g1, rfl, ?_⟩
      exact ⟨_, rfl, a, dk, Bl, _, kn, _, n + 1, b.1, t, rfl, S1, hbl, ok, by rw [em] at fin; exact fin⟩
def spCellS (K : PySem.W.Frag) : Sp := fun vs H Q _ => ∃ (a : Addr) (ns : List Int) (k : Int), vs = [.ref a, .int k] ∧ SqL K H a (ns.map V.int) ∧ ns.length ≤ 63 ∧ 0 ≤ k ∧ k ≤ 1000 ∧ ∀ v : Int, Q (.int v) H
theorem ok_l_cell (B : ∀ x ∈ blts, mg x = none) (F : Fun K "_law_cell" "_law_cell" s_l_cell f fd) : FnOk P w K mg base CX0 1 f fd ["_law_script", "_law_k"] (spCellS K) := by
  refine F.ok sc_l_cell (fun vs H Q E h => ?_) (fun cdv A outer s H vs Q E hr h => ?_)
  · obtain ⟨a, ns, k, rfl, _⟩ := h
    rfl
  obtain ⟨a, ns, k, rfl, hS, h63, h0, hk, q⟩ := h
  refine ⟨_, (pss_cons (ps_if (pt_cmpR op_lt (pv 1) (pe_callB call_len_seq rfl (B "len" (by decide)) PySem.boot_len (pa_cons (pv 0) pa_nil)) (nomark _))
      (pss_one (ps_ret (pe_ix ix_list (pv 0) (pv 1) (fun _ _ => rfl))))
      pss_nil)
    (pss_cons (ps_set (i := 2) sc_l_cell.nd rfl (Or.inl rfl) (pe_op op_add (pe_op op_mul (pv 1) pe_int) pe_int))
    (pss_cons (ps_if (pt_cmpR op_gt (pe_callB call_len_seq rfl (B "len" (by decide)) PySem.boot_len (pa_cons (pv 0) pa_nil)) pe_int (nomark _))
      (pss_one (ps_set (i := 2) sc_l_cell.nd rfl (Or.inl rfl) (pe_op op_mod (pe_op op_add (pe_op op_mul (pe_ix ix_list (pv 0) (pe_op op_mod (pe_op op_mul (pv 1) pe_int) (pe_callB call_len_seq rfl (B "len" (by decide)) PySem.boot_len (pa_cons (pv 0) pa_nil))) (fun _ _ => rfl)) pe_int) (pe_op op_mul (pv 1) pe_int)) pe_int)))
      pss_nil)
    (pss_one (ps_ret (pe_op op_mod (pe_op op_mul (pv 2) (pv 2)) pe_int)))))), ?_⟩
  refine ⟨_, rfl, _, rfl, a, _, rfl, .inl hS, _, _, rfl, rfl, _, rfl, ite2 (fun c => ?_) (fun c => ?_)⟩
  · have c' := of_decide_eq_true c
    rw [List.length_map] at c'
    obtain ⟨v, hv⟩ := ints_at (ns := ns) h0 c'
    exact ⟨_, rfl, _, rfl, a, _, k, _, rfl, rfl, hS, hv, q _⟩
  · refine ⟨_, rfl, _, _, rfl, rfl, .inl ⟨by (first | lia | omega), by (first | lia | omega)⟩, _, _, rfl, rfl, ?_⟩
    refine ⟨_, rfl, a, _, rfl, .inl hS, _, _, rfl, rfl, _, rfl, ite2 (fun c2 => ?_) (fun c2 => ?_)⟩
    · have c2' : (0 : Int) < ((ns.map V.int).length : Nat) := of_decide_eq_true c2
      obtain ⟨v, hv⟩ := ints_at (ns := ns) (Int.emod_nonneg (k * 11) (Int.ne_of_gt c2')) (by have := Int.emod_lt_of_pos (k * 11) c2'; rw [List.length_map] at this ⊢; exact this)
      have m1 := Int.emod_nonneg (v * 48271 + k * 1103) (by decide : (2147483647 : Int) ≠ 0)
      have m2 := Int.emod_lt_of_pos (v * 48271 + k * 1103) (by decide : (0 : Int) < 2147483647)
      refine ⟨_, rfl, _, rfl, _, _, rfl, rfl, .inl ⟨by (first | lia | omega), by (first | lia | omega)⟩, _, rfl, a, _, rfl, .inl hS, _, _, rfl, rfl, c2', a, _, _, _, rfl, rfl, hS, hv, _, _, rfl, rfl, .inr ⟨by decide, by decide⟩, _, rfl, _, _, rfl, rfl, .inl ⟨by (first | lia | omega), by (first | lia | omega)⟩, _, _, rfl, rfl, _, _, rfl, rfl, (by show (0 : Int) < 2147483647; decide), ?_⟩
      exact ⟨_, rfl, _, rfl, _, _, rfl, rfl, .inl ⟨by (first | lia | omega), by (first | lia | omega)⟩, _, _, rfl, rfl, (by show (0 : Int) < 2147483399; decide), q _⟩
    · exact ⟨_, rfl, _, rfl, _, _, rfl, rfl, .inl ⟨by (first | lia | omega), by (first | lia | omega)⟩, _, _, rfl, rfl, (by show (0 : Int) < 2147483399; decide), q _⟩
def spTags2 : Sp := fun vs H Q _ => ∃ c : Int, vs = [.int c] ∧ 0 ≤ c ∧ c < 1000000000 ∧ ∀ (r : Addr) (ts : List Str) (H' : Hp), Same H H' → H r = none → H' r = some (.lst (ts.map V.str)) → ts.length = 2 → (∀ t ∈ ts, Lets t ∧ t.length ≤ 8 ∧ ∃ x l, t.cps.toList = x :: l ∧ x < 100) → Q (.ref r) H'
def one1 (c : Nat) : Str := ⟨#[c]⟩
theorem jn_ones : ∀ l : List Nat, jn "" (l.map one1) = l
  | [] => rfl
  | [c] => rfl
  | c :: d :: r => by
    show cs (one1 c) ++ (cs "" ++ jn "" ((d :: r).map one1)) = _
    rw [jn_ones (d :: r)]
    rfl
theorem join_ones (l : List Nat) : (Txt.join "" (l.map one1)).cps.toList = l := by
  have := cs_join "" (l.map one1)
  rw [jn_ones] at this
  exact this
theorem join_lets {l : List Nat} (h0 : l ≠ []) (hl : ∀ c ∈ l, 97 ≤ c ∧ c ≤ 122) : Lets (Txt.join "" (l.map one1)) ∧ (Txt.join "" (l.map one1)).length = l.length := by
  have e := join_ones l
  refine ⟨⟨by rw [e]; exact h0, fun c hc => ?_⟩, ?_⟩
  · rw [e] at hc
    exact hl c hc
  · have := congrArg List.length e
    rw [Array.length_toList] at this
    exact this
theorem sum_ones : ∀ l : List Nat, ((l.map one1).map (·.length)).sum = l.length
  | [] => rfl
  | c :: l => by
    rw [List.map_cons, List.map_cons, List.sum_cons, sum_ones l, List.length_cons]
    show 1 + _ = _
    (first | lia | omega)
theorem bc_at {i : Int} (h0 : 0 ≤ i) (h1 : i < 2) : ∃ x : Nat, atI (Str.ofString "bc").cps.toList i = some x ∧ 97 ≤ x ∧ x < 100 := by
  have : i = 0 ∨ i = 1 := by (first | lia | omega)
  rcases this with rfl | rfl
  · exact ⟨98, by decide, by decide, by decide⟩
  · exact ⟨99, by decide, by decide, by decide⟩
set_option maxHeartbeats 4000000 in
theorem ok_l_tags (B : ∀ x ∈ blts, mg x = none) (F : Fun K "_law_tags" "_law_tags" s_l_tags f fd) : FnOk P w K mg base CX0 1 f fd ["_law_cell_here"] spTags2 := by
  refine F.ok sc_l_tags (fun vs H Q E h => ?_) (fun cdv A outer s H vs Q E hr h => ?_)
  · obtain ⟨c, rfl, _⟩ := h
    rfl
  obtain ⟨c, rfl, c0, c9, q⟩ := h
  refine hideI ((defBody s_l_tags).drop 8) (pss_one (ps_ret (pe_lst (pa_cons (pe_bm PySem.F.plainAttrs_str PySem.F.slot_str_join PySem.F.type_str_join mt_join pe_str (pa_cons (pv 2) pa_nil)) (pa_cons (pe_bm PySem.F.plainAttrs_str PySem.F.slot_str_join PySem.F.type_str_join mt_join pe_str (pa_cons (pv 4) pa_nil)) pa_nil))))) (fun u8 h8 e8 => ?_)
  refine hideI ((defBody s_l_tags).drop 7) (pss_cons (ps_if (pt_cmpR op_eq (pe_op op_mod (pe_op op_fdiv (pv 0) pe_int) pe_int) pe_int (nomark _))
      (pss_one (ps_ret (pe_lst (pa_cons (pe_bm PySem.F.plainAttrs_str PySem.F.slot_str_join PySem.F.type_str_join mt_join pe_str (pa_cons (pv 4) pa_nil)) (pa_cons (pe_bm PySem.F.plainAttrs_str PySem.F.slot_str_join PySem.F.type_str_join mt_join pe_str (pa_cons (pv 2) pa_nil)) pa_nil)))))
      pss_nil) h8) (fun u7 h7 e7 => ?_)
  refine hideI ((defBody s_l_tags).drop 6) (pss_cons (ps_if (PW.pt (pw_and (pt_cmpR op_eq (pe_op op_mod (pe_op op_fdiv (pv 0) pe_int) pe_int) pe_int (nomark _)) (pw_and1 (pt_cmpR op_lt (pe_callB call_len_seq rfl (B "len" (by decide)) PySem.boot_len (pa_cons (pv 2) pa_nil)) pe_int (nomark _)))))
      (pss_one (ps_set (i := 4) sc_l_tags.nd rfl (Or.inl rfl) (pe_op op_cat (pv 2) (pe_lst (pa_cons (pe_ix ix_str (pv 1) (pe_op op_mod (pe_op op_fdiv (pv 0) pe_int) pe_int) (fun _ _ => rfl)) pa_nil)))))
      pss_nil) h7) (fun u6 h6 e6 => ?_)
  refine hideI ((defBody s_l_tags).drop 5) (pss_cons (ps_asg (pe_ix ix_str (pv 1) (pe_op op_mod (pv 5) pe_int) (fun _ _ => rfl)) (pg_sub (pv 4) (pv 3) set_list)) h6) (fun u5 h5 e5 => ?_)
  refine hideI ((defBody s_l_tags).drop 4) (pss_cons (ps_set (i := 5) sc_l_tags.nd rfl (Or.inl rfl) (pe_op op_add (pe_op op_add (pe_bm PySem.F.plainAttrs_str PySem.F.slot_str_index PySem.F.type_str_index mt_sindex (pv 1) (pa_cons (pe_ix ix_list (pv 2) (pv 3) (fun _ _ => rfl)) pa_nil)) pe_int) (pe_op op_mod (pe_op op_fdiv (pv 0) pe_int) pe_int))) h5) (fun u4 h4 e4 => ?_)
  refine hideI ((defBody s_l_tags).drop 3) (pss_cons (ps_set (i := 4) sc_l_tags.nd rfl (Or.inl rfl) (pe_callTy call_list_of rfl (B "list" (by decide)) bt_list (pa_cons (pv 2) pa_nil))) h4) (fun u3 h3 e3 => ?_)
  refine hideI ((defBody s_l_tags).drop 2) (pss_cons (ps_set (i := 3) sc_l_tags.nd rfl (Or.inl rfl) (pe_op op_add pe_int (pe_op op_mod (pe_op op_fdiv (pv 0) pe_int) (pe_op op_sub (pe_callB call_len_seq rfl (B "len" (by decide)) PySem.boot_len (pa_cons (pv 2) pa_nil)) pe_int)))) h3) (fun u2 h2 e2 => ?_)
  refine hideI ((defBody s_l_tags).drop 1) (pss_cons (ps_set (i := 2) sc_l_tags.nd rfl (Or.inl rfl) (pe_op op_cat (pe_lst (pa_cons (pe_ix ix_str pe_str (pe_op op_mod (pv 0) pe_int) (fun _ _ => rfl)) pa_nil)) (pe_comp (cl := _) ["_law_k"] [("_law_cell_here", 0), ("_law_letters", 1)] (pi_range1 rfl (B "range" (by decide)) (pa_cons (pe_op op_add pe_int (pe_op op_mod (pe_op op_fdiv (pv 0) pe_int) pe_int)) pa_nil)) (fun _ _ _ _ => (pg_name (i := 0) (show List.Nodup (["_law_k", "_law_cell_here", "_law_letters"] : List Str) by decide) rfl (Or.inl rfl))) (fun _ _ _ _ => (pe_ix ix_str (pv 2) (pe_op op_mod (pe_op op_add (pe_op op_fdiv (pv 1) pe_int) (pe_op op_mul (pe_op op_mul pe_int (pv 0)) (pv 0))) pe_int) (fun _ _ => rfl))) rfl rfl (by decide) rfl (by decide) (cap_cl (by (repeat' first | exact List.forall_mem_nil _ | refine List.forall_mem_cons.mpr ⟨?_, ?_⟩) <;> rfl)) (cap_has (by (repeat' first | exact List.forall_mem_nil _ | refine List.forall_mem_cons.mpr ⟨?_, ?_⟩) <;> first | (intro h; exact ⟨_, rfl⟩) | (intro h; exact absurd h (by decide)))) (fun _ => by (repeat' first | exact List.forall_mem_nil _ | refine List.forall_mem_cons.mpr ⟨?_, ?_⟩) <;> exact ⟨rfl, rfl, Or.inl rfl⟩) (fun _ => rfl)))) h2) (fun u1 h1 e1 => ?_)
  refine hideI ((defBody s_l_tags).drop 0) (pss_cons (ps_set (i := 1) sc_l_tags.nd rfl (Or.inr rfl) pe_str) h1) (fun u0 h0 e0 => ?_)
  refine ⟨u0, h0, ?_⟩
  have m6 := Int.emod_nonneg (c / 2) (by decide : (6 : Int) ≠ 0)
  have m6' := Int.emod_lt_of_pos (c / 2) (by decide : (0 : Int) < 6)
  obtain ⟨ch0, hch0, b1, b2⟩ := bc_at (i := c % 2) (Int.emod_nonneg _ (by decide)) (Int.emod_lt_of_pos _ (by decide))
  refine by_eq e0 ?_
  refine by_eq e1 ?_
  refine ⟨_, rfl, _, _, rfl, rfl, (by show (0 : Int) < 2; decide), _, _, ch0, rfl, rfl, (by decide), hch0, (by show 1 ≤ sizeLine; decide), fun pa hpa => ?_⟩
  refine ⟨_, rfl, _, _, rfl, rfl, ⟨by decide, by decide⟩, _, _, rfl, rfl, (by show (0 : Int) < 6; decide), _, _, rfl, rfl, _, rfl, (by show -2 ^ 62 ≤ 1 + c / 2 % 6; (first | lia | omega)), (by show 1 + c / 2 % 6 < 2 ^ 62; (first | lia | omega)), fun pb hpb => ?_⟩
  have sa := Same.new (o := .lst [.str ⟨#[ch0]⟩]) hpa
  have ha1 : (upd H pa (.lst [.str ⟨#[ch0]⟩])) pa = some (.lst [.str ⟨#[ch0]⟩]) := upd_same
  refine comp_range (lo := 0) (n := (1 + c / 2 % 6).toNat) (p := pb) (fun i ys σ H2 => ∃ (v0 : Option V) (l : List Nat), σ = [v0, some (.int c), some (.str ABC)] ∧ Same (upd H pa (.lst [.str ⟨#[ch0]⟩])) H2 ∧ H2 pb = some (.lst ys) ∧ ys = (l.map one1).map V.str ∧ l.length = i ∧ ∀ x ∈ l, 97 ≤ x ∧ x ≤ 122)
    ⟨none, [], rfl, Same.new hpb, upd_same, rfl, rfl, fun _ h => (nomatch h)⟩ ?_ ?_ ?_
  · rintro i ys σ H2 _ ⟨v0, l, _, _, h, _⟩
    exact h
  · rintro i ys σ H2 hi ⟨v0, l, rfl, sm, hp, rfl, hll, hls⟩
    obtain ⟨ch, hc, c1, c2⟩ := abc_at (i := (c / 19 + 3 * (0 + (i : Int)) * (0 + (i : Int))) % 26) (Int.emod_nonneg _ (by decide)) (Int.emod_lt_of_pos _ (by decide))
    have hi9 : i < 10 := by (first | lia | omega)
    refine ⟨_, rfl, _, rfl, _, _, rfl, rfl, ⟨by decide, by decide⟩, _, rfl, _, _, rfl, rfl, .inl ⟨by decide, by decide⟩, _, rfl, _, _, rfl, rfl, .inl ⟨by (first | lia | omega), by (first | lia | omega)⟩, _, _, rfl, rfl, _, _, rfl, rfl, (by show (0 : Int) < 26; decide), _, _, ch, rfl, rfl, (by decide), hc, hp, len1000' (by rw [List.length_map, List.length_map]; (first | lia | omega)), CW.next hi ⟨_, l ++ [ch], rfl, sm.upd_new hpb, upd_same, by rw [List.map_append, List.map_append]; rfl, by rw [List.length_append, List.length_singleton]; (first | lia | omega), fun x hx => ?_⟩⟩
    rcases List.mem_append.mp hx with hx | hx
    · exact hls x hx
    · rw [List.mem_singleton.mp hx]
      exact ⟨c1, c2⟩
  rintro ys σ H2 ⟨v0, l, rfl, s2, hp, rfl, hll, hls⟩
  have hl1 : 1 ≤ l.length := by (first | lia | omega)
  have hl7 : l.length ≤ 6 := by (first | lia | omega)
  have sH2 := sa.trans s2
  refine ⟨pa, pb, _, _, rfl, rfl, s2 _ _ ha1, hp, len1000 (by rw [List.length_map, List.length_map]; show 1 + _ ≤ _; (first | lia | omega)), fun pc hpc => ?_⟩
  have s3 : Same H2 (upd H2 pc (.lst (((ch0 :: l).map one1).map V.str))) := Same.new hpc
  have hc3 : (upd H2 pc (.lst (((ch0 :: l).map one1).map V.str))) pc = some (.lst (((ch0 :: l).map one1).map V.str)) := upd_same
  show u2 _ _ (upd H2 pc (.lst (((ch0 :: l).map one1).map V.str)))
  have fpc : H pc = none := sH2.free hpc
  have sH3 := sH2.trans s3
  generalize upd H2 pc (.lst (((ch0 :: l).map one1).map V.str)) = H3 at s3 hc3 sH3 ⊢
  have hls0 : ∀ x ∈ ch0 :: l, 97 ≤ x ∧ x ≤ 122 := fun x hx => by
    rcases List.mem_cons.mp hx with hx | hx
    · rw [hx]
      (first | lia | omega)
    · exact hls x hx
  have hlen : ((((ch0 :: l).map one1).map V.str).length : Int) = (l.length : Int) + 1 := by
    rw [List.length_map, List.length_map, List.length_cons]
    rfl
  refine by_eq e2 ?_
  refine ⟨_, rfl, _, _, rfl, rfl, ⟨by decide, by decide⟩, _, rfl, pc, _, rfl, .inl (SqL.of hc3), _, _, rfl, rfl, _, _, rfl, rfl, (by show (0 : Int) < ((((ch0 :: l).map one1).map V.str).length : Nat) - 1; (first | lia | omega)), _, _, rfl, rfl, ?_⟩
  obtain ⟨k, hk, hkl⟩ := modN (c / 16) (n := l.length) (by (first | lia | omega))
  have hk' : 1 + c / 16 % (((((ch0 :: l).map one1).map V.str).length : Int) - 1) = ((k + 1 : Nat) : Int) := by
    rw [hlen, show ((l.length : Int) + 1 - 1) = (l.length : Int) by (first | lia | omega), hk]
    (first | lia | omega)
  show gName 3 (V.int (1 + c / 16 % (((((ch0 :: l).map one1).map V.str).length : Int) - 1))) _ _ _
  rw [hk']
  have hkl1 : k + 1 < (ch0 :: l).length := by rw [List.length_cons]; (first | lia | omega)
  have hatk : atI (((ch0 :: l).map one1).map V.str) ((k + 1 : Nat) : Int) = some (.str (one1 (ch0 :: l)[k + 1])) := atI_nat (by rw [List.getElem?_map, List.getElem?_map, List.getElem?_eq_getElem hkl1]; rfl)
  obtain ⟨a1, a2⟩ := hls0 _ (List.getElem_mem hkl1)
  refine by_eq e3 ?_
  refine ⟨_, rfl, pc, _, rfl, .inl (SqL.of hc3), fun ot hot => ?_⟩
  have s5 : Same H3 (upd H3 ot (.lst (((ch0 :: l).map one1).map V.str))) := Same.new hot
  have ho5 : (upd H3 ot (.lst (((ch0 :: l).map one1).map V.str))) ot = some (.lst (((ch0 :: l).map one1).map V.str)) := upd_same
  have hc5 := s5 _ _ hc3
  have noc : ot ≠ pc := (ne_of_none hc3 hot).symm
  have fot : H ot = none := sH3.free hot
  refine by_eq e4 ?_
  refine ⟨_, rfl, rfl, _, rfl, _, rfl, pc, _, _, _, rfl, rfl, SqL.of hc5, hatk, _, rfl, rfl, a1, a2, fun jx => ?_⟩
  refine ⟨_, _, rfl, rfl, _, rfl, _, _, rfl, rfl, ⟨by decide, by decide⟩, _, _, rfl, rfl, (by show (0 : Int) < 25; decide), _, _, rfl, rfl, ?_⟩
  obtain ⟨ch, hc, c1, c2⟩ := abc_at (i := ((jx : Int) + 1 + c / 64 % 25) % 26) (Int.emod_nonneg _ (by decide)) (Int.emod_lt_of_pos _ (by decide))
  refine by_eq e5 ?_
  refine ⟨_, rfl, _, rfl, _, _, rfl, rfl, (by show (0 : Int) < 26; decide), _, _, ch, rfl, rfl, (by decide), hc, _, rfl, _, rfl, ot, _, _, k + 1, rfl, rfl, ho5, ix_nat (by rw [List.length_map, List.length_map]; exact hkl1), ?_⟩
  have eset : (((ch0 :: l).map one1).map V.str).set (k + 1) (.str ⟨#[ch]⟩) = ((ch0 :: l.set k ch).map one1).map V.str := by
    rw [show ch0 :: l.set k ch = (ch0 :: l).set (k + 1) ch from rfl, List.map_set, List.map_set]
    rfl
  rw [eset]
  have hls1 : ∀ x ∈ ch0 :: l.set k ch, 97 ≤ x ∧ x ≤ 122 := fun x hx => by
    rcases List.mem_cons.mp hx with hx | hx
    · rw [hx]
      (first | lia | omega)
    · rcases List.mem_or_eq_of_mem_set hx with hx | hx
      · exact hls x hx
      · rw [hx]
        exact ⟨c1, c2⟩
  show u6 _ _ (upd (upd H3 ot (.lst (((ch0 :: l).map one1).map V.str))) ot (.lst (((ch0 :: l.set k ch).map one1).map V.str)))
  have hc6 : (upd (upd H3 ot (.lst (((ch0 :: l).map one1).map V.str))) ot (.lst (((ch0 :: l.set k ch).map one1).map V.str))) pc = some (.lst (((ch0 :: l).map one1).map V.str)) := by
    rw [upd_ne noc.symm]
    exact hc5
  have ho6 : (upd (upd H3 ot (.lst (((ch0 :: l).map one1).map V.str))) ot (.lst (((ch0 :: l.set k ch).map one1).map V.str))) ot = some (.lst (((ch0 :: l.set k ch).map one1).map V.str)) := upd_same
  have s6 : Same H (upd (upd H3 ot (.lst (((ch0 :: l).map one1).map V.str))) ot (.lst (((ch0 :: l.set k ch).map one1).map V.str))) := (sH3.trans s5).upd_new fot
  generalize upd (upd H3 ot (.lst (((ch0 :: l).map one1).map V.str))) ot (.lst (((ch0 :: l.set k ch).map one1).map V.str)) = H6 at hc6 ho6 s6 ⊢
  refine via (t := u7) (R := fun σ H7 => ∃ (o : Addr) (lo : List Nat) (v5 : Option V), σ = [some (.int c), some (.str ABC), some (.ref pc), some (.int ((k + 1 : Nat) : Int)), some (.ref o), v5] ∧ Same H H7 ∧ H7 pc = some (.lst (((ch0 :: l).map one1).map V.str)) ∧ H7 o = some (.lst (((ch0 :: lo).map one1).map V.str)) ∧ lo.length ≤ 7 ∧ ∀ x ∈ ch0 :: lo, 97 ≤ x ∧ x ≤ 122) ?_ fun fin => ?_
  · rintro σ H7 ⟨o, lo, v5, rfl, s7, hc7, ho7, hlo, hlos⟩
    obtain ⟨y1, y2⟩ := join_lets (l := ch0 :: l) (by simp) hls0
    obtain ⟨z1, z2⟩ := join_lets (l := ch0 :: lo) (by simp) hlos
    rw [List.length_cons] at y2 z2
    have good : ∀ t ∈ [Txt.join "" ((ch0 :: l).map one1), Txt.join "" ((ch0 :: lo).map one1)], Lets t ∧ t.length ≤ 8 ∧ ∃ x l, t.cps.toList = x :: l ∧ x < 100 := fun t ht => by
      simp only [List.mem_cons, List.not_mem_nil, or_false] at ht
      rcases ht with ht | ht
      · rw [ht]
        exact ⟨y1, by (first | lia | omega), ch0, l, join_ones (ch0 :: l), b2⟩
      · rw [ht]
        exact ⟨z1, by (first | lia | omega), ch0, lo, join_ones (ch0 :: lo), b2⟩
    have jl : ∀ lo' : List Nat, lo'.length ≤ 7 → (((ch0 :: lo').map one1).map (·.length)).sum + (((ch0 :: lo').map one1).length - 1) * 0 ≤ sizeLine := fun lo' h => by
      rw [sum_ones, List.length_cons]
      exact len1000 (by (first | lia | omega))
    refine by_eq e7 ?_
    refine ⟨_, rfl, _, _, rfl, rfl, ⟨by decide, by decide⟩, _, _, rfl, rfl, (by show (0 : Int) < 2; decide), rfl, _, rfl, ite2 (fun cc => ?_) (fun cc => ?_)⟩
    · refine ⟨rfl, _, rfl, _, o, (ch0 :: lo).map one1, rfl, rfl, SqL.of ho7, jl lo hlo, rfl, _, rfl, _, pc, (ch0 :: l).map one1, rfl, rfl, SqL.of hc7, jl l (by (first | lia | omega)), (by show 2 ≤ sizeLine; decide), fun r hr => ?_⟩
      refine q r [_, _] _ (s7.upd_new (s7.free hr)) (s7.free hr) upd_same rfl fun t ht => good t ?_
      simp only [List.mem_cons, List.not_mem_nil, or_false] at ht ⊢
      exact ht.symm
    · refine by_eq e8 ?_
      refine ⟨rfl, _, rfl, _, pc, (ch0 :: l).map one1, rfl, rfl, SqL.of hc7, jl l (by (first | lia | omega)), rfl, _, rfl, _, o, (ch0 :: lo).map one1, rfl, rfl, SqL.of ho7, jl lo hlo, (by show 2 ≤ sizeLine; decide), fun r hr => ?_⟩
      exact q r [_, _] _ (s7.upd_new (s7.free hr)) (s7.free hr) upd_same rfl good
  · refine by_eq e6 ?_
    have skip : ∀ v5, _ := fun v5 => fin _ _ ⟨ot, l.set k ch, v5, rfl, s6, hc6, ho6, by rw [List.length_set]; (first | lia | omega), hls1⟩
    refine ⟨_, rfl, _, _, rfl, rfl, ⟨by decide, by decide⟩, _, _, rfl, rfl, (by show (0 : Int) < 3; decide), rfl, _, rfl, ite2 (fun cc => ?_) (fun cc => iteF (skip _))⟩
    refine ⟨_, rfl, pc, _, rfl, .inl (SqL.of hc6), _, _, rfl, rfl, _, rfl, ite2 (fun cd => ?_) (fun cd => skip _)⟩
    obtain ⟨ch2, hc2, d1, d2⟩ := abc_at (i := c / 4096 % 26) (Int.emod_nonneg _ (by decide)) (Int.emod_lt_of_pos _ (by decide))
    refine ⟨_, rfl, _, rfl, _, rfl, _, _, rfl, rfl, ⟨by decide, by decide⟩, _, _, rfl, rfl, (by show (0 : Int) < 26; decide), _, _, ch2, rfl, rfl, (by decide), hc2, (by show 1 ≤ sizeLine; decide), fun p1 hp1 => ?_⟩
    have x1 := Same.new (o := .lst [.str ⟨#[ch2]⟩]) hp1
    refine ⟨pc, p1, _, _, rfl, rfl, x1 _ _ hc6, upd_same, len1000 (by rw [List.length_map, List.length_map, List.length_cons]; show _ + 1 ≤ _; (first | lia | omega)), fun p2 hp2 => ?_⟩
    have x2 := Same.new (o := .lst (((ch0 :: l).map one1).map V.str ++ [.str ⟨#[ch2]⟩])) hp2
    refine fin _ _ ⟨p2, l ++ [ch2], _, rfl, s6.trans (x1.trans x2), x2 _ _ (x1 _ _ hc6), ?_, by rw [List.length_append, List.length_singleton]; (first | lia | omega), fun x hx => ?_⟩
    · rw [upd_same, show ch0 :: (l ++ [ch2]) = (ch0 :: l) ++ [ch2] from rfl, List.map_append, List.map_append]
      rfl
    · rcases List.mem_cons.mp hx with hx | hx
      · rw [hx]
        (first | lia | omega)
      · rcases List.mem_append.mp hx with hx | hx
        · exact hls x hx
        · rw [List.mem_singleton.mp hx]
          exact ⟨d1, d2⟩
/-- parts under way: rows and open tags -/
structure PgS (H H1 : Hp) (R T : Addr) (as : List Addr) (gs : List Pa) (ts : List Str) : Prop where
  sm : Same H H1
  hT : H1 T = some (.lst ((ts.map V.str).reverse))
  hR : H1 R = some (.lst ((as.map V.ref).reverse))
  rows : Paired (fun a g => ∃ xs, H1 a = some (.lst xs) ∧ RepP H1 xs g) as gs
  nd : (R :: T :: as).Nodup
  fr : ∀ b ∈ R :: T :: as, H b = none
  gl : gs.length = ts.length + 1
def spPartsS : Sp := fun vs H Q _ => ∃ (c md : Int) (tg : Addr) (ts : List Str), vs = [.int c, .ref tg, .int md] ∧ 0 ≤ c ∧ 0 < md ∧ md < 100 ∧ H tg = some (.lst (ts.map V.str)) ∧ ts.length = 2 ∧ ∀ (r : Addr) (xs : List V) (p : Pa) (H' : Hp), Same H H' → H' r = some (.tup xs) → RepP H' xs p → p.nk ≤ 1 → p.sz ≤ 5 → (∀ x ∈ p.tags, x ∈ ts) → Q (.ref r) H'
section
variable {H H1 : Hp} {R T : Addr} {as : List Addr} {gs : List Pa} {ts : List Str}
theorem rowsP_there {H1 : Hp} : ∀ {as : List Addr} {gs : List Pa}, Paired (fun a g => ∃ xs, H1 a = some (.lst xs) ∧ RepP H1 xs g) as gs → ∀ b ∈ as, ∃ o, H1 b = some o
  | _, _, .cons ⟨xs, h, _⟩ t, b, hb => by
    rcases List.mem_cons.mp hb with rfl | hb
    · exact ⟨_, h⟩
    · exact rowsP_there t b hb
theorem rowsP_mono {H1 H2 : Hp} (k : TK H1 H2) : ∀ {as : List Addr} {gs : List Pa}, Paired (fun a g => ∃ xs, H1 a = some (.lst xs) ∧ RepP H1 xs g) as gs → (∀ b ∈ as, ∀ o, H1 b = some o → H2 b = some o) → Paired (fun a g => ∃ xs, H2 a = some (.lst xs) ∧ RepP H2 xs g) as gs
  | _, _, .nil, _ => .nil
  | _, _, .cons ⟨xs, h, r⟩ t, kb => .cons ⟨xs, kb _ (List.mem_cons_self ..) _ h, r.mono k⟩ (rowsP_mono k t fun b hb => kb b (List.mem_cons_of_mem _ hb))
theorem PgS.nR (h : PgS H H1 R T as gs ts) : ∀ b ∈ as, b ≠ R := fun b hb e => (List.nodup_cons.mp h.nd).1 (by rw [← e]; exact List.mem_cons_of_mem _ hb)
theorem PgS.nT (h : PgS H H1 R T as gs ts) : ∀ b ∈ as, b ≠ T := fun b hb e => (List.nodup_cons.mp (List.nodup_cons.mp h.nd).2).1 (by rw [← e]; exact hb)
theorem PgS.RT (h : PgS H H1 R T as gs ts) : R ≠ T := fun e => (List.nodup_cons.mp h.nd).1 (by rw [e]; exact List.mem_cons_self ..)
theorem PgS.start {a0 R T : Addr} (h0 : H a0 = none) (hR : (upd H a0 (.lst [])) R = none) (hT : (upd (upd H a0 (.lst [])) R (.lst [.ref a0])) T = none) : PgS H (upd (upd (upd H a0 (.lst [])) R (.lst [.ref a0])) T (.lst [])) R T [a0] [.nil] [] := by
  obtain ⟨nR0, hR'⟩ := upd_none hR
  obtain ⟨nTR, hT2⟩ := upd_none hT
  obtain ⟨nT0, hT'⟩ := upd_none hT2
  refine ⟨((Same.new h0).upd_new hR').upd_new hT', upd_same, ?_, .cons ⟨[], ?_, .nil⟩ .nil, ?_, ?_, rfl⟩
  · rw [upd_ne nTR.symm]
    exact upd_same
  · rw [upd_ne nT0.symm, upd_ne nR0.symm]
    exact upd_same
  · simp [nTR.symm, nR0, nT0]
  · intro b hb
    simp only [List.mem_cons, List.not_mem_nil, or_false] at hb
    rcases hb with rfl | rfl | rfl
    · exact hR'
    · exact hT'
    · exact h0
theorem PgS.opened {wd : Str} {l : Addr} (h : PgS H H1 R T as gs ts) (hl : (upd H1 T (.lst ((ts.map V.str).reverse ++ [.str wd]))) l = none) : PgS H (upd (upd (upd H1 T (.lst ((ts.map V.str).reverse ++ [.str wd]))) l (.lst [])) R (.lst ((as.map V.ref).reverse ++ [.ref l]))) R T (l :: as) (.nil :: gs) (wd :: ts) := by
  obtain ⟨nlT, hl1⟩ := upd_none hl
  have nlR : R ≠ l := ne_of_none h.hR hl1
  have hRT := h.RT
  have hRb : (upd (upd H1 T (.lst ((ts.map V.str).reverse ++ [.str wd]))) l (.lst [])) R = some (.lst (as.map V.ref).reverse) := by
    rw [upd_ne nlR, upd_ne hRT]
    exact h.hR
  have tk : TK H1 (upd (upd (upd H1 T (.lst ((ts.map V.str).reverse ++ [.str wd]))) l (.lst [])) R (.lst ((as.map V.ref).reverse ++ [.ref l]))) := ((TK.lst h.hT).trans (TK.new hl)).trans (TK.lst hRb)
  have nla : l ∉ as := fun hb => by
    obtain ⟨o, ho⟩ := rowsP_there h.rows l hb
    rw [hl1] at ho
    cases ho
  obtain ⟨ndR, ndT⟩ := List.nodup_cons.mp h.nd
  obtain ⟨ndT', ndA⟩ := List.nodup_cons.mp ndT
  refine ⟨((h.sm.upd_new (h.fr T (by simp))).upd_new (h.sm.free hl1)).upd_new (h.fr R (by simp)), ?_, ?_, .cons ⟨[], ?_, .nil⟩ (rowsP_mono tk h.rows fun b hb o ho => ?_), ?_, ?_, by rw [List.length_cons, List.length_cons, h.gl]⟩
  · rw [upd_ne hRT.symm, upd_ne nlT.symm, upd_same, List.map_cons, List.reverse_cons]
  · rw [upd_same, List.map_cons, List.reverse_cons]
  · rw [upd_ne nlR.symm]
    exact upd_same
  · rw [upd_ne (h.nR b hb), upd_ne (ne_of_none ho hl1), upd_ne (h.nT b hb)]
    exact ho
  · refine List.nodup_cons.mpr ⟨fun h => ?_, List.nodup_cons.mpr ⟨fun h => ?_, List.nodup_cons.mpr ⟨nla, ndA⟩⟩⟩
    · rcases List.mem_cons.mp h with h | h
      · exact hRT h
      · rcases List.mem_cons.mp h with h | h
        · exact nlR h
        · exact ndR (List.mem_cons_of_mem _ h)
    · rcases List.mem_cons.mp h with h | h
      · exact nlT h.symm
      · exact ndT' h
  · intro b hb
    simp only [List.mem_cons] at hb
    rcases hb with rfl | rfl | rfl | hb
    · exact h.fr _ (by simp)
    · exact h.fr _ (by simp)
    · exact h.sm.free hl1
    · exact h.fr b (by simp [hb])
/-- the innermost row, one part longer -/
theorem PgS.put {b0 pt : Addr} {g0 q : Pa} {vs : List V} {a1 : List Addr} {g1 : List Pa} (h : PgS H H1 R T (b0 :: a1) (g0 :: g1) ts) (h0 : H1 b0 = some (.lst vs)) (r0 : RepP H1 vs g0) (s : Same H1 H2) (hq : RepP (upd H2 b0 (.lst (vs ++ [.ref pt]))) [.ref pt] q) : PgS H (upd H2 b0 (.lst (vs ++ [.ref pt]))) R T (b0 :: a1) (g0.app q :: g1) ts := by
  have tk : TK H1 (upd H2 b0 (.lst (vs ++ [.ref pt]))) := s.tk.trans (TK.lst (s _ _ h0))
  have nb : ∀ b ∈ a1, b ≠ b0 := fun b hb e => (List.nodup_cons.mp (List.nodup_cons.mp (List.nodup_cons.mp h.nd).2).2).1 (by rw [← e]; exact hb)
  have hrows := h.rows
  cases hrows with
  | cons r t =>
    refine ⟨(h.sm.trans s).upd_new (h.fr b0 (by simp)), ?_, ?_, .cons ⟨_, upd_same, (r0.mono tk).app hq⟩ (rowsP_mono tk t fun b hb o ho => ?_), h.nd, h.fr, h.gl⟩
    · rw [upd_ne (h.nT b0 (List.mem_cons_self ..)).symm]
      exact s _ _ h.hT
    · rw [upd_ne (h.nR b0 (List.mem_cons_self ..)).symm]
      exact s _ _ h.hR
    · rw [upd_ne (nb b hb)]
      exact s _ _ ho
/-- the innermost row taken off, and its tag -/
theorem PgS.two (h : PgS H H1 R T as gs (t :: ts)) : ∃ b0 b1 a2 g0 g1 g2 vs0 vs1, as = b0 :: b1 :: a2 ∧ gs = g0 :: g1 :: g2 ∧ H1 b0 = some (.lst vs0) ∧ RepP H1 vs0 g0 ∧ H1 b1 = some (.lst vs1) ∧ RepP H1 vs1 g1 ∧ H1 R = some (.lst (((b1 :: a2).map V.ref).reverse ++ [.ref b0])) ∧ H1 T = some (.lst ((ts.map V.str).reverse ++ [.str t])) := by
  have hgl := h.gl
  have hR := h.hR
  have hT := h.hT
  have hrows := h.rows
  cases gs with
  | nil => simp at hgl
  | cons g0 gs =>
    cases gs with
    | nil => simp at hgl
    | cons g1 gs =>
      cases hrows with
      | @cons b0 _ as _ r0 hrows =>
        cases hrows with
        | @cons b1 _ as _ r1 hrows =>
          obtain ⟨vs0, h00, r00⟩ := r0
          obtain ⟨vs1, h11, r11⟩ := r1
          refine ⟨b0, b1, as, g0, g1, gs, vs0, vs1, rfl, rfl, h00, r00, h11, r11, ?_, ?_⟩
          · rw [hR, List.map_cons, List.reverse_cons]
          · rw [hT, List.map_cons, List.reverse_cons]
/-- behind both pops: a shorter state -/
theorem PgS.popped {b0 : Addr} {g0 : Pa} {a1 : List Addr} {g1 : List Pa} {t : Str} {l : Addr} {vs0 : List V} (h : PgS H H1 R T (b0 :: a1) (g0 :: g1) (t :: ts)) (hl : (upd H1 R (.lst ((a1.map V.ref).reverse))) l = none) : PgS H (upd (upd (upd H1 R (.lst ((a1.map V.ref).reverse))) l (.tup vs0)) T (.lst ((ts.map V.str).reverse))) R T a1 g1 ts := by
  obtain ⟨nlR, hl1⟩ := upd_none hl
  have hRT := h.RT
  have nlT : T ≠ l := ne_of_none h.hT hl1
  have hTb : (upd (upd H1 R (.lst ((a1.map V.ref).reverse))) l (.tup vs0)) T = some (.lst (((t :: ts).map V.str).reverse)) := by
    rw [upd_ne nlT, upd_ne hRT.symm]
    exact h.hT
  have tk : TK H1 (upd (upd (upd H1 R (.lst ((a1.map V.ref).reverse))) l (.tup vs0)) T (.lst ((ts.map V.str).reverse))) := ((TK.lst h.hR).trans (TK.new hl)).trans (TK.lst hTb)
  have hgl := h.gl
  have hrows := h.rows
  have nRs := h.nR
  have nTs := h.nT
  cases hrows with
  | cons r rt =>
    obtain ⟨ndR, ndT⟩ := List.nodup_cons.mp h.nd
    obtain ⟨ndT', ndA⟩ := List.nodup_cons.mp ndT
    refine ⟨((h.sm.upd_new (h.fr R (by simp))).upd_new (h.sm.free hl1)).upd_new (h.fr T (by simp)), upd_same, ?_, rowsP_mono tk rt fun b hb o ho => ?_, ?_, fun b hb => h.fr b ?_, by simp at hgl ⊢; (first | lia | omega)⟩
    · rw [upd_ne hRT, upd_ne nlR.symm]
      exact upd_same
    · rw [upd_ne (nTs b (List.mem_cons_of_mem _ hb)), upd_ne (ne_of_none ho hl1), upd_ne (nRs b (List.mem_cons_of_mem _ hb))]
      exact ho
    · refine List.nodup_cons.mpr ⟨fun z => ndR ?_, List.nodup_cons.mpr ⟨fun z => ndT' (List.mem_cons_of_mem _ z), (List.nodup_cons.mp ndA).2⟩⟩
      rcases List.mem_cons.mp z with z | z
      · exact absurd z hRT
      · exact List.mem_cons_of_mem _ (List.mem_cons_of_mem _ z)
    · simp only [List.mem_cons] at hb ⊢
      rcases hb with h | h | h
      · exact .inl h
      · exact .inr (.inl h)
      · exact .inr (.inr (.inr h))
end
/-- a closed tag -/
theorem PgS.shutting {H H1 : Hp} {R T b0 b1 l l2 : Addr} {a2 : List Addr} {g0 g1 : Pa} {g2 : List Pa} {t : Str} {ts : List Str} {vs0 vs1 : List V} (h : PgS H H1 R T (b0 :: b1 :: a2) (g0 :: g1 :: g2) (t :: ts)) (h0 : H1 b0 = some (.lst vs0)) (r0 : RepP H1 vs0 g0) (h1 : H1 b1 = some (.lst vs1)) (r1 : RepP H1 vs1 g1)
    (hl : (upd H1 R (.lst ((b1 :: a2).map V.ref).reverse)) l = none) (hl2 : (upd (upd (upd H1 R (.lst ((b1 :: a2).map V.ref).reverse)) l (.tup vs0)) T (.lst (ts.map V.str).reverse)) l2 = none) :
    (upd H1 R (.lst ((b1 :: a2).map V.ref).reverse)) b0 = some (.lst vs0) ∧ (upd (upd H1 R (.lst ((b1 :: a2).map V.ref).reverse)) l (.tup vs0)) R = some (.lst ((a2.map V.ref).reverse ++ [.ref b1])) ∧ (upd (upd H1 R (.lst ((b1 :: a2).map V.ref).reverse)) l (.tup vs0)) b1 = some (.lst vs1) ∧ (upd (upd H1 R (.lst ((b1 :: a2).map V.ref).reverse)) l (.tup vs0)) T = some (.lst ((ts.map V.str).reverse ++ [.str t])) ∧
    (upd (upd (upd (upd H1 R (.lst ((b1 :: a2).map V.ref).reverse)) l (.tup vs0)) T (.lst (ts.map V.str).reverse)) l2 (.tup [.str "tag", .str t, .ref l])) b1 = some (.lst vs1) ∧
    PgS H (upd (upd (upd (upd (upd H1 R (.lst ((b1 :: a2).map V.ref).reverse)) l (.tup vs0)) T (.lst (ts.map V.str).reverse)) l2 (.tup [.str "tag", .str t, .ref l])) b1 (.lst (vs1 ++ [.ref l2]))) R T (b1 :: a2) (g1.app (.tag t g0 .nil) :: g2) ts := by
  have hp := h.popped (vs0 := vs0) hl
  obtain ⟨nlR, hl1⟩ := upd_none hl
  have n0R := h.nR b0 (by simp)
  have n1R := h.nR b1 (by simp)
  have n1T := h.nT b1 (by simp)
  have n1l : b1 ≠ l := ne_of_none h1 hl1
  have nTl : T ≠ l := ne_of_none h.hT hl1
  have h1p : (upd (upd H1 R (.lst ((b1 :: a2).map V.ref).reverse)) l (.tup vs0)) b1 = some (.lst vs1) := by
    rw [upd_ne n1l, upd_ne n1R]
    exact h1
  have hTp : (upd (upd H1 R (.lst ((b1 :: a2).map V.ref).reverse)) l (.tup vs0)) T = some (.lst ((ts.map V.str).reverse ++ [.str t])) := by
    rw [upd_ne nTl, upd_ne h.RT.symm, h.hT, List.map_cons, List.reverse_cons]
  have h1q : (upd (upd (upd H1 R (.lst ((b1 :: a2).map V.ref).reverse)) l (.tup vs0)) T (.lst (ts.map V.str).reverse)) b1 = some (.lst vs1) := by
    rw [upd_ne n1T]
    exact h1p
  have tkq : TK H1 (upd (upd (upd H1 R (.lst ((b1 :: a2).map V.ref).reverse)) l (.tup vs0)) T (.lst (ts.map V.str).reverse)) := ((TK.lst h.hR).trans (TK.new hl)).trans (TK.lst hTp)
  have s2 : Same (upd (upd (upd H1 R (.lst ((b1 :: a2).map V.ref).reverse)) l (.tup vs0)) T (.lst (ts.map V.str).reverse)) (upd (upd (upd (upd H1 R (.lst ((b1 :: a2).map V.ref).reverse)) l (.tup vs0)) T (.lst (ts.map V.str).reverse)) l2 (.tup [.str "tag", .str t, .ref l])) := Same.new hl2
  have n2b : l2 ≠ b1 := fun z => by rw [z, h1q] at hl2; cases hl2
  have tk5 := s2.tk.trans (TK.lst (o := .lst (vs1 ++ [.ref l2])) (s2 _ _ h1q))
  refine ⟨by rw [upd_ne n0R]; exact h0, ?_, h1p, hTp, s2 _ _ h1q, hp.put (pt := l2) (q := .tag t g0 .nil) h1q (r1.mono tkq) s2 (.tag (q := l) ?_ ?_ ((r0.mono tkq).mono tk5) .nil)⟩
  · rw [upd_ne nlR.symm, upd_same, List.map_cons, List.reverse_cons]
  · rw [upd_ne n2b]
    exact upd_same
  · refine tk5 _ _ ?_
    rw [upd_ne nTl.symm]
    exact upd_same
/-- what is known of parts under way -/
structure PgB (tt : List Str) (gs : List Pa) (os : List Str) (k : Bool) (i : Nat) : Prop where
  sz : (gs.map Pa.sz).sum + os.length ≤ i
  nk : (gs.map Pa.nk).sum ≤ (if k = true then 1 else 0)
  tg : ∀ g ∈ gs, ∀ x ∈ g.tags, x ∈ tt
  op : ∀ x ∈ os, x ∈ tt
theorem PgB.shut {tt : List Str} {g0 g1 : Pa} {g2 : List Pa} {t : Str} {os : List Str} {k : Bool} {i : Nat} (h : PgB tt (g0 :: g1 :: g2) (t :: os) k i) : PgB tt (g1.app (.tag t g0 .nil) :: g2) os k i := by
  obtain ⟨h1, h2, h3, h4⟩ := h
  refine ⟨?_, ?_, fun g hg => ?_, fun x hx => h4 x (List.mem_cons_of_mem _ hx)⟩
  · simp only [List.map_cons, List.sum_cons, List.length_cons, Pa.sz_app, Pa.sz] at h1 ⊢
    (first | lia | omega)
  · simp only [List.map_cons, List.sum_cons, Pa.nk_app, Pa.nk] at h2 ⊢
    (first | lia | omega)
  · rcases List.mem_cons.mp hg with rfl | hg
    · intro x hx
      rw [Pa.tags_app] at hx
      rcases List.mem_append.mp hx with hx | hx
      · exact h3 g1 (by simp) x hx
      · simp only [Pa.tags, List.append_nil, List.mem_cons] at hx
        rcases hx with rfl | hx
        · exact h4 _ (List.mem_cons_self ..)
        · exact h3 g0 (by simp) x hx
    · exact h3 g (by simp [hg])
set_option maxHeartbeats 8000000 in
theorem ok_l_parts (B : ∀ x ∈ blts, mg x = none) (F : Fun K "_law_parts" "_law_parts" s_l_parts f fd) : FnOk P w K mg base CX0 1 f fd ["_law_cell_here", "_law_tags_here", "_law_modes"] spPartsS := by
  refine F.ok sc_l_parts (fun vs H Q E h => ?_) (fun cdv A outer s H vs Q E hr h => ?_)
  · obtain ⟨c, md, tg, ts, rfl, _⟩ := h
    rfl
  obtain ⟨c, md, tg, ts, rfl, c0, m0, m1, htg, ht3, q⟩ := h
  refine hideI ((defBody s_l_parts).drop 6) (pss_one (ps_ret (pe_callTy call_tuple_of rfl (B "tuple" (by decide)) bt_tuple (pa_cons (pe_ix ix_list (pv 3) pe_int (fun _ _ => rfl)) pa_nil)))) (fun u6 h6 e6 => ?_)
  refine hideI ((sBody ((defBody s_l_parts).getD 5 (.Pass ⟨0, 0, 0, 0⟩))).drop 1) (pss_one (ps_expr (pe_bm PySem.F.plainAttrs_list PySem.F.slot_list_append PySem.F.type_list_append mt_append (pe_ix ix_list (pv 3) (pe_un un_neg pe_int) (fun _ _ => rfl)) (pa_cons (pe_tup (pa_cons pe_str (pa_cons (pe_bm0 PySem.F.plainAttrs_list PySem.F.slot_list_pop PySem.F.type_list_pop mt_pop (pv 4)) (pa_cons (pv 9) pa_nil)))) pa_nil)))) (fun u5_1 h5_1 e5_1 => ?_)
  refine hideI ((sBody ((defBody s_l_parts).getD 5 (.Pass ⟨0, 0, 0, 0⟩))).drop 0) (pss_cons (ps_set (i := 9) sc_l_parts.nd rfl (Or.inl rfl) (pe_callTy call_tuple_of rfl (B "tuple" (by decide)) bt_tuple (pa_cons (pe_bm0 PySem.F.plainAttrs_list PySem.F.slot_list_pop PySem.F.type_list_pop mt_pop (pv 3)) pa_nil))) h5_1) (fun u5_0 h5_0 e5_0 => ?_)
  refine hideI ((defBody s_l_parts).drop 5) (pss_cons (ps_while PassesOwn.never (pt_cmpR op_gt (pe_callB call_len_seq rfl (B "len" (by decide)) PySem.boot_len (pa_cons (pv 4) pa_nil)) pe_int (nomark _))
      h5_0) h6) (fun u5 h5 e5 => ?_)
  refine hideI ((sBody ((sBody ((defBody s_l_parts).getD 4 (.Pass ⟨0, 0, 0, 0⟩))).getD 2 (.Pass ⟨0, 0, 0, 0⟩))).drop 1) (pss_one (ps_expr (pe_bm PySem.F.plainAttrs_list PySem.F.slot_list_append PySem.F.type_list_append mt_append (pv 3) (pa_cons (pe_lst pa_nil) pa_nil)))) (fun u4_2t1 h4_2t1 e4_2t1 => ?_)
  refine hideI ((sBody ((sBody ((defBody s_l_parts).getD 4 (.Pass ⟨0, 0, 0, 0⟩))).getD 2 (.Pass ⟨0, 0, 0, 0⟩))).drop 0) (pss_cons (ps_expr (pe_bm PySem.F.plainAttrs_list PySem.F.slot_list_append PySem.F.type_list_append mt_append (pv 4) (pa_cons (pe_ix ix_list (pv 1) (pe_op op_mod (pv 6) pe_int) (fun _ _ => rfl)) pa_nil))) h4_2t1) (fun u4_2t0 h4_2t0 e4_2t0 => ?_)
  refine hideI ((sBody ((sElse ((sBody ((defBody s_l_parts).getD 4 (.Pass ⟨0, 0, 0, 0⟩))).getD 2 (.Pass ⟨0, 0, 0, 0⟩))).getD 0 (.Pass ⟨0, 0, 0, 0⟩))).drop 1) (pss_one (ps_expr (pe_bm PySem.F.plainAttrs_list PySem.F.slot_list_append PySem.F.type_list_append mt_append (pe_ix ix_list (pv 3) (pe_un un_neg pe_int) (fun _ _ => rfl)) (pa_cons (pe_tup (pa_cons pe_str (pa_cons (pe_bm0 PySem.F.plainAttrs_list PySem.F.slot_list_pop PySem.F.type_list_pop mt_pop (pv 4)) (pa_cons (pv 9) pa_nil)))) pa_nil)))) (fun u4_2e0t1 h4_2e0t1 e4_2e0t1 => ?_)
  refine hideI ((sBody ((sElse ((sBody ((defBody s_l_parts).getD 4 (.Pass ⟨0, 0, 0, 0⟩))).getD 2 (.Pass ⟨0, 0, 0, 0⟩))).getD 0 (.Pass ⟨0, 0, 0, 0⟩))).drop 0) (pss_cons (ps_set (i := 9) sc_l_parts.nd rfl (Or.inl rfl) (pe_callTy call_tuple_of rfl (B "tuple" (by decide)) bt_tuple (pa_cons (pe_bm0 PySem.F.plainAttrs_list PySem.F.slot_list_pop PySem.F.type_list_pop mt_pop (pv 3)) pa_nil))) h4_2e0t1) (fun u4_2e0t0 h4_2e0t0 e4_2e0t0 => ?_)
  refine hideI ((sBody ((sElse ((sElse ((sBody ((defBody s_l_parts).getD 4 (.Pass ⟨0, 0, 0, 0⟩))).getD 2 (.Pass ⟨0, 0, 0, 0⟩))).getD 0 (.Pass ⟨0, 0, 0, 0⟩))).getD 0 (.Pass ⟨0, 0, 0, 0⟩))).drop 1) (pss_one (ps_expr (pe_bm PySem.F.plainAttrs_list PySem.F.slot_list_append PySem.F.type_list_append mt_append (pe_ix ix_list (pv 3) (pe_un un_neg pe_int) (fun _ _ => rfl)) (pa_cons (pe_tup (pa_cons pe_str (pa_cons (pe_op op_mod (pv 6) (pv 2)) pa_nil))) pa_nil)))) (fun u4_2e0e0t1 h4_2e0e0t1 e4_2e0e0t1 => ?_)
  refine hideI ((sBody ((sElse ((sElse ((sBody ((defBody s_l_parts).getD 4 (.Pass ⟨0, 0, 0, 0⟩))).getD 2 (.Pass ⟨0, 0, 0, 0⟩))).getD 0 (.Pass ⟨0, 0, 0, 0⟩))).getD 0 (.Pass ⟨0, 0, 0, 0⟩))).drop 0) (pss_cons (ps_set (i := 5) sc_l_parts.nd rfl (Or.inl rfl) pe_bl) h4_2e0e0t1) (fun u4_2e0e0t0 h4_2e0e0t0 e4_2e0e0t0 => ?_)
  refine hideI ((sElse ((sElse ((sBody ((defBody s_l_parts).getD 4 (.Pass ⟨0, 0, 0, 0⟩))).getD 2 (.Pass ⟨0, 0, 0, 0⟩))).getD 0 (.Pass ⟨0, 0, 0, 0⟩))).drop 0) (pss_one (ps_if (pt_not (pt_truth (pv 5) (fun _ => rfl)))
      h4_2e0e0t0
      pss_nil)) (fun u4_2e0e0 h4_2e0e0 e4_2e0e0 => ?_)
  refine hideI ((sElse ((sBody ((defBody s_l_parts).getD 4 (.Pass ⟨0, 0, 0, 0⟩))).getD 2 (.Pass ⟨0, 0, 0, 0⟩))).drop 0) (pss_one (ps_if (PW.pt (pw_and (pt_cmpR op_eq (pv 8) pe_int (nomark _)) (pw_and1 (pt_cmpR op_gt (pe_callB call_len_seq rfl (B "len" (by decide)) PySem.boot_len (pa_cons (pv 4) pa_nil)) pe_int (nomark _)))))
      h4_2e0t0
      h4_2e0e0)) (fun u4_2e0 h4_2e0 e4_2e0 => ?_)
  refine hideI ((sBody ((defBody s_l_parts).getD 4 (.Pass ⟨0, 0, 0, 0⟩))).drop 2) (pss_one (ps_if (pt_cmpR op_lt (pv 8) pe_int (nomark _))
      h4_2t0
      h4_2e0)) (fun u4_2 h4_2 e4_2 => ?_)
  refine hideI ((sBody ((defBody s_l_parts).getD 4 (.Pass ⟨0, 0, 0, 0⟩))).drop 1) (pss_cons (ps_set (i := 6) sc_l_parts.nd rfl (Or.inl rfl) (pe_op op_fdiv (pv 6) pe_int)) h4_2) (fun u4_1 h4_1 e4_1 => ?_)
  refine hideI ((sBody ((defBody s_l_parts).getD 4 (.Pass ⟨0, 0, 0, 0⟩))).drop 0) (pss_cons (ps_set (i := 8) sc_l_parts.nd rfl (Or.inl rfl) (pe_op op_mod (pv 6) pe_int)) h4_1) (fun u4_0 h4_0 e4_0 => ?_)
  refine hideI ((defBody s_l_parts).drop 4) (pss_cons (ps_for PassesOwn.never rfl (pi_range1 rfl (B "range" (by decide)) (pa_cons (pe_op op_mod (pv 0) pe_int) pa_nil)) (pg_name (i := 7) sc_l_parts.nd rfl (Or.inl rfl))
      h4_0) h5) (fun u4 h4 e4 => ?_)
  refine hideI ((defBody s_l_parts).drop 3) (pss_cons (ps_set (i := 6) sc_l_parts.nd rfl (Or.inl rfl) (pe_op op_fdiv (pv 0) pe_int)) h4) (fun u3 h3 e3 => ?_)
  refine hideI ((defBody s_l_parts).drop 2) (pss_cons (ps_set (i := 5) sc_l_parts.nd rfl (Or.inl rfl) (pe_cmpR op_eq (pe_op op_mod (pe_op op_fdiv (pv 0) pe_int) pe_int) pe_int (nomark _))) h3) (fun u2 h2 e2 => ?_)
  refine hideI ((defBody s_l_parts).drop 1) (pss_cons (ps_set (i := 4) sc_l_parts.nd rfl (Or.inl rfl) (pe_lst pa_nil)) h2) (fun u1 h1 e1 => ?_)
  refine hideI ((defBody s_l_parts).drop 0) (pss_cons (ps_set (i := 3) sc_l_parts.nd rfl (Or.inl rfl) (pe_lst (pa_cons (pe_lst pa_nil) pa_nil))) h1) (fun u0 h0 e0 => ?_)
  refine ⟨u0, h0, ?_⟩
  have m6 := Int.emod_nonneg c (by decide : (6 : Int) ≠ 0)
  have m6' := Int.emod_lt_of_pos c (by decide : (0 : Int) < 6)
  refine by_eq e0 ?_
  refine ⟨by decide, fun a0 h0 => ⟨(by show 1 ≤ sizeLine; decide), fun R hR => ?_⟩⟩
  refine by_eq e1 ?_
  refine ⟨by decide, fun T hT => ?_⟩
  have g0 := PgS.start h0 hR hT
  refine by_eq e2 ?_
  refine ⟨_, rfl, _, _, rfl, rfl, ⟨by decide, by decide⟩, _, _, rfl, rfl, (by show (0 : Int) < 3; decide), rfl, ?_⟩
  generalize hk0 : decide (V.int (c / 6 % 3) = V.int 0) = kb0
  refine by_eq e3 ?_
  refine ⟨_, rfl, _, _, rfl, rfl, ⟨by decide, by decide⟩, ?_⟩
  refine by_eq e4 ?_
  generalize upd (upd (upd H a0 (.lst [])) R (.lst [.ref a0])) T (.lst []) = H1 at g0 ⊢
  refine ⟨_, rfl, _, _, rfl, rfl, (by show (0 : Int) < 6; decide), _, rfl, by (first | lia | omega), by (first | lia | omega), for_range (lo := 0) (n := (c % 6).toNat) (fun i σ H2 => ∃ (as : List Addr) (gs : List Pa) (os : List Str) (kb : Bool) (re : Int) (v7 v8 v9 : Option V), σ = [some (.int c), some (.ref tg), some (.int md), some (.ref R), some (.ref T), some (.bl kb), some (.int re), v7, v8, v9] ∧ PgS H H2 R T as gs os ∧ PgB ts gs os kb i)
    ⟨_, _, _, kb0, _, none, none, none, rfl, g0, ⟨Nat.le_refl _, Nat.zero_le _, fun g hg => by rw [List.mem_singleton.mp hg]; exact fun _ h => (nomatch h), fun _ h => (nomatch h)⟩⟩ ?_ ?_⟩
  · rintro i σ H2 hi ⟨as, gs, os, kb, re, v7, v8, v9, rfl, hg, hb⟩
    have hi6 : i < 6 := by (first | lia | omega)
    have hb1 := hb.sz
    have hb2 := hb.nk
    have htg2 := hg.sm _ _ htg
    refine by_eq e4_0 ?_
    refine ⟨_, rfl, _, _, rfl, rfl, (by show (0 : Int) < 5; decide), ?_⟩
    refine by_eq e4_1 ?_
    refine ⟨_, rfl, _, _, rfl, rfl, ⟨by decide, by decide⟩, ?_⟩
    refine by_eq e4_2 ?_
    have hgl := hg.gl
    have hal : as.length = gs.length := Paired.length hg.rows
    refine ⟨_, rfl, _, _, rfl, rfl, _, rfl, ite2 (fun cc => ?_) (fun cc => ?_)⟩
    · obtain ⟨k, hk, hkl⟩ := modN (re / 5) (n := 2) (by decide)
      have hkl' : k < ts.length := by (first | lia | omega)
      have hat : atI (ts.map V.str) (re / 5 % 2) = some (.str ts[k]) := by
        have := strs_at (ws := ts) (n := k) hkl'
        rw [← hk] at this
        exact this
      refine by_eq e4_2t0 ?_
      refine ⟨_, rfl, .inl ⟨rfl, _, SqL.of hg.hT⟩, _, rfl, _, rfl, _, _, rfl, rfl, (by show (0 : Int) < 2; decide), tg, _, _, _, rfl, rfl, SqL.of htg2, hat, T, _, _, rfl, rfl, hg.hT, len1000' (by rw [List.length_reverse, List.length_map]; (first | lia | omega)), ?_⟩
      have hRa2 : (upd H2 T (.lst ((os.map V.str).reverse ++ [.str ts[k]]))) R = some (.lst (as.map V.ref).reverse) := by
        rw [upd_ne hg.RT]
        exact hg.hR
      refine by_eq e4_2t1 ?_
      refine ⟨_, rfl, .inl ⟨rfl, _, SqL.of hRa2⟩, by decide, fun l hl => ?_⟩
      obtain ⟨_, hl1⟩ := upd_none hl
      have hRb : (upd (upd H2 T (.lst ((os.map V.str).reverse ++ [.str ts[k]]))) l (.lst [])) R = some (.lst (as.map V.ref).reverse) := by
        rw [upd_ne (ne_of_none hg.hR hl1)]
        exact hRa2
      refine ⟨R, _, _, rfl, rfl, hRb, len1000' (by rw [List.length_reverse, List.length_map]; (first | lia | omega)), ?_⟩
      refine ⟨_, _, _, kb, _, _, _, _, rfl, hg.opened hl, ⟨?_, ?_, fun g hg' => ?_, fun x hx => ?_⟩⟩
      · simp only [List.map_cons, List.sum_cons, List.length_cons, Pa.sz]
        (first | lia | omega)
      · simp only [List.map_cons, List.sum_cons, Pa.nk]
        (first | lia | omega)
      · rcases List.mem_cons.mp hg' with rfl | hg'
        · exact fun _ h => (nomatch h)
        · exact hb.tg g hg'
      · rcases List.mem_cons.mp hx with rfl | hx
        · exact List.getElem_mem hkl'
        · exact hb.op x hx
    · have hb' : PgB ts gs os kb (i + 1) := ⟨by (first | lia | omega), hb2, hb.tg, hb.op⟩
      refine via (t := u4_2e0e0) (R := fun σ H3 => σ = [some (.int c), some (.ref tg), some (.int md), some (.ref R), some (.ref T), some (.bl kb), some (.int (re / 5)), some (.int (0 + (i : Int))), some (.int (re % 5)), v9] ∧ H3 = H2) ?_ fun fin => ?_
      · rintro σ H3 ⟨rfl, rfl⟩
        refine by_eq e4_2e0e0 ?_
        refine ⟨_, rfl, kb, rfl, ?_⟩
        cases kb with
        | true => exact iteF ⟨_, _, _, true, _, _, _, _, rfl, hg, hb'⟩
        | false =>
          refine iteT ?_
          refine by_eq e4_2e0e0t0 ?_
          refine by_eq e4_2e0e0t1 ?_
          -- the innermost row
          have hrows := hg.rows
          cases gs with
          | nil => simp at hgl
          | cons g0 gs =>
            cases hrows with
            | @cons b0 _ a1 _ r0 hrows =>
              obtain ⟨vs0, h00, r00⟩ := r0
              have hRl : H3 R = some (.lst ((a1.map V.ref).reverse ++ [.ref b0])) := by rw [hg.hR, List.map_cons, List.reverse_cons]
              have hvl := r00.length
              have hsz0 : g0.sz ≤ 5 := by
                simp only [List.map_cons, List.sum_cons] at hb1
                (first | lia | omega)
              refine ⟨_, rfl, 1, rfl, R, _, -1, .ref b0, rfl, rfl, SqL.of hRl, atI_last _ _, .inl ⟨rfl, _, SqL.of h00⟩, _, rfl, _, rfl, _, _, rfl, rfl, m0, (by show 2 ≤ sizeLine; decide), fun pt hpt => ?_⟩
              have s5 : Same H3 (upd H3 pt (.tup [.str "kids", .int (re / 5 % md)])) := Same.new hpt
              have npb : pt ≠ b0 := fun z => by rw [z, h00] at hpt; cases hpt
              refine ⟨b0, _, _, rfl, rfl, s5 _ _ h00, len1000' (by (first | lia | omega)), ?_⟩
              refine ⟨_, _, _, true, _, _, _, _, rfl, hg.put (q := .kids (re / 5 % md) .nil) h00 r00 s5 (.kids (by rw [upd_ne npb]; exact upd_same) .nil), ⟨?_, ?_, fun g hg' => ?_, hb.op⟩⟩
              · simp only [List.map_cons, List.sum_cons, Pa.sz_app, Pa.sz] at hb1 ⊢
                (first | lia | omega)
              · rw [if_neg (by decide)] at hb2
                rw [if_pos rfl]
                simp only [List.map_cons, List.sum_cons, Pa.nk_app, Pa.nk] at hb2 ⊢
                (first | lia | omega)
              · rcases List.mem_cons.mp hg' with rfl | hg'
                · intro x hx
                  rw [Pa.tags_app] at hx
                  rcases List.mem_append.mp hx with hx | hx
                  · exact hb.tg g0 (List.mem_cons_self ..) x hx
                  · cases hx
                · exact hb.tg g (List.mem_cons_of_mem _ hg')
      · refine by_eq e4_2e0 ?_
        refine ⟨_, rfl, rfl, _, rfl, ite2 (fun c2 => ?_) (fun c2 => iteF (fin _ _ ⟨rfl, rfl⟩))⟩
        refine ⟨_, rfl, T, _, rfl, .inl (SqL.of hg.hT), _, _, rfl, rfl, _, rfl, ite2 (fun c3 => ?_) (fun c3 => fin _ _ ⟨rfl, rfl⟩)⟩
        cases os with
        | nil => exact absurd (of_decide_eq_true c3) (by decide)
        | cons t os =>
          obtain ⟨b0, b1, a2, g0, g1, g2, vs0, vs1, rfl, rfl, h00, r00, h11, r11, hRs, hTs⟩ := hg.two
          have hv1 := r11.length
          have hsz1 : g1.sz ≤ 5 := by
            simp only [List.map_cons, List.sum_cons] at hb1
            (first | lia | omega)
          refine by_eq e4_2e0t0 ?_
          refine ⟨_, rfl, .inl ⟨rfl, _, SqL.of hRs⟩, R, _, _, rfl, rfl, hRs, snoc_last _ _, ?_⟩
          rw [snoc_drop]
          have h0R : (upd H2 R (.lst ((b1 :: a2).map V.ref).reverse)) b0 = some (.lst vs0) := by
            rw [upd_ne (hg.nR b0 (by simp))]
            exact h00
          refine ⟨b0, vs0, rfl, .inl ⟨SqL.of h0R, fun l hl => ?_⟩⟩
          refine by_eq e4_2e0t1 ?_
          have hRb : (upd (upd H2 R (.lst ((b1 :: a2).map V.ref).reverse)) l (.tup vs0)) R = some (.lst ((a2.map V.ref).reverse ++ [.ref b1])) := by
            rw [upd_ne (upd_none hl).1.symm, upd_same, List.map_cons, List.reverse_cons]
          have h1b : (upd (upd H2 R (.lst ((b1 :: a2).map V.ref).reverse)) l (.tup vs0)) b1 = some (.lst vs1) := by
            rw [upd_ne (ne_of_none h11 (upd_none hl).2), upd_ne (hg.nR b1 (by simp))]
            exact h11
          have hTb : (upd (upd H2 R (.lst ((b1 :: a2).map V.ref).reverse)) l (.tup vs0)) T = some (.lst ((os.map V.str).reverse ++ [.str t])) := by
            rw [upd_ne (ne_of_none hg.hT (upd_none hl).2), upd_ne hg.RT.symm]
            exact hTs
          refine ⟨_, rfl, 1, rfl, R, _, -1, .ref b1, rfl, rfl, SqL.of hRb, atI_last _ _, .inl ⟨rfl, _, SqL.of h1b⟩, _, rfl, .inl ⟨rfl, _, SqL.of hTb⟩, T, _, _, rfl, rfl, hTb, snoc_last _ _, ?_⟩
          rw [snoc_drop]
          refine ⟨_, rfl, (by show 3 ≤ sizeLine; decide), fun l2 hl2 => ?_⟩
          obtain ⟨_, _, _, _, z5, z6⟩ := hg.shutting h00 r00 h11 r11 hl hl2
          refine ⟨b1, _, _, rfl, rfl, z5, len1000' (by (first | lia | omega)), ?_⟩
          exact ⟨_, _, _, kb, _, _, _, _, rfl, z6, hb'.shut⟩
  · rintro σ H2 ⟨as, gs, os, kb, re, v7, v8, v9, rfl, hg, hb⟩
    have hsz6 : (gs.map Pa.sz).sum + os.length ≤ 5 := by
      have := hb.sz
      (first | lia | omega)
    have hb' : PgB ts gs os kb 5 := ⟨hsz6, hb.nk, hb.tg, hb.op⟩
    refine by_eq e5 ?_
    let W : Nat → St → Hp → Prop := fun n σ H3 => ∃ (as : List Addr) (gs : List Pa) (os : List Str) (v9 : Option V), σ = [some (.int c), some (.ref tg), some (.int md), some (.ref R), some (.ref T), some (.bl kb), some (.int re), v7, v8, v9] ∧ PgS H H3 R T as gs os ∧ PgB ts gs os kb 5 ∧ n = os.length
    refine ⟨W, ⟨_, as, gs, os, v9, rfl, hg, hb', rfl⟩, ?_⟩
    clear hb hsz6
    rintro n σ H3 ⟨as, gs, os, v9, rfl, hg, hb, rfl⟩
    refine ⟨_, rfl, T, _, rfl, .inl (SqL.of hg.hT), _, _, rfl, rfl, _, rfl, ite2 (fun cc => ?_) (fun cc => ?_)⟩
    · cases os with
      | nil => exact absurd (of_decide_eq_true cc) (by decide)
      | cons t os =>
        obtain ⟨b0, b1, a2, g0, g1, g2, vs0, vs1, rfl, rfl, h00, r00, h11, r11, hRs, hTs⟩ := hg.two
        have hv1 := r11.length
        have hsz1 : g1.sz ≤ 5 := by
          have := hb.sz
          simp only [List.map_cons, List.sum_cons] at this
          (first | lia | omega)
        refine ⟨fun σ' H' => ∃ m', m' < (t :: os).length ∧ W m' σ' H', fun _ _ h => h, ?_⟩
        refine by_eq e5_0 ?_
        refine ⟨_, rfl, .inl ⟨rfl, _, SqL.of hRs⟩, R, _, _, rfl, rfl, hRs, snoc_last _ _, ?_⟩
        rw [snoc_drop]
        have h0R : (upd H3 R (.lst ((b1 :: a2).map V.ref).reverse)) b0 = some (.lst vs0) := by
          rw [upd_ne (hg.nR b0 (by simp))]
          exact h00
        refine ⟨b0, vs0, rfl, .inl ⟨SqL.of h0R, fun l hl => ?_⟩⟩
        refine by_eq e5_1 ?_
        have hRb : (upd (upd H3 R (.lst ((b1 :: a2).map V.ref).reverse)) l (.tup vs0)) R = some (.lst ((a2.map V.ref).reverse ++ [.ref b1])) := by
          rw [upd_ne (upd_none hl).1.symm, upd_same, List.map_cons, List.reverse_cons]
        have h1b : (upd (upd H3 R (.lst ((b1 :: a2).map V.ref).reverse)) l (.tup vs0)) b1 = some (.lst vs1) := by
          rw [upd_ne (ne_of_none h11 (upd_none hl).2), upd_ne (hg.nR b1 (by simp))]
          exact h11
        have hTb : (upd (upd H3 R (.lst ((b1 :: a2).map V.ref).reverse)) l (.tup vs0)) T = some (.lst ((os.map V.str).reverse ++ [.str t])) := by
          rw [upd_ne (ne_of_none hg.hT (upd_none hl).2), upd_ne hg.RT.symm]
          exact hTs
        refine ⟨_, rfl, 1, rfl, R, _, -1, .ref b1, rfl, rfl, SqL.of hRb, atI_last _ _, .inl ⟨rfl, _, SqL.of h1b⟩, _, rfl, .inl ⟨rfl, _, SqL.of hTb⟩, T, _, _, rfl, rfl, hTb, snoc_last _ _, ?_⟩
        rw [snoc_drop]
        refine ⟨_, rfl, (by show 3 ≤ sizeLine; decide), fun l2 hl2 => ?_⟩
        obtain ⟨_, _, _, _, z5, z6⟩ := hg.shutting h00 r00 h11 r11 hl hl2
        refine ⟨b1, _, _, rfl, rfl, z5, len1000' (by (first | lia | omega)), ?_⟩
        exact ⟨os.length, by rw [List.length_cons]; (first | lia | omega), _, _, os, _, rfl, z6, hb.shut, rfl⟩
    · cases os with
      | cons t os =>
        refine absurd (decide_eq_true ?_) cc
        show (0 : Int) < ((((t :: os).map V.str).reverse.length : Nat) : Int)
        rw [List.length_reverse, List.length_map, List.length_cons]
        (first | lia | omega)
      | nil =>
        have hgl := hg.gl
        have hrows := hg.rows
        cases gs with
        | nil => simp at hgl
        | cons g gs =>
          obtain rfl : gs = [] := List.eq_nil_of_length_eq_zero (by simpa using hgl)
          cases hrows with
          | @cons b _ _ _ r hrows =>
            cases hrows
            obtain ⟨vs, hbb, hgr⟩ := r
            refine by_eq e6 ?_
            refine ⟨_, rfl, R, _, 0, .ref b, rfl, rfl, SqL.of hg.hR, rfl, b, vs, rfl, .inl ⟨SqL.of hbb, fun r hr => ?_⟩⟩
            have h1 := hb.sz
            have h2 := hb.nk
            simp only [List.map_cons, List.map_nil, List.sum_cons, List.sum_nil] at h1 h2
            refine q r vs g _ (hg.sm.upd_new (hg.sm.free hr)) upd_same (hgr.mono (TK.new hr)) ?_ (by (first | lia | omega)) (hb.tg g (List.mem_cons_self ..))
            split at h2 <;> (first | lia | omega)
/-- rules made: a dict by (mode, tag), each with parts -/
def RkL (H : Hp) (m : List (List Key × V)) (rs : List (Int × Str × Pa)) : Prop := Paired (fun (kv : List Key × V) (r : Int × Str × Pa) => kv.1 = rkey r.1 r.2.1 ∧ ∃ q ys, kv.2 = V.ref q ∧ H q = some (.tup ys) ∧ RepP H ys r.2.2) m rs
theorem RkL.tk {H H' : Hp} (k : TK H H') : ∀ {m : List (List Key × V)} {rs : List (Int × Str × Pa)}, RkL H m rs → RkL H' m rs
  | _, _, .nil => .nil
  | _, _, .cons ⟨e, q, ys, h1, h2, h3⟩ t => .cons ⟨e, q, ys, h1, k _ _ h2, h3.mono k⟩ (RkL.tk k t)
structure RsOk (tt : List Str) (rs : List (Int × Str × Pa)) : Prop where
  nd : (rs.map fun r => rkey r.1 r.2.1).Nodup
  ok : ∀ r ∈ rs, r.2.1 ∈ tt ∧ r.2.2.nk ≤ 1 ∧ r.2.2.sz ≤ 5 ∧ ∀ x ∈ r.2.2.tags, x ∈ tt
theorem RkL.keys {H : Hp} : ∀ {m : List (List Key × V)} {rs : List (Int × Str × Pa)}, RkL H m rs → m.map (·.1) = rs.map fun r => rkey r.1 r.2.1
  | _, _, .nil => rfl
  | _, _, .cons ⟨e, _⟩ t => by rw [List.map_cons, List.map_cons, e, RkL.keys t]
/-- one rule more, or another in its place -/
theorem RkL.put {H : Hp} {m : List (List Key × V)} {rs : List (Int × Str × Pa)} {tt : List Str} (h : RkL H m rs) (ho : RsOk tt rs) {i : Int} {t : Str} {p : Pa} {q : Addr} {ys : List V} (hq : H q = some (.tup ys)) (hp : RepP H ys p) (hi : t ∈ tt ∧ p.nk ≤ 1 ∧ p.sz ≤ 5 ∧ ∀ x ∈ p.tags, x ∈ tt) : ∃ rs', RkL H (putK m (rkey i t) (.ref q)) rs' ∧ RsOk tt rs' ∧ rs'.length ≤ rs.length + 1 := by
  unfold putK
  by_cases c : (m.any fun kv => decide (kv.1 = rkey i t)) = true
  · rw [if_pos c]
    let g : Int × Str × Pa → Int × Str × Pa := fun r => if rkey r.1 r.2.1 = rkey i t then (r.1, r.2.1, p) else r
    have hg : ∀ r, (fun r : Int × Str × Pa => rkey r.1 r.2.1) (g r) = rkey r.1 r.2.1 := fun r => by
      show rkey (g r).1 (g r).2.1 = _
      by_cases z : rkey r.1 r.2.1 = rkey i t
      · simp only [g, if_pos z]
      · simp only [g, if_neg z]
    refine ⟨rs.map g, ?_, ⟨?_, fun r hr => ?_⟩, by rw [List.length_map]; (first | lia | omega)⟩
    · clear c ho
      induction h with
      | nil => exact .nil
      | @cons kv r m rs hh tl ih =>
        refine .cons ?_ ih
        obtain ⟨e, q', ys', e1, e2, e3⟩ := hh
        by_cases z : kv.1 = rkey i t
        · have z' : rkey r.1 r.2.1 = rkey i t := by rw [← e]; exact z
          simp only [g, if_pos z, if_pos z']
          exact ⟨e, q, ys, rfl, hq, hp⟩
        · have z' : ¬ rkey r.1 r.2.1 = rkey i t := by rw [← e]; exact z
          simp only [g, if_neg z, if_neg z']
          exact ⟨e, q', ys', e1, e2, e3⟩
    · rw [List.map_map]
      have : ((fun r : Int × Str × Pa => rkey r.1 r.2.1) ∘ g) = fun r => rkey r.1 r.2.1 := funext hg
      rw [this]
      exact ho.nd
    · obtain ⟨r0, hr0, rfl⟩ := List.mem_map.mp hr
      have := ho.ok r0 hr0
      by_cases z : rkey r0.1 r0.2.1 = rkey i t
      · simp only [g, if_pos z]
        exact ⟨this.1, hi.2⟩
      · simp only [g, if_neg z]
        exact this
  · rw [if_neg c]
    refine ⟨rs ++ [(i, t, p)], Paired.app h (.cons ⟨rfl, q, ys, rfl, hq, hp⟩ .nil), ⟨?_, fun r hr => ?_⟩, by rw [List.length_append]; exact Nat.le_refl _⟩
    · rw [List.map_append]
      refine List.nodup_append.mpr ⟨ho.nd, by simp, fun x hx y hy e => ?_⟩
      rw [← h.keys] at hx
      obtain ⟨kv, hkv, rfl⟩ := List.mem_map.mp hx
      have e2 : y = rkey i t := by simpa using hy
      refine c (List.any_eq_true.mpr ⟨kv, hkv, decide_eq_true (e.trans e2)⟩)
    · rcases List.mem_append.mp hr with hr | hr
      · exact ho.ok r hr
      · rw [List.mem_singleton.mp hr]
        exact hi
def spRulesS (K : PySem.W.Frag) : Sp := fun vs H Q _ => ∃ (a tg : Addr) (ns : List Int) (md : Int) (ts : List Str), vs = [.ref a, .int md, .ref tg] ∧ SqL K H a (ns.map V.int) ∧ ns.length ≤ 63 ∧ 0 < md ∧ md < 100 ∧ H tg = some (.lst (ts.map V.str)) ∧ ts.length = 2 ∧ ∀ (d : Addr) (m : List (List Key × V)) (rs : List (Int × Str × Pa)) (H' : Hp), Same H H' → H d = none → H' d = some (.dT m) → RkL H' m rs → RsOk ts rs → rs.length ≤ 10 → Q (.ref d) H'
set_option maxHeartbeats 4000000 in
theorem ok_l_rules (B : ∀ x ∈ blts, mg x = none) (g_l_cell : Has P w K mg base "_law_cell" ["_law_script", "_law_k"] 1 (spCellS K)) (g_l_parts : Has P w K mg base "_law_parts" ["_law_cell_here", "_law_tags_here", "_law_modes"] 1 spPartsS) (F : Fun K "_law_rules" "_law_rules" s_l_rules f fd) : FnOk P w K mg base CX0 2 f fd ["_law_script", "_law_modes", "_law_tags_here"] (spRulesS K) := by
  refine F.ok sc_l_rules (fun vs H Q E h => ?_) (fun cdv A outer s H vs Q E hr h => ?_)
  · obtain ⟨a, tg, ns, md, ts, rfl, _⟩ := h
    rfl
  obtain ⟨a, tg, ns, md, ts, rfl, hS, h63, m0, m1, htg, ht3, q⟩ := h
  have hu1 : (A.deeper (PyProof.Rows.envOfC (Str.ofString "_law_rules") (defScope s_l_rules) s.heap.objs.size f cdv)).units + 1 < cLine := by have := hr.un; (first | lia | omega)
  refine ⟨_, (pss_cons (ps_set (i := 3) sc_l_rules.nd rfl (Or.inl rfl) pe_dnewT)
    (pss_cons (ps_for PassesOwn.never rfl (pi_range1 rfl (B "range" (by decide)) (pa_cons (pe_op op_add pe_int (pe_op op_mod (pe_has g_l_cell hr rfl (pa_cons (pv 0) (pa_cons pe_int pa_nil))) pe_int)) pa_nil)) (pg_name (i := 4) sc_l_rules.nd rfl (Or.inl rfl))
      (pss_cons (ps_set (i := 5) sc_l_rules.nd rfl (Or.inl rfl) (pe_op op_mod (pe_has g_l_cell hr rfl (pa_cons (pv 0) (pa_cons (pe_op op_add pe_int (pv 4)) pa_nil))) (pe_op op_pow pe_int pe_int)))
        (pss_one (ps_dput hu1 (pv 3) (pe_tup (pa_cons (pe_op op_mod (pv 5) (pv 1)) (pa_cons (pe_ix ix_list (pv 2) (pe_op op_mod (pe_op op_fdiv (pv 5) pe_int) pe_int) (fun _ _ => rfl)) pa_nil))) (pe_has g_l_parts hr rfl (pa_cons (pe_op op_fdiv (pv 5) pe_int) (pa_cons (pv 2) (pa_cons (pv 1) pa_nil)))) rfl))))
    (pss_one (ps_ret (pv 3))))), ?_⟩
  refine fun d hd => ?_
  have s0 : Same H (upd H d (.dT [])) := Same.new hd
  refine ⟨_, rfl, a, ns, 1, rfl, s0.seq hS, h63, by decide, by decide, fun v => ?_⟩
  have v7 := Int.emod_nonneg v (by decide : (6 : Int) ≠ 0)
  have v7' := Int.emod_lt_of_pos v (by decide : (0 : Int) < 6)
  refine ⟨_, _, rfl, rfl, (by show (0 : Int) < 6; decide), _, _, rfl, rfl, _, rfl, (by show -2 ^ 62 ≤ 1 + v % 6; (first | lia | omega)), (by show 1 + v % 6 < 2 ^ 62; (first | lia | omega)), for_range (lo := 0) (n := (1 + v % 6).toNat) (fun i σ H1 => ∃ (v4 v5 : Option V) (m : List (List Key × V)) (rs : List (Int × Str × Pa)), σ = [some (.ref a), some (.int md), some (.ref tg), some (.ref d), v4, v5] ∧ Same H H1 ∧ H1 d = some (.dT m) ∧ RkL H1 m rs ∧ RsOk ts rs ∧ rs.length ≤ i)
    ⟨none, none, [], [], rfl, s0, upd_same, .nil, ⟨by simp, fun _ h => (nomatch h)⟩, Nat.le_refl _⟩ ?_ ?_⟩
  · rintro i σ H1 hi ⟨v4, v5, m, rs, rfl, s1, hd1, hrk, hro, hrl⟩
    have hi7 : i < 7 := by (first | lia | omega)
    refine ⟨_, rfl, _, rfl, _, _, rfl, rfl, a, ns, _, rfl, s1.seq hS, h63, by (first | lia | omega), by (first | lia | omega), fun v => ?_⟩
    refine ⟨_, _, rfl, rfl, ⟨by decide, by decide, by decide⟩, _, _, rfl, rfl, (by show (0 : Int) < 10 ^ 9; decide), ?_⟩
    have w0 := Int.emod_nonneg v (by decide : ((10 : Int) ^ (9 : Int).toNat) ≠ 0)
    generalize hw : v % (10 : Int) ^ (9 : Int).toNat = wv at w0
    show gName 5 (V.int (v % (10 : Int) ^ (9 : Int).toNat)) _ _ _
    rw [hw]
    obtain ⟨k, hk, hkl⟩ := modN (wv / 4) (n := 2) (by decide)
    have hkl' : k < ts.length := by (first | lia | omega)
    have hat : atI (ts.map V.str) (wv / 4 % 2) = some (.str ts[k]) := by
      have := strs_at (ws := ts) (n := k) hkl'
      rw [← hk] at this
      exact this
    refine ⟨_, rfl, _, _, rfl, rfl, ⟨by decide, by decide⟩, _, rfl, _, rfl, wv / 8, md, tg, ts, rfl, by (first | lia | omega), m0, m1, s1 _ _ htg, ht3, fun r xs p H2 s2 hr2 hp hnk hsz htags => ?_⟩
    have s12 := s1.trans s2
    refine ⟨_, rfl, _, rfl, _, rfl, _, _, rfl, rfl, m0, _, rfl, _, rfl, _, _, rfl, rfl, ⟨by decide, by decide⟩, _, _, rfl, rfl, (by show (0 : Int) < 2; decide), tg, _, _, _, rfl, rfl, SqL.of (s12 _ _ htg), hat, (by show 2 ≤ sizeLine; decide), fun kt hkt => ?_⟩
    have s3 : Same H2 (upd H2 kt (.tup [.int (wv % md), .str ts[k]])) := Same.new hkt
    have hml : m.length = rs.length := Paired.length hrk
    have hd3 := s3 _ _ (s2 _ _ hd1)
    refine ⟨d, _, rfl, DPut.t (k := rkey (wv % md) ts[k]) hd3 upd_same (len1000' (by (first | lia | omega))), ?_⟩
    have tkd : TK (upd H2 kt (.tup [.int (wv % md), .str ts[k]])) (upd (upd H2 kt (.tup [.int (wv % md), .str ts[k]])) d (.dT (putK m (rkey (wv % md) ts[k]) (.ref r)))) := fun b ys e => by
      rw [upd_ne (ne_of e hd3 (fun z => nomatch z))]
      exact e
    have tk := (s2.trans s3).tk.trans tkd
    obtain ⟨rs', g1, g2, g3⟩ := (hrk.tk tk).put hro (i := wv % md) (t := ts[k]) (tkd _ _ (s3 _ _ hr2)) ((hp.mono s3.tk).mono tkd) ⟨List.getElem_mem hkl', hnk, hsz, htags⟩
    exact ⟨_, _, _, rs', rfl, (s12.trans s3).upd_new hd, upd_same, g1, g2, by (first | lia | omega)⟩
  · rintro σ H1 ⟨v4, v5, m, rs, rfl, s1, hd1, hrk, hro, hrl⟩
    exact ⟨_, rfl, q d m rs H1 s1 hd hd1 hrk hro (by (first | lia | omega))⟩
def PC (ws : List Str) (h : Nat) : Prop := ∀ us : List Str, Can SL h us → Can SL 0 (ws ++ us)
theorem PC.tag {ws : List Str} {h : Nat} {t : Str} (p : PC ws h) (ht : t ≠ SL) : PC (ws ++ [t]) (h + 1) := fun us hu => by
  rw [List.append_assoc]
  exact p _ ((can_tag ht).mpr hu)
theorem PC.end_ {ws : List Str} {h : Nat} (p : PC ws (h + 1)) : PC (ws ++ [SL]) h := fun us hu => by
  rw [List.append_assoc]
  exact p _ (can_end.mpr ⟨by (first | lia | omega), by rw [Nat.add_sub_cancel]; exact hu⟩)
theorem can_reps : ∀ h : Nat, Can SL h (List.replicate h SL)
  | 0 => rfl
  | h + 1 => by
    rw [List.replicate_succ]
    exact can_end.mpr ⟨by (first | lia | omega), by rw [Nat.add_sub_cancel]; exact can_reps h⟩
def runS (kn : Kn) : Bg → List Str → List Str × Bg
  | bs, [] => ([], bs)
  | bs, w :: ws => ((stepS kn bs w).1 ++ (runS kn (stepS kn bs w).2 ws).1, (runS kn (stepS kn bs w).2 ws).2)
theorem runS_app (kn : Kn) : ∀ (us ws : List Str) (bs : Bg), runS kn bs (us ++ ws) = ((runS kn bs us).1 ++ (runS kn (runS kn bs us).2 ws).1, (runS kn (runS kn bs us).2 ws).2)
  | [], ws, bs => by simp [runS]
  | u :: us, ws, bs => by
    rw [List.cons_append]
    simp only [runS]
    rw [runS_app kn us ws]
    simp [List.append_assoc]
theorem runS_snoc (kn : Kn) (us : List Str) (w : Str) (bs : Bg) : runS kn bs (us ++ [w]) = ((runS kn bs us).1 ++ (stepS kn (runS kn bs us).2 w).1, (stepS kn (runS kn bs us).2 w).2) := by
  rw [runS_app]
  simp [runS]
theorem cutW_len : ∀ l : List (Str ⊕ Int), (cutW l).1.length + (cutW l).2.2.length ≤ l.length
  | [] => Nat.le_refl _
  | .inl s :: r => by have := cutW_len r; simp only [cutW, List.length_cons]; (first | lia | omega)
  | .inr m :: r => by
    have := List.length_filterMap_le Sum.getLeft? r
    simp only [cutW, List.length_cons, List.length_nil]
    (first | lia | omega)
theorem rlS_len {kn : Kn} (ok : KnOk kn) (m : Option Int) (t : Str) : (rlS kn m t).1.length + (rlS kn m t).2.2.length ≤ 41 := by
  cases m with
  | none => exact Nat.zero_le _
  | some i =>
    show (match kn i t with | none => ([t], some i, [SL]) | some p => cutW p.spl).1.length + (match kn i t with | none => ([t], some i, [SL]) | some p => cutW p.spl).2.2.length ≤ 41
    cases h : kn i t with
    | none => show (2 : Nat) ≤ 41; decide
    | some p =>
      have h1 := cutW_len p.spl
      have h2 := p.spl_len
      have h3 := ok.sz _ _ _ h
      show (cutW p.spl).1.length + (cutW p.spl).2.2.length ≤ 41
      (first | lia | omega)
theorem owedB_snoc (bs : Bg) (b : Option Int × List Str) : owedB (bs ++ [b]) = b.2 ++ owedB bs := by
  unfold owedB
  simp
theorem step_len {kn : Kn} (ok : KnOk kn) (bs : Bg) (w : Str) : (stepS kn bs w).1.length + (owedB (stepS kn bs w).2).length ≤ (owedB bs).length + 41 := by
  unfold stepS
  by_cases c : w = SL
  · rw [if_pos c]
    by_cases z : bs = []
    · subst z
      exact Nat.zero_le _
    · obtain ⟨bs', b, rfl⟩ := last_of z
      rw [List.getLast?_concat, List.dropLast_concat, owedB_snoc, List.length_append]
      show b.2.length + (owedB bs').length ≤ _
      (first | lia | omega)
  · rw [if_neg c]
    have := rlS_len ok (modeB bs) w
    rw [owedB_snoc, List.length_append]
    show (rlS kn (modeB bs) w).1.length + ((rlS kn (modeB bs) w).2.2.length + _) ≤ _
    (first | lia | omega)
theorem run_len {kn : Kn} (ok : KnOk kn) : ∀ (us : List Str) (bs : Bg), (runS kn bs us).1.length + (owedB (runS kn bs us).2).length ≤ (owedB bs).length + 41 * us.length
  | [], bs => by simp [runS]
  | u :: us, bs => by
    have h1 := step_len ok bs u
    have h2 := run_len ok us (stepS kn bs u).2
    simp only [runS, List.length_append, List.length_cons]
    (first | lia | omega)
theorem RkL.mem {H : Hp} : ∀ {m : List (List Key × V)} {rs : List (Int × Str × Pa)}, RkL H m rs → (rs.map fun r => rkey r.1 r.2.1).Nodup → ∀ r ∈ rs, ∃ q ys, valV m (rkey r.1 r.2.1) = some (.ref q) ∧ H q = some (.tup ys) ∧ RepP H ys r.2.2
  | _, _, .cons (a := kv) (b := r0) ⟨e, q, ys, h1, h2, h3⟩ t, hn, r, hr => by
    rw [List.map_cons, List.nodup_cons] at hn
    rcases List.mem_cons.mp hr with rfl | hr
    · refine ⟨q, ys, ?_, h2, h3⟩
      unfold valV
      rw [List.find?_cons_of_pos (by rw [e]; exact decide_eq_true rfl)]
      exact congrArg some h1
    · obtain ⟨q', ys', g1, g2, g3⟩ := RkL.mem t hn.2 r hr
      refine ⟨q', ys', ?_, g2, g3⟩
      have hne : ¬ kv.1 = rkey r.1 r.2.1 := fun z => hn.1 (by rw [← e, z]; exact List.mem_map.mpr ⟨r, hr, rfl⟩)
      unfold valV at g1 ⊢
      rw [List.find?_cons_of_neg (by rw [decide_eq_false hne]; decide)]
      exact g1
theorem RkL.absent {H : Hp} : ∀ {m : List (List Key × V)} {rs : List (Int × Str × Pa)}, RkL H m rs → ∀ k, (∀ r ∈ rs, rkey r.1 r.2.1 ≠ k) → valV m k = none
  | _, _, .nil, _, _ => rfl
  | _, _, .cons (a := kv) (b := r0) ⟨e, _⟩ t, k, h => by
    have g := RkL.absent t k fun r hr => h r (List.mem_cons_of_mem _ hr)
    have hne : ¬ kv.1 = k := by rw [e]; exact h r0 (List.mem_cons_self ..)
    unfold valV at g ⊢
    rw [List.find?_cons_of_neg (by rw [decide_eq_false hne]; decide)]
    exact g
/-- rules known by what they are -/
def KnM (rs : List (Int × Str × Pa)) (kn : Kn) : Prop := ∀ i t p, kn i t = some p ↔ (i, t, p) ∈ rs
theorem knM_of {rs : List (Int × Str × Pa)} (hn : (rs.map fun r => rkey r.1 r.2.1).Nodup) : KnM rs (knOf rs) := by
  have go : ∀ (rs : List (Int × Str × Pa)) (f : Kn), (rs.map fun r => rkey r.1 r.2.1).Nodup → ∀ i t p, rs.foldl knPut f i t = some p ↔ (i, t, p) ∈ rs ∨ ((∀ r ∈ rs, rkey r.1 r.2.1 ≠ rkey i t) ∧ f i t = some p) := by
    intro rs
    induction rs with
    | nil => intro f _ i t p; simp
    | cons r rs ih =>
      intro f hn i t p
      rw [List.map_cons, List.nodup_cons] at hn
      rw [List.foldl_cons, ih (knPut f r) hn.2]
      unfold knPut
      by_cases c : i = r.1 ∧ t = r.2.1
      · rw [if_pos c]
        constructor
        · rintro (h | ⟨h, e⟩)
          · exact .inl (List.mem_cons_of_mem _ h)
          · injection e with e
            rw [c.1, c.2, ← e]
            exact .inl (List.mem_cons_self ..)
        · rintro (h | ⟨h, _⟩)
          · rcases List.mem_cons.mp h with h | h
            · refine .inr ⟨fun r' hr' z => hn.1 (List.mem_map.mpr ⟨r', hr', ?_⟩), by rw [← h]⟩
              show rkey r'.1 r'.2.1 = _
              rw [z, c.1, c.2]
            · exact .inl h
          · exact absurd (by rw [c.1, c.2]) (h r (List.mem_cons_self ..))
      · rw [if_neg c]
        have hk : rkey r.1 r.2.1 ≠ rkey i t := fun z => c ⟨(rkey_inj z).1.symm, (rkey_inj z).2.symm⟩
        constructor
        · rintro (h | ⟨h, e⟩)
          · exact .inl (List.mem_cons_of_mem _ h)
          · exact .inr ⟨fun r' hr' => (List.mem_cons.mp hr').elim (fun z => z ▸ hk) (h r'), e⟩
        · rintro (h | ⟨h, e⟩)
          · rcases List.mem_cons.mp h with h | h
            · exact absurd (by rw [← h]) hk
            · exact .inl h
          · exact .inr ⟨fun r' hr' => h r' (List.mem_cons_of_mem _ hr'), e⟩
  intro i t p
  have := go rs (fun _ _ => none) hn i t p
  unfold knOf
  rw [this]
  simp
theorem RkL.kn {H : Hp} {m : List (List Key × V)} {rs : List (Int × Str × Pa)} {kn : Kn} (h : RkL H m rs) (hn : (rs.map fun r => rkey r.1 r.2.1).Nodup) (hk : KnM rs kn) : KnR H m kn := fun i t => by
  cases c : kn i t with
  | none =>
    refine .inl ⟨h.absent _ fun r hr z => ?_, rfl⟩
    have : kn i t = some r.2.2 := (hk i t r.2.2).mpr (by
      obtain ⟨z1, z2⟩ := rkey_inj z
      rw [← z1, ← z2]
      exact hr)
    rw [c] at this
    cases this
  | some p =>
    obtain ⟨q, ys, g1, g2, g3⟩ := h.mem hn _ ((hk i t p).mp c)
    exact .inr ⟨q, ys, p, g1, g2, g3, rfl⟩
/-- the same rules in another order -/
theorem knM_perm {rs rs' : List (Int × Str × Pa)} (hn : (rs.map fun r => rkey r.1 r.2.1).Nodup) (hp : (rs'.map fun r => rkey r.1 r.2.1).Perm (rs.map fun r => rkey r.1 r.2.1)) (hs : ∀ r ∈ rs', r ∈ rs) {kn : Kn} (h : KnM rs' kn) : KnM rs kn := fun i t p => by
  rw [h]
  refine ⟨fun z => hs _ z, fun z => ?_⟩
  have hm : rkey i t ∈ rs.map fun r => rkey r.1 r.2.1 := List.mem_map.mpr ⟨_, z, rfl⟩
  obtain ⟨r', hr', e⟩ := List.mem_map.mp (hp.mem_iff.mpr hm)
  have key : ∀ {rs : List (Int × Str × Pa)}, (rs.map fun r => rkey r.1 r.2.1).Nodup → ∀ a ∈ rs, ∀ b ∈ rs, rkey a.1 a.2.1 = rkey b.1 b.2.1 → a = b := by
    intro rs
    induction rs with
    | nil => intro _ a ha; cases ha
    | cons r rs ih =>
      intro hn a ha b hb e
      rw [List.map_cons, List.nodup_cons] at hn
      rcases List.mem_cons.mp ha with ha' | ha'
      · rcases List.mem_cons.mp hb with hb' | hb'
        · rw [ha', hb']
        · exact absurd (List.mem_map.mpr ⟨b, hb', by rw [← ha', e]⟩) hn.1
      · rcases List.mem_cons.mp hb with hb' | hb'
        · exact absurd (List.mem_map.mpr ⟨a, ha', by rw [← hb', e]⟩) hn.1
        · exact ih hn.2 a ha' b hb' e
  have := key hn r' (hs r' hr') _ z e
  rw [← this]
  exact hr'
theorem rls_ok {kn : Kn} (ok : KnOk kn) {m : Option Int} {t : Str} (ht : PyData.strOk t = true) : (∀ x ∈ (rlS kn m t).1, PyData.strOk x = true) ∧ ∀ x ∈ (rlS kn m t).2.2, PyData.strOk x = true := by
  cases m with
  | none => exact ⟨fun _ h => (nomatch h), fun _ h => (nomatch h)⟩
  | some m =>
    obtain ⟨r1, r2, r3, r4⟩ := rls_some ok (m := m) ht
    rw [r4]
    by_cases c : (paD kn m t).nk = 0
    · obtain ⟨ts, e1, e2⟩ := (spl_cut (paD kn m t)).1 c
      rw [e1, cutW_none]
      exact ⟨fun x hx => spl_ok r3 x (by rw [e1]; exact List.mem_map.mpr ⟨x, hx, rfl⟩), fun _ h => (nomatch h)⟩
    · obtain ⟨ta, tb, mk, e1, e2⟩ := (spl_cut (paD kn m t)).2 (by (first | lia | omega))
      rw [e1, cutW_some]
      exact ⟨fun x hx => spl_ok r3 x (by rw [e1]; exact List.mem_append_left _ (List.mem_map.mpr ⟨x, hx, rfl⟩)), fun x hx => spl_ok r3 x (by rw [e1]; exact List.mem_append_right _ (List.mem_cons_of_mem _ (List.mem_map.mpr ⟨x, hx, rfl⟩)))⟩
theorem step_ok {kn : Kn} (ok : KnOk kn) {bs : Bg} {t : Str} (ht : PyData.strOk t = true) (hb : ∀ b ∈ bs, ∀ x ∈ b.2, PyData.strOk x = true) : (∀ x ∈ (stepS kn bs t).1, PyData.strOk x = true) ∧ ∀ b ∈ (stepS kn bs t).2, ∀ x ∈ b.2, PyData.strOk x = true := by
  unfold stepS
  by_cases c : t = SL
  · rw [if_pos c]
    by_cases z : bs = []
    · subst z
      exact ⟨fun _ h => (nomatch h), fun _ h => (nomatch h)⟩
    · obtain ⟨bs', b, rfl⟩ := last_of z
      rw [List.getLast?_concat, List.dropLast_concat]
      exact ⟨hb b (List.mem_append_right _ (List.mem_singleton.mpr rfl)), fun c hc => hb c (List.mem_append_left _ hc)⟩
  · rw [if_neg c]
    obtain ⟨h1, h2⟩ := rls_ok ok (m := modeB bs) ht
    refine ⟨h1, fun b hb' => ?_⟩
    rcases List.mem_append.mp hb' with h | h
    · exact hb b h
    · rw [List.mem_singleton.mp h]
      exact h2
theorem run_ok {kn : Kn} (ok : KnOk kn) : ∀ (us : List Str) (bs : Bg), (∀ u ∈ us, PyData.strOk u = true) → (∀ b ∈ bs, ∀ x ∈ b.2, PyData.strOk x = true) → (∀ x ∈ (runS kn bs us).1, PyData.strOk x = true) ∧ ∀ b ∈ (runS kn bs us).2, ∀ x ∈ b.2, PyData.strOk x = true
  | [], bs, _, hb => ⟨fun _ h => (nomatch h), hb⟩
  | u :: us, bs, hu, hb => by
    obtain ⟨h1, h2⟩ := step_ok ok (hu u (List.mem_cons_self ..)) hb
    obtain ⟨h3, h4⟩ := run_ok ok us (stepS kn bs u).2 (fun x hx => hu x (List.mem_cons_of_mem _ hx)) h2
    refine ⟨fun x hx => ?_, h4⟩
    rcases List.mem_append.mp hx with hx | hx
    · exact h1 x hx
    · exact h3 x hx
/-- the height behind one word more -/
theorem step_hgt (kn : Kn) (bs : Bg) (t : Str) : (stepS kn bs t).2.length = if t = SL then bs.length - 1 else bs.length + 1 := by
  unfold stepS
  by_cases c : t = SL
  · rw [if_pos c, if_pos c]
    by_cases z : bs = []
    · subst z
      rfl
    · obtain ⟨bs', b, rfl⟩ := last_of z
      rw [List.getLast?_concat, List.dropLast_concat, List.length_append]
      rfl
  · rw [if_neg c, if_neg c, List.length_append]
    rfl
theorem PC.step {us : List Str} {t : Str} {bs : Bg} {kn : Kn} (p : PC us bs.length) (h : t = SL → bs ≠ []) : PC (us ++ [t]) (stepS kn bs t).2.length := by
  rw [step_hgt]
  by_cases c : t = SL
  · rw [if_pos c]
    subst c
    obtain ⟨bs', b, rfl⟩ := last_of (h rfl)
    rw [List.length_append] at p ⊢
    exact p.end_
  · rw [if_neg c]
    exact p.tag c
theorem eqD_lists {K : PySem.W.Frag} {H : Hp} {a b : Addr} {xs ys : List Str} {neg : Bool} {Q : VK} (hA : SqL K H a (xs.map V.str)) (hB : SqL K H b (ys.map V.str)) (o1 : OkW xs) (o2 : OkW ys) (q : Q (.bl (if neg then !decide (xs = ys) else decide (xs = ys))) H) : rEqD K neg (.ref a) (.ref b) H Q := eqn_lists (n := 200) hA hB o1 o2 (by decide) q
def spWordsS (K : PySem.W.Frag) : Sp := fun vs H Q _ => ∃ (a tg : Addr) (ns : List Int) (ts : List Str), vs = [.ref a, .ref tg] ∧ SqL K H a (ns.map V.int) ∧ ns.length ≤ 63 ∧ H tg = some (.lst (ts.map V.str)) ∧ ts.length = 2 ∧ (∀ t ∈ ts, t ≠ SL) ∧ ∀ (r : Addr) (ws : List Str) (h : Nat) (H' : Hp), Same H H' → H r = none → H' r = some (.lst (ws.map V.str)) → PC ws h → ws.length ≤ 41 → (∀ x ∈ ws, x = SL ∨ x ∈ ts) → Q (.ref r) H'
set_option maxHeartbeats 4000000 in
theorem ok_l_words (B : ∀ x ∈ blts, mg x = none) (g_l_cell : Has P w K mg base "_law_cell" ["_law_script", "_law_k"] 1 (spCellS K)) (F : Fun K "_law_words" "_law_words" s_l_words f fd) : FnOk P w K mg base CX0 2 f fd ["_law_script", "_law_tags_here"] (spWordsS K) := by
  refine F.ok sc_l_words (fun vs H Q E h => ?_) (fun cdv A outer s H vs Q E hr h => ?_)
  · obtain ⟨a, tg, ns, ts, rfl, _⟩ := h
    rfl
  obtain ⟨a, tg, ns, ts, rfl, hS, h63, htg, ht3, htn, q⟩ := h
  refine hideI ((defBody s_l_words).drop 3) (pss_one (ps_ret (pv 2))) (fun u3 h3 e3 => ?_)
  refine hideI ((sBody ((sBody ((defBody s_l_words).getD 2 (.Pass ⟨0, 0, 0, 0⟩))).getD 1 (.Pass ⟨0, 0, 0, 0⟩))).drop 1) (pss_one (ps_set (i := 3) sc_l_words.nd rfl (Or.inl rfl) (pe_op op_sub (pv 3) pe_int))) (fun u2_1t1 h2_1t1 e2_1t1 => ?_)
  refine hideI ((sBody ((sBody ((defBody s_l_words).getD 2 (.Pass ⟨0, 0, 0, 0⟩))).getD 1 (.Pass ⟨0, 0, 0, 0⟩))).drop 0) (pss_cons (ps_expr (pe_bm PySem.F.plainAttrs_list PySem.F.slot_list_append PySem.F.type_list_append mt_append (pv 2) (pa_cons pe_str pa_nil))) h2_1t1) (fun u2_1t0 h2_1t0 e2_1t0 => ?_)
  refine hideI ((sElse ((sBody ((defBody s_l_words).getD 2 (.Pass ⟨0, 0, 0, 0⟩))).getD 1 (.Pass ⟨0, 0, 0, 0⟩))).drop 1) (pss_one (ps_set (i := 3) sc_l_words.nd rfl (Or.inl rfl) (pe_op op_add (pv 3) pe_int))) (fun u2_1e1 h2_1e1 e2_1e1 => ?_)
  refine hideI ((sElse ((sBody ((defBody s_l_words).getD 2 (.Pass ⟨0, 0, 0, 0⟩))).getD 1 (.Pass ⟨0, 0, 0, 0⟩))).drop 0) (pss_cons (ps_expr (pe_bm PySem.F.plainAttrs_list PySem.F.slot_list_append PySem.F.type_list_append mt_append (pv 2) (pa_cons (pe_ix ix_list (pv 1) (pe_op op_mod (pe_op op_fdiv (pv 5) pe_int) pe_int) (fun _ _ => rfl)) pa_nil))) h2_1e1) (fun u2_1e0 h2_1e0 e2_1e0 => ?_)
  refine hideI ((sBody ((defBody s_l_words).getD 2 (.Pass ⟨0, 0, 0, 0⟩))).drop 1) (pss_one (ps_if (PW.pt (pw_and (pt_cmpR op_lt (pe_op op_mod (pv 5) pe_int) pe_int (nomark _)) (pw_and1 (pt_cmpR op_gt (pv 3) pe_int (nomark _)))))
      h2_1t0
      h2_1e0)) (fun u2_1 h2_1 e2_1 => ?_)
  refine hideI ((sBody ((defBody s_l_words).getD 2 (.Pass ⟨0, 0, 0, 0⟩))).drop 0) (pss_cons (ps_set (i := 5) sc_l_words.nd rfl (Or.inl rfl) (pe_op op_mod (pe_has g_l_cell hr rfl (pa_cons (pv 0) (pa_cons (pe_op op_add pe_int (pv 4)) pa_nil))) (pe_op op_pow pe_int pe_int))) h2_1) (fun u2_0 h2_0 e2_0 => ?_)
  refine hideI ((defBody s_l_words).drop 2) (pss_cons (ps_for PassesOwn.never rfl (pi_range1 rfl (B "range" (by decide)) (pa_cons (pe_op op_mod (pe_has g_l_cell hr rfl (pa_cons (pv 0) (pa_cons pe_int pa_nil))) pe_int) pa_nil)) (pg_name (i := 4) sc_l_words.nd rfl (Or.inl rfl))
      h2_0) h3) (fun u2 h2 e2 => ?_)
  refine hideI ((defBody s_l_words).drop 1) (pss_cons (ps_set (i := 3) sc_l_words.nd rfl (Or.inl rfl) pe_int) h2) (fun u1 h1 e1 => ?_)
  refine hideI ((defBody s_l_words).drop 0) (pss_cons (ps_set (i := 2) sc_l_words.nd rfl (Or.inl rfl) (pe_lst pa_nil)) h1) (fun u0 h0 e0 => ?_)
  refine ⟨u0, h0, ?_⟩
  refine by_eq e0 ?_
  refine ⟨by decide, fun W hW => ?_⟩
  refine by_eq e1 ?_
  have s1 : Same H (upd H W (.lst [])) := Same.new hW
  refine by_eq e2 ?_
  refine ⟨_, rfl, a, ns, 2, rfl, s1.seq hS, h63, by decide, by decide, fun v => ?_⟩
  have v5 := Int.emod_nonneg v (by decide : (41 : Int) ≠ 0)
  have v5' := Int.emod_lt_of_pos v (by decide : (0 : Int) < 41)
  refine ⟨_, _, rfl, rfl, (by show (0 : Int) < 41; decide), _, rfl, by (first | lia | omega), by (first | lia | omega), for_range (lo := 0) (n := (v % 41).toNat) (fun i σ H1 => ∃ (v4 v5 : Option V) (ws : List Str) (h : Nat), σ = [some (.ref a), some (.ref tg), some (.ref W), some (.int (h : Int)), v4, v5] ∧ Same H H1 ∧ H1 W = some (.lst (ws.map V.str)) ∧ PC ws h ∧ ws.length = i ∧ h ≤ i ∧ ∀ x ∈ ws, x = SL ∨ x ∈ ts)
    ⟨none, none, [], 0, rfl, s1, upd_same, fun us h => h, rfl, Nat.le_refl _, fun _ h => (nomatch h)⟩ ?_ ?_⟩
  · rintro i σ H1 hi ⟨v4, v5, ws, h, rfl, s2, hW2, hpc, hwl, hhi, hws⟩
    have hi5 : i < 41 := by (first | lia | omega)
    refine by_eq e2_0 ?_
    refine ⟨_, rfl, _, rfl, _, _, rfl, rfl, a, ns, _, rfl, s2.seq hS, h63, by (first | lia | omega), by (first | lia | omega), fun v => ?_⟩
    refine ⟨_, _, rfl, rfl, ⟨by decide, by decide, by decide⟩, _, _, rfl, rfl, (by show (0 : Int) < 10 ^ 9; decide), ?_⟩
    show gName 5 (V.int (v % (10 : Int) ^ (9 : Int).toNat)) _ _ _
    generalize v % (10 : Int) ^ (9 : Int).toNat = wv
    show u2_1 _ _ _
    refine via (t := u2_1e0) (R := fun σ H3 => σ = [some (.ref a), some (.ref tg), some (.ref W), some (.int (h : Int)), some (.int (0 + (i : Int))), some (.int wv)] ∧ H3 = H1) ?_ fun fin => ?_
    · rintro σ H3 ⟨rfl, rfl⟩
      obtain ⟨j, hk5, hj⟩ := modN (wv / 5) (n := 2) (by decide)
      have hj' : j < ts.length := by (first | lia | omega)
      have hat : atI (ts.map V.str) (wv / 5 % 2) = some (.str ts[j]) := by
        have e : wv / 5 % 2 = (j : Int) := hk5
        rw [e]
        exact strs_at hj'
      refine by_eq e2_1e0 ?_
      refine ⟨_, rfl, .inl ⟨rfl, _, SqL.of hW2⟩, _, rfl, _, rfl, _, _, rfl, rfl, ⟨by decide, by decide⟩, _, _, rfl, rfl, (by show (0 : Int) < 2; decide), tg, _, _, _, rfl, rfl, SqL.of (s2 _ _ htg), hat, W, _, _, rfl, rfl, hW2, len1000' (by rw [List.length_map]; (first | lia | omega)), ?_⟩
      have s3 : Same H3 H3 := Same.refl H3
      have hm := List.getElem_mem hj'
      generalize ts[j]'hj' = t at hm
      refine by_eq e2_1e1 ?_
      refine ⟨_, rfl, _, _, rfl, rfl, ?_⟩
      refine ⟨_, _, ws ++ [t], h + 1, rfl, (s2.trans s3).upd_new hW, ?_, hpc.tag (htn t hm), by rw [List.length_append, List.length_singleton, hwl], by (first | lia | omega), fun x hx => ?_⟩
      · rw [upd_same, List.map_append]
        rfl
      · rcases List.mem_append.mp hx with hx | hx
        · exact hws x hx
        · rw [List.mem_singleton.mp hx]
          exact .inr hm
    · refine by_eq e2_1 ?_
      refine ⟨_, rfl, _, _, rfl, rfl, (by show (0 : Int) < 5; decide), _, _, rfl, rfl, _, rfl, ite2 (fun c => ?_) (fun c => iteF (fin _ _ ⟨rfl, rfl⟩))⟩
      refine ⟨_, rfl, _, _, rfl, rfl, _, rfl, ite2 (fun c2 => ?_) (fun c2 => fin _ _ ⟨rfl, rfl⟩)⟩
      have c2' := of_decide_eq_true c2
      obtain ⟨h', rfl⟩ : ∃ h', h = h' + 1 := ⟨h - 1, by (first | lia | omega)⟩
      refine by_eq e2_1t0 ?_
      refine ⟨_, rfl, .inl ⟨rfl, _, SqL.of hW2⟩, W, _, _, rfl, rfl, hW2, len1000' (by rw [List.length_map]; (first | lia | omega)), ?_⟩
      refine by_eq e2_1t1 ?_
      refine ⟨_, rfl, _, _, rfl, rfl, ?_⟩
      refine ⟨_, _, ws ++ [SL], h', by show [some (V.ref a), some (V.ref tg), some (V.ref W), some (V.int (((h' + 1 : Nat) : Int) - 1)), some (V.int (0 + (i : Int))), some (V.int wv)] = _; rw [show (((h' + 1 : Nat) : Int) - 1) = (h' : Int) by (first | lia | omega)], s2.upd_new hW, ?_, hpc.end_, by rw [List.length_append, List.length_singleton, hwl], by (first | lia | omega), fun x hx => ?_⟩
      · rw [upd_same, List.map_append]
        rfl
      · rcases List.mem_append.mp hx with hx | hx
        · exact hws x hx
        · exact .inl (List.mem_singleton.mp hx)
  · rintro σ H1 ⟨v4, v5, ws, h, rfl, s2, hW2, hpc, hwl, hhi, hws⟩
    refine by_eq e3 ?_
    exact ⟨_, rfl, q W ws h H1 s2 hW hW2 hpc (by (first | lia | omega)) hws⟩
/-- what comes of parts: f says what comes of what is within, by mode -/
def putF (f : Int → List Str) : Pa → List Str
  | .nil => []
  | .kids m o => f m ++ putF f o
  | .tag t w o => t :: (putF f w ++ SL :: putF f o)
theorem putF_app (f : Int → List Str) : ∀ p q : Pa, putF f (p.app q) = putF f p ++ putF f q
  | .nil, q => rfl
  | .kids m o, q => by simp [Pa.app, putF, putF_app f o q]
  | .tag t w o, q => by simp [Pa.app, putF, putF_app f o q]
def elW (f : Int → List Str) : Str ⊕ Int → List Str
  | .inl s => [s]
  | .inr m => f m
theorem putF_spl (f : Int → List Str) : ∀ p : Pa, putF f p = p.spl.flatMap (elW f)
  | .nil => rfl
  | .kids m o => by simp [putF, Pa.spl, putF_spl f o, elW]
  | .tag t w o => by simp [putF, Pa.spl, putF_spl f o, putF_spl f w, elW]
theorem elW_strs (f : Int → List Str) : ∀ ts : List Str, (ts.map Sum.inl : List (Str ⊕ Int)).flatMap (elW f) = ts
  | [] => rfl
  | t :: ts => by rw [List.map_cons, List.flatMap_cons, elW_strs f ts]; rfl
def onO (f : Int → List Str) : Option Int → List Str
  | none => []
  | some m => f m
theorem putF_cut (f : Int → List Str) {p : Pa} (h : p.nk ≤ 1) : putF f p = (cutW p.spl).1 ++ onO f (cutW p.spl).2.1 ++ (cutW p.spl).2.2 := by
  rw [putF_spl]
  by_cases c : p.nk = 0
  · obtain ⟨ts, e, _⟩ := (spl_cut p).1 c
    rw [e, cutW_none, elW_strs]
    simp [onO]
  · obtain ⟨a, b, m, e, _⟩ := (spl_cut p).2 (by (first | lia | omega))
    rw [e, cutW_some, List.flatMap_append, List.flatMap_cons, elW_strs, elW_strs]
    simp [onO, elW]
theorem cut_ks {p : Pa} (h : p.nk ≤ 1) : (cutW p.spl).2.1 = p.ks.head? := by
  by_cases c : p.nk = 0
  · obtain ⟨ts, e, e2⟩ := (spl_cut p).1 c
    rw [e, cutW_none, e2]
    rfl
  · obtain ⟨a, b, m, e, e2⟩ := (spl_cut p).2 (by (first | lia | omega))
    rw [e, cutW_some, e2]
    rfl
/-- what comes of a grove, by mode -/
def chW (kn : Kn) : Gr Str → Int → List Str
  | .nil, _ => []
  | .cons t w o, m => putF (chW kn w) (paD kn m t) ++ chW kn o m
theorem cutW_behind : ∀ l : List (Str ⊕ Int), (cutW l).2.1 = none → (cutW l).2.2 = []
  | [], _ => rfl
  | .inl s :: r, h => cutW_behind r h
  | .inr m :: r, h => by cases h
def NB (bs : Bg) : Prop := ∀ b ∈ bs, b.1 = none → b.2 = []
theorem rls_nb (kn : Kn) (m : Option Int) (t : Str) : (rlS kn m t).2.1 = none → (rlS kn m t).2.2 = [] := by
  cases m with
  | none => exact fun _ => rfl
  | some m =>
    show (match kn m t with | none => ([t], some m, [SL]) | some p => cutW p.spl).2.1 = none → (match kn m t with | none => ([t], some m, [SL]) | some p => cutW p.spl).2.2 = []
    cases kn m t with
    | none => exact fun h => by cases h
    | some p => exact cutW_behind p.spl
theorem step_nb {kn : Kn} {bs : Bg} {t : Str} (h : NB bs) : NB (stepS kn bs t).2 := by
  unfold stepS
  by_cases c : t = SL
  · rw [if_pos c]
    cases z : bs.getLast? with
    | none => exact fun _ h => (nomatch h)
    | some b => exact fun b' hb' => h b' ((List.dropLast_sublist bs).subset hb')
  · rw [if_neg c]
    intro b hb
    rcases List.mem_append.mp hb with hb | hb
    · exact h b hb
    · rw [List.mem_singleton.mp hb]
      exact rls_nb kn _ t
theorem run_nb {kn : Kn} : ∀ (us : List Str) {bs : Bg}, NB bs → NB (runS kn bs us).2
  | [], _, h => h
  | u :: us, _, h => run_nb us (step_nb h)
theorem step_end (kn : Kn) (bs : Bg) (b : Option Int × List Str) : stepS kn (bs ++ [b]) SL = (b.2, bs) := by
  unfold stepS
  rw [if_pos rfl, List.getLast?_concat, List.dropLast_concat]
theorem mode_snoc (bs : Bg) (b : Option Int × List Str) : modeB (bs ++ [b]) = b.1 := by
  unfold modeB
  rw [List.getLast?_concat]
theorem put_rls {kn : Kn} (ok : KnOk kn) (f : Int → List Str) (m : Int) (t : Str) : putF f (paD kn m t) = (rlS kn (some m) t).1 ++ onO f (rlS kn (some m) t).2.1 ++ (rlS kn (some m) t).2.2 := by
  unfold paD
  show putF f ((kn m t).getD _) = (match kn m t with | none => ([t], some m, [SL]) | some p => cutW p.spl).1 ++ onO f (match kn m t with | none => ([t], some m, [SL]) | some p => cutW p.spl).2.1 ++ (match kn m t with | none => ([t], some m, [SL]) | some p => cutW p.spl).2.2
  cases h : kn m t with
  | none => simp [putF, onO]
  | some p => exact putF_cut f (ok.one _ _ _ h)
/-- the words of a grove taken -/
theorem run_grove {kn : Kn} (ok : KnOk kn) : ∀ (g : Gr Str) (bs : Bg), Clean SL g → runS kn bs (words SL g) = (onO (chW kn g) (modeB bs), bs)
  | .nil, bs, _ => by
    show ([], bs) = _
    cases modeB bs <;> rfl
  | .cons t w o, bs, h => by
    obtain ⟨h1, h2, h3⟩ := h
    have e0 : stepS kn bs t = ((rlS kn (modeB bs) t).1, bs ++ [(rlS kn (modeB bs) t).2]) := by
      unfold stepS
      rw [if_neg h1]
    show runS kn bs (t :: (words SL w ++ SL :: words SL o)) = _
    simp only [runS]
    rw [e0, runS_app]
    simp only [runS]
    rw [run_grove ok w _ h2]
    simp only [step_end, mode_snoc]
    rw [run_grove ok o bs h3]
    cases hm : modeB bs with
    | none => simp [rlS, onO]
    | some m =>
      show _ = (putF (chW kn w) (paD kn m t) ++ chW kn o m, bs)
      rw [put_rls ok]
      simp [onO]
/-- open tags of which nothing comes, ended -/
theorem run_ends (kn : Kn) : ∀ (l : List (Option Int × List Str)) (bs : Bg), (∀ b ∈ l, b.2 = []) → runS kn (bs ++ l) (List.replicate l.length SL) = ([], bs)
  | [], bs, _ => by simp [runS]
  | b :: l, bs, h => by
    have e : bs ++ b :: l = (bs ++ [b]) ++ l := by simp
    have e2 : List.replicate (b :: l).length SL = List.replicate l.length SL ++ [SL] := by
      rw [List.length_cons, List.replicate_succ']
    rw [e, e2, runS_snoc, run_ends kn l (bs ++ [b]) fun x hx => h x (List.mem_cons_of_mem _ hx)]
    simp only [step_end]
    rw [h b (List.mem_cons_self ..)]
    rfl
/-- the next tag is not kept back -/
theorem no_late {kn : Kn} (ok : KnOk kn) {ws : List Str} {bs l : Bg} {tag : Str} {m : Int} {n : Nat} {g : Gr Str} (hr : (runS kn [] ws).2 = bs ++ l) (hl : ∀ b ∈ l, b.2 = []) (hm : modeB bs = some m) (ht : tag ≠ SL) (hk : kn m tag = none)
    (hg : words SL g = (ws ++ List.replicate l.length SL) ++ [tag, SL] ++ List.replicate n SL) (hc : Clean SL g) : (chW kn g 0).take ((runS kn [] ws).1.length + 1) = (runS kn [] ws).1 ++ [tag] := by
  have h1 := run_grove ok g [] hc
  have h2 : (onO (chW kn g) (modeB [])) = chW kn g 0 := rfl
  rw [h2, hg, List.append_assoc, runS_app, runS_app, hr, run_ends kn l bs hl] at h1
  have h3 : stepS kn bs tag = ([tag], bs ++ [(some m, [SL])]) := by
    unfold stepS
    rw [if_neg ht, hm]
    simp [rlS, hk]
  have h4 := congrArg Prod.fst h1
  rw [show [tag, SL] ++ List.replicate n SL = tag :: (SL :: List.replicate n SL) from rfl] at h4
  simp only [runS] at h4
  rw [h3] at h4
  simp only [List.append_nil] at h4
  rw [← h4]
  have tk : ∀ (a r : List Str), (a ++ tag :: r).take (a.length + 1) = a ++ [tag] := fun a r => by
    rw [List.take_append, List.take_of_length_le (by (first | lia | omega)), show a.length + 1 - a.length = 1 by (first | lia | omega)]
    rfl
  exact tk _ _
theorem Pa.ks_take : ∀ (i : Nat) (p : Pa), ∃ l, p.ks = (p.take i).ks ++ l
  | 0, p => ⟨p.ks, rfl⟩
  | _ + 1, .nil => ⟨[], rfl⟩
  | i + 1, .kids m o => by
    obtain ⟨l, e⟩ := Pa.ks_take i o
    exact ⟨l, by show m :: o.ks = m :: (o.take i).ks ++ l; rw [e]; rfl⟩
  | i + 1, .tag t w o => by
    obtain ⟨l, e⟩ := Pa.ks_take i o
    exact ⟨l, by show w.ks ++ o.ks = w.ks ++ (o.take i).ks ++ l; rw [e, List.append_assoc]⟩
def spKm (d : Nat) : Sp := fun vs H Q _ => ∃ (q : Addr) (ys : List V) (p : Pa), vs = [.ref q] ∧ H q = some (.tup ys) ∧ RepP H ys p ∧ p.dep < d ∧ Q (moV p.ks.head?) H
set_option maxHeartbeats 2000000 in
theorem ok_l_kids_mode (d : Nat) (B : ∀ x ∈ blts, mg x = none) (g_l_kids_mode : Has P w K mg base "_law_kids_mode" ["_law_parts_here"] d (spKm d)) (F : Fun K "_law_kids_mode" "_law_kids_mode" s_l_kids_mode f fd) : FnOk P w K mg base CX0 (d + 1) f fd ["_law_parts_here"] (spKm (d + 1)) := by
  refine F.ok sc_l_kids_mode (fun vs H Q E h => ?_) (fun cdv A outer s H vs Q E hr h => ?_)
  · obtain ⟨q, ys, p, rfl, _⟩ := h
    rfl
  obtain ⟨q, ys, p, rfl, hq, hP, hd, qq⟩ := h
  refine ⟨_, (pss_cons (ps_for PassesOwn.never rfl (pi_tup (pv 0)) (pg_name (i := 1) sc_l_kids_mode.nd rfl (Or.inl rfl))
      (pss_cons (ps_if (pt_cmpR op_eq (pe_ix ix_tup (pv 1) pe_int (fun _ _ => rfl)) pe_str (nomark _))
          (pss_one (ps_ret (pe_ix ix_tup (pv 1) pe_int (fun _ _ => rfl))))
          pss_nil)
        (pss_cons (ps_set (i := 2) sc_l_kids_mode.nd rfl (Or.inl rfl) (pe_has g_l_kids_mode hr rfl (pa_cons (pe_ix ix_tup (pv 1) pe_int (fun _ _ => rfl)) pa_nil) (by (first | lia | omega))))
        (pss_one (ps_if (pt_cmpR op_notN (pv 2) pe_non (nomark _))
          (pss_one (ps_ret (pv 2)))
          pss_nil)))))
    (pss_one (ps_ret pe_non))), ?_⟩
  refine ⟨_, rfl, q, rfl, ⟨_, SqT.of hq⟩, for_tup (K := K) (a := q) (xs := ys) (fun i σ H1 => ∃ (v1 v2 : Option V), σ = [some (.ref q), v1, v2] ∧ H1 = H ∧ (p.take i).ks = [])
    ⟨none, none, rfl, rfl, rfl⟩ ?_ ?_ ?_⟩
  · rintro i σ H1 _ ⟨_, _, _, rfl, _⟩
    exact SqT.of hq
  · rintro i x σ H1 hx ⟨v1, v2, rfl, rfl, hks⟩
    obtain ⟨a, rfl, ha⟩ := hP.at i x hx
    obtain ⟨lr, elr⟩ := Pa.ks_take (i + 1) p
    rcases ha with ⟨m, h1, h2⟩ | ⟨t, q', ys', w', h1, h2, h3, h4, h5, h6⟩
    · refine ⟨_, rfl, a, _, 0, _, rfl, rfl, SqT.of h1, rfl, rfl, _, rfl, iteT ?_⟩
      refine ⟨_, rfl, a, _, 1, _, rfl, rfl, SqT.of h1, rfl, ?_⟩
      rw [elr, h2, Pa.ks_app, hks] at qq
      exact qq
    · refine ⟨_, rfl, a, _, 0, _, rfl, rfl, SqT.of h1, rfl, rfl, _, rfl, iteF ?_⟩
      refine ⟨_, rfl, a, _, 2, _, rfl, rfl, SqT.of h1, rfl, q', ys', w', rfl, h2, h3, by (first | lia | omega), ?_⟩
      rw [h4, Pa.ks_app, hks] at elr
      have ew : Pa.ks (Pa.tag t w' .nil) = w'.ks := by simp [Pa.ks]
      rw [ew, List.nil_append] at elr
      cases hw : w'.ks with
      | nil =>
        refine ⟨_, rfl, rfl, _, rfl, iteF ⟨_, _, rfl, rfl, ?_⟩⟩
        rw [h4, Pa.ks_app, hks, ew, hw]
        rfl
      | cons m r =>
        refine ⟨_, rfl, rfl, _, rfl, iteT ⟨_, rfl, ?_⟩⟩
        rw [elr, hw] at qq
        exact qq
  · rintro σ H1 ⟨v1, v2, rfl, rfl, hks⟩
    rw [hP.take_all] at hks
    rw [hks] at qq
    exact qq
def moL (bs : Bg) : List V := V.int 0 :: bs.map fun b => moV b.1
theorem moL_snoc (bs : Bg) (b : Option Int × List Str) : moL (bs ++ [b]) = moL bs ++ [moV b.1] := by
  unfold moL
  rw [List.map_append]
  rfl
theorem moL_last (bs : Bg) : atI (moL bs) (-1) = some (moV (modeB bs)) := by
  by_cases h : bs = []
  · rw [h]
    rfl
  · obtain ⟨bs', b, rfl⟩ := last_of h
    rw [moL_snoc, mode_snoc]
    exact atI_last _ _
theorem moL_len (bs : Bg) : (moL bs).length = bs.length + 1 := by
  unfold moL
  rw [List.length_cons, List.length_map]
def spOpenM : Sp := fun vs H Q _ => ∃ (d wl : Addr) (m : List (List Key × V)) (kn : Kn) (ws : List Str), vs = [.ref d, .ref wl] ∧ H d = some (.dT m) ∧ KnR H m kn ∧ KnOk kn ∧ H wl = some (.lst (ws.map V.str)) ∧ ws.length ≤ 50 ∧ (∀ i (hi : i < ws.length), ws[i] = SL → (runS kn [] (ws.take i)).2 ≠ []) ∧
  ∀ (r : Addr) (H' : Hp), Same H H' → H r = none → H' r = some (.lst (moL (runS kn [] ws).2)) → Q (.ref r) H'
set_option maxHeartbeats 4000000 in
theorem ok_l_open_modes (B : ∀ x ∈ blts, mg x = none) (g_l_kids_mode : Has P w K mg base "_law_kids_mode" ["_law_parts_here"] 22 (spKm 22)) (F : Fun K "_law_open_modes" "_law_open_modes" s_l_open_modes f fd) : FnOk P w K mg base CX0 23 f fd ["_law_made", "_law_words_here"] spOpenM := by
  refine F.ok sc_l_open_modes (fun vs H Q E h => ?_) (fun cdv A outer s H vs Q E hr h => ?_)
  · obtain ⟨d, wl, m, kn, ws, rfl, _⟩ := h
    rfl
  obtain ⟨d, wl, m, kn, ws, rfl, hd, hk, ok, hw, hwl, hgood, q⟩ := h
  have hu1 : (A.deeper (PyProof.Rows.envOfC (Str.ofString "_law_open_modes") (defScope s_l_open_modes) s.heap.objs.size f cdv)).units + 1 < cLine := by have := hr.un; (first | lia | omega)
  refine hideI ((defBody s_l_open_modes).drop 2) (pss_one (ps_ret (pv 2))) (fun u2 h2 e2 => ?_)
  refine hideI ((sElse ((sElse ((sBody ((defBody s_l_open_modes).getD 1 (.Pass ⟨0, 0, 0, 0⟩))).getD 0 (.Pass ⟨0, 0, 0, 0⟩))).getD 0 (.Pass ⟨0, 0, 0, 0⟩))).drop 0) (pss_one (ps_if (pt_cmp (pc_din hu1 (pe_tup (pa_cons (pe_ix ix_list (pv 2) (pe_un un_neg pe_int) (fun _ _ => rfl)) (pa_cons (pv 3) pa_nil))) (pv 0)))
      (pss_one (ps_expr (pe_bm PySem.F.plainAttrs_list PySem.F.slot_list_append PySem.F.type_list_append mt_append (pv 2) (pa_cons (pe_has g_l_kids_mode hr rfl (pa_cons (pe_dget hu1 (pv 0) (pe_tup (pa_cons (pe_ix ix_list (pv 2) (pe_un un_neg pe_int) (fun _ _ => rfl)) (pa_cons (pv 3) pa_nil))) (fun _ _ => rfl)) pa_nil)) pa_nil))))
      (pss_one (ps_expr (pe_bm PySem.F.plainAttrs_list PySem.F.slot_list_append PySem.F.type_list_append mt_append (pv 2) (pa_cons (pe_ix ix_list (pv 2) (pe_un un_neg pe_int) (fun _ _ => rfl)) pa_nil)))))) (fun u1_0e0e0 h1_0e0e0 e1_0e0e0 => ?_)
  refine hideI ((sElse ((sBody ((defBody s_l_open_modes).getD 1 (.Pass ⟨0, 0, 0, 0⟩))).getD 0 (.Pass ⟨0, 0, 0, 0⟩))).drop 0) (pss_one (ps_if (pt_cmpR op_isN (pe_ix ix_list (pv 2) (pe_un un_neg pe_int) (fun _ _ => rfl)) pe_non (nomark _))
      (pss_one (ps_expr (pe_bm PySem.F.plainAttrs_list PySem.F.slot_list_append PySem.F.type_list_append mt_append (pv 2) (pa_cons pe_non pa_nil))))
      h1_0e0e0)) (fun u1_0e0 h1_0e0 e1_0e0 => ?_)
  refine hideI ((sBody ((defBody s_l_open_modes).getD 1 (.Pass ⟨0, 0, 0, 0⟩))).drop 0) (pss_one (ps_if (pt_cmpR op_eq (pv 3) pe_str (nomark _))
      (pss_one (ps_expr (pe_bm0 PySem.F.plainAttrs_list PySem.F.slot_list_pop PySem.F.type_list_pop mt_pop (pv 2))))
      h1_0e0)) (fun u1_0 h1_0 e1_0 => ?_)
  refine hideI ((defBody s_l_open_modes).drop 1) (pss_cons (ps_for PassesOwn.never rfl (pi_list (pv 1)) (pg_name (i := 3) sc_l_open_modes.nd rfl (Or.inl rfl))
      h1_0) h2) (fun u1 h1 e1 => ?_)
  refine hideI ((defBody s_l_open_modes).drop 0) (pss_cons (ps_set (i := 2) sc_l_open_modes.nd rfl (Or.inl rfl) (pe_lst (pa_cons pe_int pa_nil))) h1) (fun u0 h0 e0 => ?_)
  refine ⟨u0, h0, ?_⟩
  refine by_eq e0 ?_
  refine ⟨(by show 1 ≤ sizeLine; decide), fun L hL => ?_⟩
  have s0 : Same H (upd H L (.lst [.int 0])) := Same.new hL
  refine by_eq e1 ?_
  refine ⟨_, rfl, wl, rfl, ⟨_, SqL.of (s0 _ _ hw)⟩, for_list (K := K) (a := wl) (xs := ws.map V.str) (fun i σ H1 => ∃ v3 : Option V, σ = [some (.ref d), some (.ref wl), some (.ref L), v3] ∧ Same H H1 ∧ H1 L = some (.lst (moL (runS kn [] (ws.take i)).2)) ∧ (runS kn [] (ws.take i)).2.length ≤ i)
    ⟨none, rfl, s0, upd_same, Nat.le_refl _⟩ ?_ ?_ ?_⟩
  · rintro i σ H1 _ ⟨_, _, s1, _⟩
    exact SqL.of (s1 _ _ hw)
  · rintro i x σ H1 hx ⟨v3, rfl, s1, hL1, hbl⟩
    rw [List.getElem?_map] at hx
    obtain ⟨t, hxt, rfl⟩ := Option.map_eq_some_iff.mp hx
    obtain ⟨hil, hti⟩ := List.getElem?_eq_some_iff.mp hxt
    have est : (runS kn [] (ws.take (i + 1))).2 = (stepS kn (runS kn [] (ws.take i)).2 t).2 := by
      rw [take_succ' hxt, runS_snoc]
    have hgt := step_hgt kn (runS kn [] (ws.take i)).2 t
    have hgi : t = SL → (runS kn [] (ws.take i)).2 ≠ [] := fun z => hgood i hil (hti.trans z)
    have hml := moL_len (runS kn [] (ws.take i)).2
    have fin : ∀ (H2 : Hp), Same H H2 → H2 L = some (.lst (moL (stepS kn (runS kn [] (ws.take i)).2 t).2)) → ∃ v3' : Option V, [some (V.ref d), some (V.ref wl), some (V.ref L), some (V.str t)] = [some (V.ref d), some (V.ref wl), some (V.ref L), v3'] ∧ Same H H2 ∧ H2 L = some (.lst (moL (runS kn [] (ws.take (i + 1))).2)) ∧ (runS kn [] (ws.take (i + 1))).2.length ≤ i + 1 := fun H2 s2 e2 => by
      refine ⟨_, rfl, s2, by rw [est]; exact e2, ?_⟩
      rw [est]
      split at hgt <;> (first | lia | omega)
    generalize (runS kn [] (ws.take i)).2 = bs at hL1 hbl est hgt hgi hml fin
    refine by_eq e1_0 ?_
    refine ⟨_, rfl, rfl, _, rfl, ite2 (fun c => ?_) (fun c => ?_)⟩
    · have ct : t = SL := by
        have := of_decide_eq_true c
        injection this
      obtain ⟨bs', b, rfl⟩ := last_of (hgi ct)
      rw [moL_snoc] at hL1
      refine ⟨_, rfl, .inl ⟨rfl, _, SqL.of hL1⟩, L, _, _, rfl, rfl, hL1, snoc_last _ _, ?_⟩
      rw [snoc_drop]
      refine fin _ (s1.upd_new hL) ?_
      rw [upd_same, ct, step_end]
    · have ct : t ≠ SL := fun z => c (decide_eq_true (congrArg V.str z))
      have est2 : (stepS kn bs t).2 = bs ++ [(rlS kn (modeB bs) t).2] := by
        unfold stepS
        rw [if_neg ct]
      rw [est2, moL_snoc] at fin
      have put : ∀ v, v = moV (rlS kn (modeB bs) t).2.1 → (upd H1 L (.lst (moL bs ++ [v]))) L = some (.lst (moL bs ++ [moV (rlS kn (modeB bs) t).2.1])) := fun v e => by rw [e]; exact upd_same
      refine by_eq e1_0e0 ?_
      cases hm : modeB bs with
      | none =>
        have hat := moL_last bs
        rw [hm] at hat put fin
        refine ⟨_, rfl, 1, rfl, L, _, -1, _, rfl, rfl, SqL.of hL1, hat, rfl, _, rfl, iteT ?_⟩
        refine ⟨_, rfl, .inl ⟨rfl, _, SqL.of hL1⟩, L, _, _, rfl, rfl, hL1, len1000' (by (first | lia | omega)), ?_⟩
        exact fin _ (s1.upd_new hL) (put _ rfl)
      | some mo =>
        have hat := moL_last bs
        rw [hm] at hat put fin
        refine ⟨_, rfl, 1, rfl, L, _, -1, _, rfl, rfl, SqL.of hL1, hat, rfl, _, rfl, iteF ?_⟩
        refine by_eq e1_0e0e0 ?_
        refine ⟨_, rfl, 1, rfl, L, _, -1, _, rfl, rfl, SqL.of hL1, hat, _, rfl, (by show 2 ≤ sizeLine; decide), fun k1 hk1 => ?_⟩
        have x1 : Same H1 (upd H1 k1 (.tup [.int mo, .str t])) := Same.new hk1
        have s2 := s1.trans x1
        refine ⟨_, rfl, d, _, rfl, DGet.t (k := rkey mo t) (s2 _ _ hd) upd_same, _, rfl, ?_⟩
        rcases hk mo t with ⟨e1, e2⟩ | ⟨q1, ys, p, e1, e2, e3, e4⟩
        · have e1' : valV m (rkey mo t) = none := e1
          rw [e1']
          refine iteF ?_
          have er : (rlS kn (some mo) t).2.1 = some mo := by
            show (match kn mo t with | none => ([t], some mo, [SL]) | some p => cutW p.spl).2.1 = _
            rw [e2]
          refine ⟨_, rfl, .inl ⟨rfl, _, SqL.of (x1 _ _ hL1)⟩, _, rfl, 1, rfl, L, _, -1, _, rfl, rfl, SqL.of (x1 _ _ hL1), hat, L, _, _, rfl, rfl, x1 _ _ hL1, len1000' (by (first | lia | omega)), ?_⟩
          refine fin _ (s2.upd_new hL) ?_
          rw [er, upd_same]
        · have e1' : valV m (rkey mo t) = some (.ref q1) := e1
          rw [e1']
          refine iteT ?_
          have er : (rlS kn (some mo) t).2.1 = p.ks.head? := by
            show (match kn mo t with | none => ([t], some mo, [SL]) | some p => cutW p.spl).2.1 = _
            rw [e4]
            exact cut_ks (ok.one _ _ _ e4)
          have hsz := ok.sz _ _ _ e4
          have hdp := p.dep_le
          refine ⟨_, rfl, .inl ⟨rfl, _, SqL.of (x1 _ _ hL1)⟩, _, rfl, _, rfl, 1, rfl, L, _, -1, _, rfl, rfl, SqL.of (x1 _ _ hL1), hat, _, rfl, (by show 2 ≤ sizeLine; decide), fun k2 hk2 => ?_⟩
          have x2 := Same.new (o := .tup [.int mo, .str t]) hk2
          have s3 := s2.trans x2
          have hg := DGet.t (k := rkey mo t) (s3 _ _ hd) (show (upd (upd H1 k1 (.tup [.int mo, .str t])) k2 (.tup [.int mo, .str t])) k2 = _ from upd_same)
          rw [e1'] at hg
          refine ⟨d, _, rfl, hg, q1, ys, p, rfl, s3 _ _ e2, e3.mono s3.tk, by (first | lia | omega), L, _, _, rfl, rfl, x2 _ _ (x1 _ _ hL1), len1000' (by (first | lia | omega)), ?_⟩
          refine fin _ (s3.upd_new hL) ?_
          rw [er, upd_same]
  · rintro σ H1 ⟨v3, rfl, s1, hL1, hbl⟩
    rw [List.length_map, List.take_length] at hL1
    refine by_eq e2 ?_
    exact ⟨_, rfl, q L H1 s1 hL hL1⟩
def spRead94 : Sp := fun vs H Q _ => ∃ (a : Addr) (ws : List Str), vs = [.ref a] ∧ H a = some (.lst (ws.map V.str)) ∧ ws.length ≤ 400 ∧ Can SL 0 ws ∧
  ∀ (r : Addr) (xs : List V) (g : Gr Str) (H' : Hp), Same H H' → H' r = some (.tup xs) → RepG H' xs g → words SL g = ws → Clean SL g → Q (.ref r) H'
set_option maxHeartbeats 4000000 in
theorem ok_l_read (B : ∀ x ∈ blts, mg x = none) (F : Fun K "_law_read" "_law_read" s_l_read f fd) : FnOk P w K mg base CX0 1 f fd ["_law_words_here"] spRead94 := by
  refine F.ok sc_l_read (fun vs H Q E h => ?_) (fun cdv A outer s H vs Q E hr h => ?_)
  · obtain ⟨a, ws, rfl, _⟩ := h
    rfl
  obtain ⟨a, ws, rfl, ha, hwl, hcan, q⟩ := h
  refine ⟨_, (pss_cons (ps_set (i := 1) sc_l_read.nd rfl (Or.inl rfl) (pe_lst (pa_cons (pe_lst pa_nil) pa_nil)))
    (pss_cons (ps_set (i := 2) sc_l_read.nd rfl (Or.inl rfl) (pe_lst pa_nil))
    (pss_cons (ps_for PassesOwn.never rfl (pi_list (pv 0)) (pg_name (i := 3) sc_l_read.nd rfl (Or.inl rfl))
      (pss_one (ps_if (pt_cmpR op_eq (pv 3) pe_str (nomark _))
          (pss_cons (ps_set (i := 4) sc_l_read.nd rfl (Or.inl rfl) (pe_callTy call_tuple_of rfl (B "tuple" (by decide)) bt_tuple (pa_cons (pe_bm0 PySem.F.plainAttrs_list PySem.F.slot_list_pop PySem.F.type_list_pop mt_pop (pv 1)) pa_nil)))
            (pss_one (ps_expr (pe_bm PySem.F.plainAttrs_list PySem.F.slot_list_append PySem.F.type_list_append mt_append (pe_ix ix_list (pv 1) (pe_un un_neg pe_int) (fun _ _ => rfl)) (pa_cons (pe_tup (pa_cons (pe_bm0 PySem.F.plainAttrs_list PySem.F.slot_list_pop PySem.F.type_list_pop mt_pop (pv 2)) (pa_cons (pv 4) pa_nil))) pa_nil)))))
          (pss_cons (ps_expr (pe_bm PySem.F.plainAttrs_list PySem.F.slot_list_append PySem.F.type_list_append mt_append (pv 2) (pa_cons (pv 3) pa_nil)))
            (pss_one (ps_expr (pe_bm PySem.F.plainAttrs_list PySem.F.slot_list_append PySem.F.type_list_append mt_append (pv 1) (pa_cons (pe_lst pa_nil) pa_nil))))))))
    (pss_one (ps_ret (pe_callTy call_tuple_of rfl (B "tuple" (by decide)) bt_tuple (pa_cons (pe_ix ix_list (pv 1) pe_int (fun _ _ => rfl)) pa_nil))))))), ?_⟩
  refine ⟨by decide, fun a0 h0 => ⟨(by show 1 ≤ sizeLine; decide), fun R hR => ?_⟩⟩
  refine ⟨by decide, fun T hT => ?_⟩
  have g0 := GvS.start h0 hR hT
  generalize upd (upd (upd H a0 (.lst [])) R (.lst [.ref a0])) T (.lst []) = H1 at g0 ⊢
  refine ⟨_, rfl, a, rfl, ⟨_, SqL.of (g0.sm _ _ ha)⟩, for_list (K := K) (a := a) (xs := ws.map V.str) (fun i σ H2 => ∃ (as : List Addr) (gs : List (Gr Str)) (os : List Str) (v3 v4 : Option V), σ = [some (.ref a), some (.ref R), some (.ref T), v3, v4] ∧ GvS H H2 R T as gs os ∧ flatR SL gs os = ws.take i ∧ Can SL os.length (ws.drop i))
    ⟨_, _, _, none, none, rfl, g0, rfl, hcan⟩ ?_ ?_ ?_⟩
  · rintro i σ H2 _ ⟨_, _, _, _, _, _, hg, _⟩
    exact SqL.of (hg.sm _ _ ha)
  · rintro i x σ H2 hx ⟨as, gs, os, v3, v4, rfl, hg, hfl, hc⟩
    rw [List.getElem?_map] at hx
    obtain ⟨wd, hxt, rfl⟩ := Option.map_eq_some_iff.mp hx
    obtain ⟨hil, hti⟩ := List.getElem?_eq_some_iff.mp hxt
    have hdrop : ws.drop i = wd :: ws.drop (i + 1) := by rw [List.drop_eq_getElem_cons hil, hti]
    rw [hdrop] at hc
    have hfi : (flatR SL gs os).length ≤ 400 := by
      rw [hfl, List.length_take]
      (first | lia | omega)
    have hol : os.length ≤ 400 := by
      have := flatR_len SL (ts := os) hg.gl
      (first | lia | omega)
    refine ⟨_, rfl, rfl, _, rfl, ite2 (fun c => ?_) (fun c => ?_)⟩
    · have ct : wd = SL := by
        have := of_decide_eq_true c
        injection this
      subst ct
      obtain ⟨ho, hc'⟩ := can_end.mp hc
      cases os with
      | nil => exact absurd ho (by decide)
      | cons t os' =>
        obtain ⟨b0, b1, as, g0', g1, gs, vs0, vs1, rfl, rfl, hgs, h00, r00, h11, r11, hRs, hTs⟩ := hg.two
        obtain ⟨fs1, fs2, fs3⟩ := flat_shut (g0 := g0') (g1 := g1) (t := t) hgs
        have hv1 := r11.length
        have fc := flatR_close SL t (w := g0') (r := g1) hgs
        refine ⟨_, rfl, .inl ⟨rfl, _, SqL.of hRs⟩, R, _, _, rfl, rfl, hRs, snoc_last _ _, ?_⟩
        rw [snoc_drop]
        refine ⟨b0, vs0, rfl, .inl ⟨SqL.of (hg.f1 h00), fun l hl => ?_⟩⟩
        obtain ⟨hRb, h1b, hTb⟩ := hg.f2 (vs0 := vs0) h11 hl
        refine ⟨_, rfl, 1, rfl, R, _, -1, .ref b1, rfl, rfl, SqL.of hRb, atI_last _ _, .inl ⟨rfl, _, SqL.of h1b⟩, _, rfl, .inl ⟨rfl, _, SqL.of hTb⟩, T, _, _, rfl, rfl, hTb, snoc_last _ _, ?_⟩
        rw [snoc_drop]
        refine ⟨_, rfl, (by show 2 ≤ sizeLine; decide), fun l2 hl2 => ?_⟩
        refine ⟨b1, _, _, rfl, rfl, hg.f3 h11 hl hl2, len1000' (by (first | lia | omega)), ?_⟩
        refine ⟨_, _, _, _, _, rfl, hg.shut h00 r00 h11 r11 hl hl2, ?_, hc'⟩
        rw [fc, hfl, take_succ' hxt]
    · have hw : wd ≠ SL := fun z => c (decide_eq_true (congrArg V.str z))
      have hc' := (can_tag hw).mp hc
      have hal : as.length = gs.length := Paired.length hg.rows
      have hgl := hg.gl
      refine ⟨_, rfl, .inl ⟨rfl, _, SqL.of hg.hT⟩, _, rfl, T, _, _, rfl, rfl, hg.hT, len1000' (by rw [List.length_reverse, List.length_map]; (first | lia | omega)), ?_⟩
      have hRa2 : (upd H2 T (.lst ((os.map V.str).reverse ++ [.str wd]))) R = some (.lst (as.map V.ref).reverse) := by
        rw [upd_ne hg.RT]
        exact hg.hR
      refine ⟨_, rfl, .inl ⟨rfl, _, SqL.of hRa2⟩, by decide, fun l hl => ?_⟩
      obtain ⟨_, hl1⟩ := upd_none hl
      have hRb : (upd (upd H2 T (.lst ((os.map V.str).reverse ++ [.str wd]))) l (.lst [])) R = some (.lst (as.map V.ref).reverse) := by
        rw [upd_ne (ne_of_none hg.hR hl1)]
        exact hRa2
      refine ⟨R, _, _, rfl, rfl, hRb, len1000' (by rw [List.length_reverse, List.length_map]; (first | lia | omega)), ?_⟩
      refine ⟨_, _, _, _, _, rfl, hg.opened hw hl, ?_, hc'⟩
      rw [flatR_open, hfl, take_succ' hxt]
  · rintro σ H2 ⟨as, gs, os, v3, v4, rfl, hg, hfl, hc⟩
    rw [List.length_map] at hfl hc
    rw [List.take_length] at hfl
    rw [List.drop_length] at hc
    have ho : os.length = 0 := hc
    obtain rfl := List.eq_nil_of_length_eq_zero ho
    have hgl := hg.gl
    have hrows := hg.rows
    cases gs with
    | nil => simp at hgl
    | cons g gs =>
      obtain rfl : gs = [] := List.eq_nil_of_length_eq_zero (by simpa using hgl)
      cases hrows with
      | @cons b _ _ _ r hrows =>
        cases hrows
        obtain ⟨vs, hb, hgr⟩ := r
        refine ⟨_, rfl, R, _, 0, .ref b, rfl, rfl, SqL.of hg.hR, rfl, b, vs, rfl, .inl ⟨SqL.of hb, fun r hr => ?_⟩⟩
        exact q r vs g _ (hg.sm.upd_new (hg.sm.free hr)) upd_same (hgr.mono (TK.new hr)) hfl (hg.cl g (List.mem_cons_self ..))
theorem chW_gapp (kn : Kn) (m : Int) : ∀ a b : Gr Str, chW kn (gapp a b) m = chW kn a m ++ chW kn b m
  | .nil, b => rfl
  | .cons t w o, b => by
    show putF (chW kn w) (paD kn m t) ++ chW kn (gapp o b) m = (putF (chW kn w) (paD kn m t) ++ chW kn o m) ++ chW kn b m
    rw [chW_gapp kn m o b, List.append_assoc]
theorem putF_len {f : Int → List Str} {N : Nat} {p : Pa} (h : p.nk ≤ 1) (hf : ∀ m, (f m).length ≤ N) : (putF f p).length ≤ p.spl.length + N := by
  rw [putF_cut f h, List.length_append, List.length_append]
  have h1 := cutW_len p.spl
  have h2 : (onO f (cutW p.spl).2.1).length ≤ N := by
    cases (cutW p.spl).2.1 with
    | none => exact Nat.zero_le _
    | some m => exact hf m
  (first | lia | omega)
theorem paD_ok {kn : Kn} (ok : KnOk kn) (m : Int) (t : Str) : (paD kn m t).nk ≤ 1 ∧ (paD kn m t).sz ≤ 20 := by
  unfold paD
  cases h : kn m t with
  | none => exact ⟨Nat.le_of_ble_eq_true rfl, Nat.le_of_ble_eq_true rfl⟩
  | some p => exact ⟨ok.one _ _ _ h, ok.sz _ _ _ h⟩
theorem chW_len {kn : Kn} (ok : KnOk kn) : ∀ (g : Gr Str) (m : Int), (chW kn g m).length ≤ 40 * gsz g
  | .nil, _ => Nat.zero_le _
  | .cons t w o, m => by
    obtain ⟨h1, h2⟩ := paD_ok ok m t
    have h3 := putF_len (f := chW kn w) h1 (fun m => chW_len ok w m)
    have h4 := (paD kn m t).spl_len
    have h5 := chW_len ok o m
    show (putF (chW kn w) (paD kn m t) ++ chW kn o m).length ≤ 40 * gsz (.cons t w o)
    rw [List.length_append]
    simp only [gsz]
    (first | lia | omega)
theorem gsz_take : ∀ (i : Nat) (g : Gr Str), gsz (takeG i g) ≤ gsz g
  | 0, _ => Nat.zero_le _
  | _ + 1, .nil => Nat.le_refl _
  | i + 1, .cons t w o => by
    have := gsz_take i o
    simp only [takeG, gsz]
    (first | lia | omega)
theorem Pa.take_nk : ∀ (i : Nat) (p : Pa), (p.take i).nk ≤ p.nk
  | 0, _ => Nat.zero_le _
  | _ + 1, .nil => Nat.le_refl _
  | i + 1, .kids m o => by have := Pa.take_nk i o; simp only [Pa.take, Pa.nk]; (first | lia | omega)
  | i + 1, .tag t w o => by have := Pa.take_nk i o; simp only [Pa.take, Pa.nk]; (first | lia | omega)
def spPut94 (d : Nat) : Sp := fun vs H Q _ => ∃ (dd qa qi : Addr) (m : List (List Key × V)) (kn : Kn) (ys xs : List V) (p : Pa) (g : Gr Str), vs = [.ref dd, .ref qa, .ref qi] ∧ H dd = some (.dT m) ∧ KnR H m kn ∧ KnOk kn ∧ (∀ i t p', kn i t = some p' → p'.dep ≤ 5) ∧ H qa = some (.tup ys) ∧ RepP H ys p ∧ p.nk ≤ 1 ∧ p.sz ≤ 20 ∧ H qi = some (.tup xs) ∧ RepG H xs g ∧ gsz g ≤ 200 ∧ p.dep + 1 + 7 * gdep g < d ∧
  ∀ (r : Addr) (H' : Hp), Same H H' → H r = none → H' r = some (.lst ((putF (chW kn g) p).map V.str)) → Q (.ref r) H'
def spChg94 (d : Nat) : Sp := fun vs H Q _ => ∃ (dd qg : Addr) (mo : Int) (m : List (List Key × V)) (kn : Kn) (xs : List V) (g : Gr Str), vs = [.ref dd, .int mo, .ref qg] ∧ H dd = some (.dT m) ∧ KnR H m kn ∧ KnOk kn ∧ (∀ i t p', kn i t = some p' → p'.dep ≤ 5) ∧ H qg = some (.tup xs) ∧ RepG H xs g ∧ gsz g ≤ 200 ∧ 7 * gdep g < d ∧
  ∀ (r : Addr) (H' : Hp), Same H H' → H r = none → H' r = some (.lst ((chW kn g mo).map V.str)) → Q (.ref r) H'
theorem put0 {vs : List V} {H : Hp} {Q : VK} {E : XK} (z : spPut94 0 vs H Q E) : False := by
  obtain ⟨_, _, _, _, _, _, _, _, _, _, _, _, _, _, _, _, _, _, _, _, _, hd, _⟩ := z
  exact absurd hd (Nat.not_lt_zero _)
theorem chg0 {vs : List V} {H : Hp} {Q : VK} {E : XK} (z : spChg94 0 vs H Q E) : False := by
  obtain ⟨_, _, _, _, _, _, _, _, _, _, _, _, _, _, _, hd, _⟩ := z
  exact absurd hd (Nat.not_lt_zero _)
set_option maxHeartbeats 4000000 in
theorem ok_l_put (d : Nat) (B : ∀ x ∈ blts, mg x = none) (g_l_changed : Has P w K mg base "_law_changed" ["_law_made", "_law_mode", "_law_grove"] d (spChg94 d)) (g_l_put : Has P w K mg base "_law_put" ["_law_made", "_law_parts_here", "_law_inner"] d (spPut94 d)) (F : Fun K "_law_put" "_law_put" s_l_put f fd) : FnOk P w K mg base CX0 (d + 1) f fd ["_law_made", "_law_parts_here", "_law_inner"] (spPut94 (d + 1)) := by
  refine F.ok sc_l_put (fun vs H Q E h => ?_) (fun cdv A outer s H vs Q E hr h => ?_)
  · obtain ⟨dd, qa, qi, m, kn, ys, xs, p, g, rfl, _⟩ := h
    rfl
  obtain ⟨dd, qa, qi, m, kn, ys, xs, p, g, rfl, hdd, hkn, ok, hdp, hqa, hP, hnk, hsz, hqi, hG, hgs, hlv, qq⟩ := h
  refine ⟨_, (pss_cons (ps_set (i := 3) sc_l_put.nd rfl (Or.inl rfl) (pe_lst pa_nil))
    (pss_cons (ps_for PassesOwn.never rfl (pi_tup (pv 1)) (pg_name (i := 4) sc_l_put.nd rfl (Or.inl rfl))
      (pss_one (ps_if (pt_cmpR op_eq (pe_ix ix_tup (pv 4) pe_int (fun _ _ => rfl)) pe_str (nomark _))
          (pss_one (ps_set (i := 3) sc_l_put.nd rfl (Or.inl rfl) (pe_op op_cat (pv 3) (pe_has g_l_changed hr rfl (pa_cons (pv 0) (pa_cons (pe_ix ix_tup (pv 4) pe_int (fun _ _ => rfl)) (pa_cons (pv 2) pa_nil))) (by (first | lia | omega))))))
          (pss_one (ps_set (i := 3) sc_l_put.nd rfl (Or.inl rfl) (pe_op op_cat (pe_op op_cat (pe_op op_cat (pv 3) (pe_lst (pa_cons (pe_ix ix_tup (pv 4) pe_int (fun _ _ => rfl)) pa_nil))) (pe_has g_l_put hr rfl (pa_cons (pv 0) (pa_cons (pe_ix ix_tup (pv 4) pe_int (fun _ _ => rfl)) (pa_cons (pv 2) pa_nil))) (by (first | lia | omega)))) (pe_lst (pa_cons pe_str pa_nil))))))))
    (pss_one (ps_ret (pv 3))))), ?_⟩
  have fl : ∀ mo, (chW kn g mo).length ≤ 8000 := fun mo => by have := chW_len ok g mo; (first | lia | omega)
  have pl : ∀ p' : Pa, p'.nk ≤ 1 → p'.sz ≤ 20 → (putF (chW kn g) p').length ≤ 8040 := fun p' h1 h2 => by
    have := putF_len h1 fl
    have := p'.spl_len
    (first | lia | omega)
  refine ⟨by decide, fun L0 hL0 => ?_⟩
  have s0 : Same H (upd H L0 (.lst [])) := Same.new hL0
  refine ⟨_, rfl, qa, rfl, ⟨_, SqT.of (s0 _ _ hqa)⟩, for_tup (K := K) (a := qa) (xs := ys) (fun i σ H1 => ∃ (L : Addr) (v4 : Option V), σ = [some (.ref dd), some (.ref qa), some (.ref qi), some (.ref L), v4] ∧ Same H H1 ∧ H L = none ∧ H1 L = some (.lst ((putF (chW kn g) (p.take i)).map V.str)))
    ⟨L0, none, rfl, s0, hL0, upd_same⟩ ?_ ?_ ?_⟩
  · rintro i σ H1 _ ⟨_, _, _, s1, _⟩
    exact SqT.of (s1 _ _ hqa)
  · rintro i x σ H1 hx ⟨L, v4, rfl, s1, hL, hL1⟩
    obtain ⟨a, rfl, ha⟩ := hP.at i x hx
    have t1 := Pa.take_nk i p
    have t2 := p.take_sz i
    have t3 := pl (p.take i) (by (first | lia | omega)) (by (first | lia | omega))
    have u1 := Pa.take_nk (i + 1) p
    have u2 := p.take_sz (i + 1)
    rcases ha with ⟨mo, h1, h2⟩ | ⟨t, q', ys', w', h1, h2, h3, h4, h5, h6⟩
    · have h1' := s1 _ _ h1
      refine ⟨_, rfl, a, _, 0, _, rfl, rfl, SqT.of h1', rfl, rfl, _, rfl, iteT ?_⟩
      refine ⟨_, rfl, _, rfl, _, rfl, a, _, 1, _, rfl, rfl, SqT.of h1', rfl, _, rfl, dd, qi, mo, m, kn, xs, g, rfl, s1 _ _ hdd, hkn.tk s1.tk, ok, hdp, s1 _ _ hqi, hG.mono s1.tk, hgs, by (first | lia | omega), fun r H2 s2 hr0 hr2 => ?_⟩
      have := fl mo
      refine ⟨L, r, _, _, rfl, rfl, s2 _ _ hL1, hr2, len1000 (by rw [List.length_map, List.length_map]; (first | lia | omega)), fun L2 hL2 => ?_⟩
      have s12 := s1.trans s2
      refine ⟨L2, _, rfl, s12.upd_new (s12.free hL2), s12.free hL2, ?_⟩
      rw [upd_same, h2, putF_app, List.map_append]
      simp [putF]
    · have h1' := s1 _ _ h1
      have hnkw : w'.nk ≤ 1 := by
        rw [h4, Pa.nk_app] at u1
        simp only [Pa.nk] at u1
        (first | lia | omega)
      have hszw : w'.sz ≤ 20 := by
        rw [h4, Pa.sz_app] at u2
        simp only [Pa.sz] at u2
        (first | lia | omega)
      have t4 := pl w' hnkw hszw
      refine ⟨_, rfl, a, _, 0, _, rfl, rfl, SqT.of h1', rfl, rfl, _, rfl, iteF ?_⟩
      refine ⟨_, rfl, _, rfl, a, _, 1, _, rfl, rfl, SqT.of h1', rfl, (by show 1 ≤ sizeLine; decide), fun l1 hl1 => ?_⟩
      have s2 : Same H1 (upd H1 l1 (.lst [.str t])) := Same.new hl1
      refine ⟨L, l1, _, _, rfl, rfl, s2 _ _ hL1, upd_same, len1000 (by rw [List.length_map]; show _ + 1 ≤ _; (first | lia | omega)), fun l2 hl2 => ?_⟩
      have s3 := Same.new (o := .lst ((putF (chW kn g) (p.take i)).map V.str ++ [.str t])) hl2
      have s13 := s1.trans (s2.trans s3)
      refine ⟨_, rfl, _, rfl, a, _, 2, _, rfl, rfl, SqT.of (s3 _ _ (s2 _ _ h1')), rfl, _, rfl, dd, q', qi, m, kn, ys', xs, w', g, rfl, s13 _ _ hdd, hkn.tk s13.tk, ok, hdp, s13 _ _ h2, h3.mono s13.tk, hnkw, hszw, s13 _ _ hqi, hG.mono s13.tk, hgs, by (first | lia | omega), fun r H4 s4 hr0 hr4 => ?_⟩
      refine ⟨l2, r, _, _, rfl, rfl, s4 _ _ upd_same, hr4, len1000 (by rw [List.length_append, List.length_map, List.length_map]; show _ + 1 + _ ≤ _; (first | lia | omega)), fun l3 hl3 => ⟨(by show 1 ≤ sizeLine; decide), fun l4 hl4 => ?_⟩⟩
      have s5 := Same.new (o := .lst ((putF (chW kn g) (p.take i)).map V.str ++ [.str t] ++ (putF (chW kn g) w').map V.str)) hl3
      have s6 := Same.new (o := .lst [.str SL]) hl4
      refine ⟨l3, l4, _, _, rfl, rfl, s6 _ _ upd_same, upd_same, len1000 (by rw [List.length_append, List.length_append, List.length_map, List.length_map]; show _ + 1 + _ + 1 ≤ _; (first | lia | omega)), fun l5 hl5 => ?_⟩
      have s16 := s13.trans (s4.trans (s5.trans s6))
      refine ⟨l5, _, rfl, s16.upd_new (s16.free hl5), s16.free hl5, ?_⟩
      rw [upd_same, h4, putF_app, List.map_append]
      simp [putF]
  · rintro σ H1 ⟨L, v4, rfl, s1, hL, hL1⟩
    rw [hP.take_all] at hL1
    exact ⟨_, rfl, qq L H1 s1 hL hL1⟩
set_option maxHeartbeats 4000000 in
theorem ok_l_changed (d : Nat) (B : ∀ x ∈ blts, mg x = none) (g_l_put : Has P w K mg base "_law_put" ["_law_made", "_law_parts_here", "_law_inner"] d (spPut94 d)) (g_l_changed : Has P w K mg base "_law_changed" ["_law_made", "_law_mode", "_law_grove"] d (spChg94 d)) (F : Fun K "_law_changed" "_law_changed" s_l_changed f fd) : FnOk P w K mg base CX0 (d + 1) f fd ["_law_made", "_law_mode", "_law_grove"] (spChg94 (d + 1)) := by
  refine F.ok sc_l_changed (fun vs H Q E h => ?_) (fun cdv A outer s H vs Q E hr h => ?_)
  · obtain ⟨dd, qg, mo, m, kn, xs, g, rfl, _⟩ := h
    rfl
  obtain ⟨dd, qg, mo, m, kn, xs, g, rfl, hdd, hkn, ok, hdp, hqg, hG, hgs, hlv, qq⟩ := h
  have hu1 : (A.deeper (PyProof.Rows.envOfC (Str.ofString "_law_changed") (defScope s_l_changed) s.heap.objs.size f cdv)).units + 1 < cLine := by have := hr.un; (first | lia | omega)
  refine ⟨_, (pss_cons (ps_set (i := 3) sc_l_changed.nd rfl (Or.inl rfl) (pe_lst pa_nil))
    (pss_cons (ps_for PassesOwn.never rfl (pi_tup (pv 2)) (pg_tup rfl (pgs_cons (pg_name (i := 4) sc_l_changed.nd rfl (Or.inl rfl)) (pgs_cons (pg_name (i := 5) sc_l_changed.nd rfl (Or.inl rfl)) pgs_nil)))
      (pss_one (ps_if (pt_cmp (pc_din hu1 (pe_tup (pa_cons (pv 1) (pa_cons (pv 4) pa_nil))) (pv 0)))
          (pss_one (ps_set (i := 3) sc_l_changed.nd rfl (Or.inl rfl) (pe_op op_cat (pv 3) (pe_has g_l_put hr rfl (pa_cons (pv 0) (pa_cons (pe_dget hu1 (pv 0) (pe_tup (pa_cons (pv 1) (pa_cons (pv 4) pa_nil))) (fun _ _ => rfl)) (pa_cons (pv 5) pa_nil))) (by (first | lia | omega))))))
          (pss_one (ps_set (i := 3) sc_l_changed.nd rfl (Or.inl rfl) (pe_op op_cat (pe_op op_cat (pe_op op_cat (pv 3) (pe_lst (pa_cons (pv 4) pa_nil))) (pe_has g_l_changed hr rfl (pa_cons (pv 0) (pa_cons (pv 1) (pa_cons (pv 5) pa_nil))) (by (first | lia | omega)))) (pe_lst (pa_cons pe_str pa_nil))))))))
    (pss_one (ps_ret (pv 3))))), ?_⟩
  refine ⟨by decide, fun L0 hL0 => ?_⟩
  have s0 : Same H (upd H L0 (.lst [])) := Same.new hL0
  refine ⟨_, rfl, qg, rfl, ⟨_, SqT.of (s0 _ _ hqg)⟩, for_tup (K := K) (a := qg) (xs := xs) (fun i σ H1 => ∃ (L : Addr) (v4 v5 : Option V), σ = [some (.ref dd), some (.int mo), some (.ref qg), some (.ref L), v4, v5] ∧ Same H H1 ∧ H L = none ∧ H1 L = some (.lst ((chW kn (takeG i g) mo).map V.str)))
    ⟨L0, none, none, rfl, s0, hL0, upd_same⟩ ?_ ?_ ?_⟩
  · rintro i σ H1 _ ⟨_, _, _, _, s1, _⟩
    exact SqT.of (s1 _ _ hqg)
  · rintro i x σ H1 hx ⟨L, v4, v5, rfl, s1, hL, hL1⟩
    obtain ⟨pp, q, t, ys, w', rfl, h1, h2, h3, h4, h5⟩ := hG.tree i x hx
    have c1 := chW_len ok (takeG i g) mo
    have c2 := gsz_take i g
    have k1 := kid_dep h5
    have k2 := kid_sz h5
    have h1' := s1 _ _ h1
    refine ⟨pp, _, rfl, SqT.of h1', rfl, _, _, rfl, _, _, rfl, rfl, ?_⟩
    refine ⟨_, rfl, _, rfl, (by show 2 ≤ sizeLine; decide), fun k1' hk1 => ?_⟩
    have x1 : Same H1 (upd H1 k1' (.tup [.int mo, .str t])) := Same.new hk1
    have s2 := s1.trans x1
    have eT : chW kn (takeG (i + 1) g) mo = chW kn (takeG i g) mo ++ putF (chW kn w') (paD kn mo t) := by
      rw [h4, chW_gapp]
      show _ ++ (putF (chW kn w') (paD kn mo t) ++ []) = _
      rw [List.append_nil]
    have fl : ∀ mo, (chW kn w' mo).length ≤ 8000 := fun mo => by have := chW_len ok w' mo; (first | lia | omega)
    obtain ⟨n1, n2⟩ := paD_ok ok mo t
    have n3 := putF_len n1 fl
    have n4 := (paD kn mo t).spl_len
    refine ⟨_, rfl, dd, _, rfl, DGet.t (k := rkey mo t) (s2 _ _ hdd) upd_same, _, rfl, ?_⟩
    rcases hkn mo t with ⟨e1, e2⟩ | ⟨q1, zs, p, e1, e2, e3, e4⟩
    · have e1' : valV m (rkey mo t) = none := e1
      have ep : putF (chW kn w') (paD kn mo t) = t :: (chW kn w' mo ++ [SL]) := by
        unfold paD
        rw [e2]
        simp [putF]
      rw [e1']
      refine iteF ?_
      refine ⟨_, rfl, _, rfl, (by show 1 ≤ sizeLine; decide), fun l1 hl1 => ?_⟩
      have y1 := Same.new (o := .lst [.str t]) hl1
      refine ⟨L, l1, _, _, rfl, rfl, y1 _ _ (x1 _ _ hL1), upd_same, len1000 (by rw [List.length_map]; show _ + 1 ≤ _; (first | lia | omega)), fun l2 hl2 => ?_⟩
      have y2 := Same.new (o := .lst ((chW kn (takeG i g) mo).map V.str ++ [.str t])) hl2
      have s3 := s2.trans (y1.trans y2)
      have := fl mo
      refine ⟨_, rfl, _, rfl, _, rfl, dd, q, mo, m, kn, ys, w', rfl, s3 _ _ hdd, hkn.tk s3.tk, ok, hdp, s3 _ _ h2, h3.mono s3.tk, by (first | lia | omega), by (first | lia | omega), fun r H4 s4 hr0 hr4 => ?_⟩
      refine ⟨l2, r, _, _, rfl, rfl, s4 _ _ upd_same, hr4, len1000 (by rw [List.length_append, List.length_map, List.length_map]; show _ + 1 + _ ≤ _; (first | lia | omega)), fun l3 hl3 => ⟨(by show 1 ≤ sizeLine; decide), fun l4 hl4 => ?_⟩⟩
      have s5 := Same.new (o := .lst ((chW kn (takeG i g) mo).map V.str ++ [.str t] ++ (chW kn w' mo).map V.str)) hl3
      have s6 := Same.new (o := .lst [.str SL]) hl4
      refine ⟨l3, l4, _, _, rfl, rfl, s6 _ _ upd_same, upd_same, len1000 (by rw [List.length_append, List.length_append, List.length_map, List.length_map]; show _ + 1 + _ + 1 ≤ _; (first | lia | omega)), fun l5 hl5 => ?_⟩
      have s16 := s3.trans (s4.trans (s5.trans s6))
      refine ⟨l5, _, _, rfl, s16.upd_new (s16.free hl5), s16.free hl5, ?_⟩
      rw [upd_same, eT, ep]
      simp
    · have e1' : valV m (rkey mo t) = some (.ref q1) := e1
      have ep : paD kn mo t = p := by
        unfold paD
        rw [e4]
        rfl
      rw [ep] at eT n1 n2 n3 n4
      have hd6 := hdp _ _ _ e4
      rw [e1']
      refine iteT ?_
      refine ⟨_, rfl, _, rfl, _, rfl, _, rfl, _, rfl, (by show 2 ≤ sizeLine; decide), fun k2' hk2 => ?_⟩
      have x2 := Same.new (o := .tup [.int mo, .str t]) hk2
      have s3 := s2.trans x2
      have hg := DGet.t (k := rkey mo t) (s3 _ _ hdd) (show (upd (upd H1 k1' (.tup [.int mo, .str t])) k2' (.tup [.int mo, .str t])) k2' = _ from upd_same)
      rw [e1'] at hg
      refine ⟨dd, _, rfl, hg, _, rfl, dd, q1, q, m, kn, zs, ys, p, w', rfl, s3 _ _ hdd, hkn.tk s3.tk, ok, hdp, s3 _ _ e2, e3.mono s3.tk, n1, n2, s3 _ _ h2, h3.mono s3.tk, by (first | lia | omega), by (first | lia | omega), fun r H4 s4 hr0 hr4 => ?_⟩
      refine ⟨L, r, _, _, rfl, rfl, s4 _ _ (x2 _ _ (x1 _ _ hL1)), hr4, len1000 (by rw [List.length_map, List.length_map]; (first | lia | omega)), fun L2 hL2 => ?_⟩
      have s14 := s3.trans s4
      refine ⟨L2, _, _, rfl, s14.upd_new (s14.free hL2), s14.free hL2, ?_⟩
      rw [upd_same, eT, List.map_append]
  · rintro σ H1 ⟨L, v4, v5, rfl, s1, hL, hL1⟩
    rw [RepG.take_all hG] at hL1
    exact ⟨_, rfl, qq L H1 s1 hL hL1⟩
theorem run_can (kn : Kn) : ∀ (us vs : List Str) (bs : Bg), Can SL bs.length (us ++ vs) → Can SL (runS kn bs us).2.length vs
  | [], vs, bs, h => h
  | u :: us, vs, bs, h => by
    refine run_can kn us vs (stepS kn bs u).2 ?_
    rw [step_hgt]
    by_cases c : u = SL
    · rw [if_pos c]
      subst c
      exact (can_end.mp h).2
    · rw [if_neg c]
      exact (can_tag c).mp h
theorem can_pops : ∀ (l n : Nat) (rr : List Str), Can SL n rr → Can SL (n + l) (List.replicate l SL ++ rr)
  | 0, n, rr, h => h
  | l + 1, n, rr, h => by
    rw [List.replicate_succ, List.cons_append]
    exact can_end.mpr ⟨by (first | lia | omega), can_pops l n rr h⟩
set_option maxHeartbeats 8000000 in
theorem ok_law {C_Stream : Addr} (B : ∀ x ∈ blts, mg x = none) (c_Stream : StC K C_Stream) (g_l_cell : Has P w K mg base "_law_cell" ["_law_script", "_law_k"] 1 (spCellS K)) (g_l_tags : Has P w K mg base "_law_tags" ["_law_cell_here"] 1 spTags2) (g_l_rules : Has P w K mg base "_law_rules" ["_law_script", "_law_modes", "_law_tags_here"] 2 (spRulesS K)) (g_Stream : HasC P w K mg base C_Stream "Stream" ["self", "changer"] 25 (spStInit C_Stream)) (g_l_words : Has P w K mg base "_law_words" ["_law_script", "_law_tags_here"] 2 (spWordsS K)) (g_Stream_take : HasM P w K mg base C_Stream "take" ["self", "word"] 25 (spTakeS C_Stream)) (g_l_open_modes : Has P w K mg base "_law_open_modes" ["_law_made", "_law_words_here"] 23 spOpenM) (g_l_read : Has P w K mg base "_law_read" ["_law_words_here"] 1 spRead94) (g_l_changed : Has P w K mg base "_law_changed" ["_law_made", "_law_mode", "_law_grove"] 300 (spChg94 300)) (F : Fun K "law" "law" s_law f fd) : FnOk P w K mg base CX0 301 f fd ["_law_script"] (spLaw K) := by
  refine F.ok sc_law (fun vs H Q E h => ?_) (fun cdv A outer s H vs Q E hr h => ?_)
  · obtain ⟨a, ns, rfl, _⟩ := h
    rfl
  obtain ⟨a, ns, rfl, hS, h63, q⟩ := h
  have hu := hu_room hr
  have hu1 : (A.deeper (PyProof.Rows.envOfC (Str.ofString "law") (defScope s_law) s.heap.objs.size f cdv)).units + 1 < cLine := by have := hr.un; (first | lia | omega)
  refine hideI ((defBody s_law).drop 12) (pss_one (ps_ret pe_bl)) (fun u12 h12 e12 => ?_)
  refine hideI ((sBody ((defBody s_law).getD 11 (.Pass ⟨0, 0, 0, 0⟩))).drop 1) (pss_one (ps_if (pt_cmpR (op_neD hu) (pe_slice sl_list (pe_has g_l_changed hr rfl (pa_cons (pv 3) (pa_cons pe_int (pa_cons (pv 11) pa_nil)))) po_none (po_some (pe_op op_add (pe_callB call_len_seq rfl (B "len" (by decide)) PySem.boot_len (pa_cons (pv 6) pa_nil)) pe_int))) (pe_op op_cat (pv 6) (pe_lst (pa_cons (pv 10) pa_nil))) (nomark _))
      (pss_one (ps_ret pe_bl))
      pss_nil)) (fun u11_1 h11_1 e11_1 => ?_)
  refine hideI ((sBody ((defBody s_law).getD 11 (.Pass ⟨0, 0, 0, 0⟩))).drop 0) (pss_cons (ps_set (i := 11) sc_law.nd rfl (Or.inl rfl) (pe_has g_l_read hr rfl (pa_cons (pe_op op_cat (pe_op op_cat (pv 9) (pe_lst (pa_cons (pv 10) (pa_cons pe_str pa_nil)))) (pe_comp (cl := []) ["_law_one"] [] (pi_list (pe_slice sl_list (pv 8) (po_some pe_int) po_none)) (fun _ _ _ _ => (pg_name (i := 0) nd1 rfl (Or.inl rfl))) (fun _ _ _ _ => pe_str) rfl rfl (by decide) rfl (by decide) (fun _ _ h => nomatch h) (nofree (by decide)) (fun _ _ h => nomatch h) (fun _ => rfl))) pa_nil))) h11_1) (fun u11_0 h11_0 e11_0 => ?_)
  refine hideI ((defBody s_law).drop 11) (pss_cons (ps_for PassesOwn.never rfl (pi_list (pe_lst (pa_cons pe_str (pa_cons pe_str pa_nil)))) (pg_name (i := 10) sc_law.nd rfl (Or.inl rfl))
      h11_0) h12) (fun u11 h11 e11 => ?_)
  refine hideI ((sBody ((defBody s_law).getD 10 (.Pass ⟨0, 0, 0, 0⟩))).drop 1) (pss_one (ps_expr (pe_bm PySem.F.plainAttrs_list PySem.F.slot_list_append PySem.F.type_list_append mt_append (pv 9) (pa_cons pe_str pa_nil)))) (fun u10_1 h10_1 e10_1 => ?_)
  refine hideI ((sBody ((defBody s_law).getD 10 (.Pass ⟨0, 0, 0, 0⟩))).drop 0) (pss_cons (ps_expr (pe_bm0 PySem.F.plainAttrs_list PySem.F.slot_list_pop PySem.F.type_list_pop mt_pop (pv 8))) h10_1) (fun u10_0 h10_0 e10_0 => ?_)
  refine hideI ((defBody s_law).drop 10) (pss_cons (ps_while PassesOwn.never (pt_cmpR op_isN (pe_ix ix_list (pv 8) (pe_un un_neg pe_int) (fun _ _ => rfl)) pe_non (nomark _))
      h10_0) h11) (fun u10 h10 e10 => ?_)
  refine hideI ((defBody s_law).drop 9) (pss_cons (ps_set (i := 9) sc_law.nd rfl (Or.inl rfl) (pe_callTy call_list_of rfl (B "list" (by decide)) bt_list (pa_cons (pv 5) pa_nil))) h10) (fun u9 h9 e9 => ?_)
  refine hideI ((defBody s_law).drop 8) (pss_cons (ps_set (i := 8) sc_law.nd rfl (Or.inl rfl) (pe_has g_l_open_modes hr rfl (pa_cons (pv 3) (pa_cons (pv 5) pa_nil)))) h9) (fun u8 h8 e8 => ?_)
  refine hideI ((sBody ((defBody s_law).getD 7 (.Pass ⟨0, 0, 0, 0⟩))).drop 0) (pss_one (ps_set (i := 6) sc_law.nd rfl (Or.inl rfl) (pe_op op_cat (pv 6) (pe_hasm g_Stream_take hr (pv 4) c_Stream.cls (pa_cons (pv 7) pa_nil))))) (fun u7_0 h7_0 e7_0 => ?_)
  refine hideI ((defBody s_law).drop 7) (pss_cons (ps_for PassesOwn.never rfl (pi_list (pv 5)) (pg_name (i := 7) sc_law.nd rfl (Or.inl rfl))
      h7_0) h8) (fun u7 h7 e7 => ?_)
  refine hideI ((defBody s_law).drop 6) (pss_cons (ps_set (i := 6) sc_law.nd rfl (Or.inl rfl) (pe_lst pa_nil)) h7) (fun u6 h6 e6 => ?_)
  refine hideI ((defBody s_law).drop 5) (pss_cons (ps_set (i := 5) sc_law.nd rfl (Or.inl rfl) (pe_slice sl_list (pv 5) po_none (po_some (pe_op op_mod (pe_has g_l_cell hr rfl (pa_cons (pv 0) (pa_cons pe_int pa_nil))) (pe_op op_add (pe_callB call_len_seq rfl (B "len" (by decide)) PySem.boot_len (pa_cons (pv 5) pa_nil)) pe_int))))) h6) (fun u5 h5 e5 => ?_)
  refine hideI ((defBody s_law).drop 4) (pss_cons (ps_set (i := 5) sc_law.nd rfl (Or.inl rfl) (pe_has g_l_words hr rfl (pa_cons (pv 0) (pa_cons (pv 2) pa_nil)))) h5) (fun u4 h4 e4 => ?_)
  refine hideI ((defBody s_law).drop 3) (pss_cons (ps_set (i := 4) sc_law.nd rfl (Or.inl rfl) (pe_hasc g_Stream hr rfl (pa_cons (pe_tup (pa_cons (pv 1) (pa_cons (pe_callTy call_tuple_of rfl (B "tuple" (by decide)) bt_tuple (pa_cons (pe_comp (cl := _) ["_law_key"] [("_law_made", 3)] (pi_list (pe_callB (call_sorted_dPs rfl) rfl (B "sorted" (by decide)) bt_sorted (pa_cons (pv 3) pa_nil))) (fun _ _ _ _ => (pg_name (i := 0) (show List.Nodup (["_law_key", "_law_made"] : List Str) by decide) rfl (Or.inl rfl))) (fun _ _ _ _ => (pe_tup (pa_cons (pe_ix (ix_tupK (K := K) rfl) (pv 0) pe_int (fun _ _ => rfl)) (pa_cons (pe_ix (ix_tupK (K := K) rfl) (pv 0) pe_int (fun _ _ => rfl)) (pa_cons (pe_dget hu1 (pv 1) (pv 0) (fun _ _ => rfl)) pa_nil))))) rfl rfl (by decide) rfl (by decide) (cap_cl (by (repeat' first | exact List.forall_mem_nil _ | refine List.forall_mem_cons.mpr ⟨?_, ?_⟩) <;> rfl)) (cap_has (by (repeat' first | exact List.forall_mem_nil _ | refine List.forall_mem_cons.mpr ⟨?_, ?_⟩) <;> first | (intro h; exact ⟨_, rfl⟩) | (intro h; exact absurd h (by decide)))) (fun _ => by (repeat' first | exact List.forall_mem_nil _ | refine List.forall_mem_cons.mpr ⟨?_, ?_⟩) <;> exact ⟨rfl, rfl, Or.inl rfl⟩) (fun _ => rfl)) pa_nil)) pa_nil))) pa_nil))) h4) (fun u3 h3 e3 => ?_)
  refine hideI ((defBody s_law).drop 2) (pss_cons (ps_set (i := 3) sc_law.nd rfl (Or.inr rfl) (pe_has g_l_rules hr rfl (pa_cons (pv 0) (pa_cons (pv 1) (pa_cons (pv 2) pa_nil))))) h3) (fun u2 h2 e2 => ?_)
  refine hideI ((defBody s_law).drop 1) (pss_cons (ps_set (i := 2) sc_law.nd rfl (Or.inl rfl) (pe_has g_l_tags hr rfl (pa_cons (pe_op op_mod (pe_has g_l_cell hr rfl (pa_cons (pv 0) (pa_cons pe_int pa_nil))) (pe_op op_pow pe_int pe_int)) pa_nil))) h2) (fun u1 h1 e1 => ?_)
  refine hideI ((defBody s_law).drop 0) (pss_cons (ps_set (i := 1) sc_law.nd rfl (Or.inl rfl) (pe_op op_add pe_int (pe_op op_mod (pe_has g_l_cell hr rfl (pa_cons (pv 0) (pa_cons pe_int pa_nil))) pe_int))) h1) (fun u0 h0 e0 => ?_)
  refine ⟨u0, h0, ?_⟩
  refine by_eq e0 ?_
  refine ⟨_, rfl, a, ns, 0, rfl, hS, h63, by decide, by decide, fun v => ?_⟩
  have v3 := Int.emod_nonneg v (by decide : (3 : Int) ≠ 0)
  have v3' := Int.emod_lt_of_pos v (by decide : (0 : Int) < 3)
  refine ⟨_, _, rfl, rfl, (by show (0 : Int) < 3; decide), _, _, rfl, rfl, ?_⟩
  refine by_eq e1 ?_
  refine ⟨_, rfl, a, ns, 61, rfl, hS, h63, by decide, by decide, fun v1 => ?_⟩
  have w0 := Int.emod_nonneg v1 (by decide : ((10 : Int) ^ (9 : Int).toNat) ≠ 0)
  have w1 := Int.emod_lt_of_pos v1 (by decide : (0 : Int) < ((10 : Int) ^ (9 : Int).toNat))
  refine ⟨_, _, rfl, rfl, ⟨by decide, by decide, by decide⟩, _, _, rfl, rfl, (by show (0 : Int) < 10 ^ 9; decide), _, rfl, w0, w1, fun tg ts H1 s1 _ htg ht3 htt => ?_⟩
  have tsl : ∀ t ∈ ts, t ≠ SL := fun t ht => (htt t ht).1.ne
  have tso : ∀ t ∈ ts, PyData.strOk t = true := fun t ht => (htt t ht).1.let0.ok
  refine by_eq e2 ?_
  refine ⟨_, rfl, _, rfl, _, rfl, a, tg, ns, _, ts, rfl, s1.seq hS, h63, by (first | lia | omega), by (first | lia | omega), htg, ht3, fun d m rs H2 s2 hd0 hd hrk hro hrl => ?_⟩
  have hmk : m.map (·.1) = (rs.map fun r => ((r.1, r.2.1) : Srd.Ps)).map psK := by
    rw [hrk.keys, List.map_map]
    rfl
  have hml : m.length = rs.length := Paired.length hrk
  refine by_eq e3 ?_
  refine ⟨_, rfl, _, rfl, d, m, _, rfl, hd, by (first | lia | omega), hmk, fun ks zk ms hks hperm _ hzk => ?_⟩
  have s3 : Same H2 (upd H2 ks (.lst zk)) := Same.new hks
  have hzk3 : PsL (upd H2 ks (.lst zk)) zk ms := hzk.keep s3.tk
  have hk3 : (upd H2 ks (.lst zk)) ks = some (.lst zk) := upd_same
  have hd3 := s3 _ _ hd
  have hrk3 := hrk.tk s3.tk
  generalize upd H2 ks (.lst zk) = H3 at s3 hzk3 hk3 hd3 hrk3 ⊢
  have hzl := hzk3.length
  have hmsl : ms.length = rs.length := by have := hperm.length_eq; rw [List.length_map] at this; exact this
  refine ⟨ks, rfl, ⟨_, SqL.of hk3⟩, fun pc hpc => ?_⟩
  refine comp_list (K := K) (a := ks) (p := pc) (xs := zk) (fun i ys σ H4 => ∃ (v0 : Option V) (rp : List (Int × Str × Pa)), σ = [v0, some (.ref d)] ∧ Same H3 H4 ∧ H4 pc = some (.lst ys) ∧ RlL H4 ys rp ∧ (rp.map fun r => rkey r.1 r.2.1) = (ms.take i).map psK ∧ ∀ r ∈ rp, r ∈ rs)
    ⟨none, [], rfl, Same.new hpc, upd_same, .nil, rfl, fun _ h => (nomatch h)⟩ ?_ ?_ ?_
  · rintro i ys σ H4 _ ⟨_, _, _, s4, h, _⟩
    exact ⟨SqL.of (s4 _ _ hk3), h⟩
  · rintro i ys x σ H4 hi hx ⟨v0, rp, rfl, s4, hp, hrp, hkp, hsub⟩
    obtain ⟨pk, qk, g1, rfl, g2⟩ := hzk3.get i x hx
    have g2' : H4 pk = some (.tup [.int qk.1, .str qk.2]) := s4 _ _ g2
    have hqm : psK qk ∈ rs.map fun r => rkey r.1 r.2.1 := by
      have h1 : qk ∈ ms := List.mem_of_getElem? g1
      obtain ⟨r, hr1, e⟩ := List.mem_map.mp (hperm.mem_iff.mp h1)
      exact List.mem_map.mpr ⟨r, hr1, by rw [← e]; rfl⟩
    obtain ⟨r, hr1, er⟩ := List.mem_map.mp hqm
    obtain ⟨e1, e2⟩ := rkey_inj (i := r.1) (t := r.2.1) (j := qk.1) (u := qk.2) er
    obtain ⟨qp, yp, x1, x2, x3⟩ := hrk3.mem hro.nd r hr1
    have hg : DGet H4 d (.ref pk) (some (.ref qp)) := by
      have := DGet.t (k := rkey r.1 r.2.1) (s4 _ _ hd3) (by rw [g2', e1, e2]; rfl)
      rw [x1] at this
      exact this
    have hrpl : ys.length = i := by
      have h1 : ys.length = rp.length := Paired.length hrp
      have h2 := congrArg List.length hkp
      rw [List.length_map, List.length_map, List.length_take] at h2
      (first | lia | omega)
    refine ⟨_, rfl, pk, _, 0, _, rfl, rfl, SqT.of g2', rfl, _, rfl, pk, _, 1, _, rfl, rfl, SqT.of g2', rfl, _, rfl, _, rfl, d, _, rfl, hg, (by show 3 ≤ sizeLine; decide), fun t3 ht3 => ?_⟩
    have s5 : Same H4 (upd H4 t3 (.tup [.int qk.1, .str qk.2, .ref qp])) := Same.new ht3
    refine ⟨s5 _ _ hp, len1000' (by (first | lia | omega)), CW.next hi ⟨_, rp ++ [r], rfl, (s4.trans s5).upd_new hpc, upd_same, ?_, ?_, fun r' hr' => ?_⟩⟩
    · have tk := s5.tk.trans (TK.lst (o := .lst (ys ++ [.ref t3])) (s5 _ _ hp))
      have nt : t3 ≠ pc := fun z => by rw [z, hp] at ht3; cases ht3
      refine Paired.app (hrp.tk tk) (.cons ⟨t3, qp, yp, rfl, ?_, tk _ _ (s4 _ _ x2), (x3.mono s4.tk).mono tk⟩ .nil)
      rw [upd_ne nt, upd_same, e1, e2]
    · rw [List.map_append, hkp, take_succ' g1, List.map_append]
      congr 1
      show [rkey r.1 r.2.1] = [psK qk]
      rw [e1, e2]
      rfl
    · rcases List.mem_append.mp hr' with h | h
      · exact hsub r' h
      · rw [List.mem_singleton.mp h]
        exact hr1
  rintro ys σ H4 ⟨v0, rp, rfl, s4, hp, hrp, hkp, hsub⟩
  rw [hzl, List.take_length] at hkp
  have hkperm : (rp.map fun r => rkey r.1 r.2.1).Perm (rs.map fun r => rkey r.1 r.2.1) := by
    rw [hkp]
    have := hperm.map psK
    rw [List.map_map] at this
    exact this
  have hrpn : (rp.map fun r => rkey r.1 r.2.1).Nodup := hkperm.nodup_iff.mpr hro.nd
  have hrpl : rp.length ≤ 10 := by
    have := hkperm.length_eq
    rw [List.length_map, List.length_map] at this
    (first | lia | omega)
  have hKM : KnM rs (knOf rp) := knM_perm hro.nd hkperm hsub (knM_of hrpn)
  refine ⟨pc, ys, rfl, .inl ⟨SqL.of hp, fun rt hrt => ⟨(by show 2 ≤ sizeLine; decide), fun rc hrc => ?_⟩⟩⟩
  obtain ⟨ncr, hrc0⟩ := upd_none hrc
  have s5 : Same H4 (upd (upd H4 rt (.tup ys)) rc (.tup [.int (1 + v % 3), .ref rt])) := (Same.new hrt).upd_new hrc0
  have hCh : ChR (upd (upd H4 rt (.tup ys)) rc (.tup [.int (1 + v % 3), .ref rt])) rc rp := ⟨_, rt, ys, upd_same, by rw [upd_ne ncr.symm]; exact upd_same, hrp.tk s5.tk, by (first | lia | omega), fun r hr1 => by have := (hro.ok r (hsub r hr1)).2.2.1; (first | lia | omega)⟩
  have hd5 := s5 _ _ (s4 _ _ hd3)
  have hkn5 : KnR (upd (upd H4 rt (.tup ys)) rc (.tup [.int (1 + v % 3), .ref rt])) m (knOf rp) := ((hrk3.tk s4.tk).tk s5.tk).kn hro.nd hKM
  have s25 : Same H2 (upd (upd H4 rt (.tup ys)) rc (.tup [.int (1 + v % 3), .ref rt])) := (s3.trans s4).trans s5
  have s15 := s2.trans s25
  generalize upd (upd H4 rt (.tup ys)) rc (.tup [.int (1 + v % 3), .ref rt]) = H5 at s5 hCh hd5 hkn5 s25 s15 ⊢
  have hrsok : ∀ r ∈ rp, r.2.2.nk ≤ 1 ∧ ∀ x ∈ r.2.2.tags, PyData.strOk x = true := fun r hr1 => ⟨(hro.ok r (hsub r hr1)).2.1, fun x hx => tso x ((hro.ok r (hsub r hr1)).2.2.2 x hx)⟩
  refine fun sa dr hsa hdr hne => ⟨sa, rc, dr, rp, rfl, upd_same, hCh.tk (making hsa hdr hne).tk, hrsok, fun H6 dk Bl k6 hdk hBl S6 => ⟨rfl, ?_⟩⟩
  have s6 : Same H5 H6 := made hsa hdr fun b o hb e => k6 b o (fun z => hb (List.mem_singleton.mp z)) e
  have hdep : ∀ i t p', knOf rp i t = some p' → p'.dep ≤ 5 := fun i t p' h => by
    have h1 := (hKM i t p').mp h
    have h2 : p'.sz ≤ 5 := (hro.ok _ h1).2.2.1
    have := p'.dep_le
    (first | lia | omega)
  have hkno : ∀ i t, (∀ u ∈ ts, u ≠ t) → knOf rp i t = none := fun i t hn => by
    cases h : knOf rp i t with
    | none => rfl
    | some p' => exact absurd rfl (hn t (hro.ok _ ((hKM i t p').mp h)).1)
  generalize knOf rp = kn at hKM hkn5 S6 hdep hkno
  have hok := S6.ok
  have s16 := (s1.trans s15).trans s6
  refine by_eq e4 ?_
  refine ⟨_, rfl, _, rfl, a, tg, ns, ts, rfl, s16.seq hS, h63, (s15.trans s6) _ _ htg, ht3, tsl, fun wl ws hh H7 s7 hwl0 hwl hpc hwlen hwin => ?_⟩
  have s17 := s16.trans s7
  refine by_eq e5 ?_
  refine ⟨_, rfl, _, rfl, a, ns, 62, rfl, s17.seq hS, h63, by decide, by decide, fun v2 => ?_⟩
  have hlw : (((ws.map V.str).length : Nat) : Int) = (ws.length : Int) := by rw [List.length_map]
  obtain ⟨n, hn, hnl⟩ := modN v2 (n := ws.length + 1) (by (first | lia | omega))
  have hn' : v2 % ((((ws.map V.str).length : Nat) : Int) + 1) = (n : Int) := by
    rw [hlw]
    exact hn
  refine ⟨_, rfl, wl, _, rfl, .inl (SqL.of hwl), _, _, rfl, rfl, _, _, rfl, rfl, (by show (0 : Int) < (((ws.map V.str).length : Nat) : Int) + 1; (first | lia | omega)), _, rfl, wl, _, rfl, SqL.of hwl, fun w2 hw2 => ?_⟩
  have hcut : cutV (ws.map V.str) none (some (v2 % ((((ws.map V.str).length : Nat) : Int) + 1))) = (ws.take n).map V.str := by
    rw [hn', cut_upto, List.map_take]
  show u6 _ _ (upd H7 w2 (.lst (cutV (ws.map V.str) none (some (v2 % ((((ws.map V.str).length : Nat) : Int) + 1))))))
  rw [hcut]
  have s8 : Same H7 (upd H7 w2 (.lst ((ws.take n).map V.str))) := Same.new hw2
  have hw8 : (upd H7 w2 (.lst ((ws.take n).map V.str))) w2 = some (.lst ((ws.take n).map V.str)) := upd_same
  generalize upd H7 w2 (.lst ((ws.take n).map V.str)) = H8 at s8 hw8 ⊢
  generalize hus : ws.take n = us at hw8 ⊢
  have husl : us.length ≤ 41 := by
    rw [← hus, List.length_take]
    (first | lia | omega)
  have husin : ∀ x ∈ us, x = SL ∨ x ∈ ts := fun x hx => hwin x (by rw [← hus] at hx; exact List.mem_of_mem_take hx)
  have hcan : Can SL 0 (ws ++ List.replicate hh SL) := hpc _ (can_reps hh)
  have hgood : ∀ i (hi : i < us.length), us[i] = SL → (runS kn [] (us.take i)).2 ≠ [] := fun i hi h z => by
    have e : ws ++ List.replicate hh SL = us.take i ++ (us[i] :: (us.drop (i + 1) ++ (ws.drop n ++ List.replicate hh SL))) := by
      have e1 : us.take i ++ us[i] :: us.drop (i + 1) = us := by rw [← List.drop_eq_getElem_cons hi, List.take_append_drop]
      have e2 : us ++ ws.drop n = ws := by rw [← hus, List.take_append_drop]
      rw [← List.cons_append, ← List.append_assoc, e1, ← List.append_assoc, e2]
    rw [e] at hcan
    have := run_can kn (us.take i) _ [] hcan
    rw [z, h] at this
    exact absurd (can_end.mp this).1 (by decide)
  have s68 := s7.trans s8
  have S8 := S6.same s68
  have hd8 := (s6.trans s68) _ _ hd5
  have hk8 := hkn5.tk (s6.trans s68).tk
  have nsa : ∀ {b : Addr} {o : HO}, H5 b = some o → b ∉ [sa, Bl] := fun e z => by
    simp only [List.mem_cons, List.not_mem_nil, or_false] at z
    rcases z with rfl | rfl
    · rw [hsa] at e
      cases e
    · rw [making_free hBl] at e
      cases e
  have nw2 : w2 ∉ [sa, Bl] := fun z => by
    have L := Fg.StAt.live (S6.same s7)
    obtain ⟨dx7, ha7⟩ := (S6.same s7).ho
    simp only [List.mem_cons, List.not_mem_nil, or_false] at z
    rcases z with rfl | rfl
    · rw [hw2] at ha7
      cases ha7
    · obtain ⟨xs, e⟩ := L w2 (List.mem_cons_self ..)
      rw [hw2] at e
      cases e
  have nfr : ∀ {Hx : Hp} {b : Addr} {l : List Addr} {bs : Bg} {nn : Int}, StAt C_Stream Hx sa dk Bl l kn bs nn → Hx b = none → b ∉ [sa, Bl] := fun S e z => by
    obtain ⟨dxx, hax⟩ := S.ho
    simp only [List.mem_cons, List.not_mem_nil, or_false] at z
    rcases z with rfl | rfl
    · rw [e] at hax
      cases hax
    · obtain ⟨xs, e2⟩ := Fg.StAt.live S _ (List.mem_cons_self ..)
      rw [e] at e2
      cases e2
  refine by_eq e6 ?_
  refine ⟨by decide, fun c0 hc0 => ?_⟩
  have s9 : Same H8 (upd H8 c0 (.lst [])) := Same.new hc0
  have hc9 : (upd H8 c0 (.lst [])) c0 = some (.lst (([] : List Str).map V.str)) := upd_same
  refine by_eq e7 ?_
  generalize upd H8 c0 (.lst []) = H9 at s9 hc9 ⊢
  refine ⟨_, rfl, w2, rfl, ⟨_, SqL.of (s9 _ _ hw8)⟩, for_list (K := K) (a := w2) (xs := us.map V.str) (fun i σ H10 => ∃ (cm : Addr) (v7 : Option V) (l1 : List Addr) (n1 : Int), σ = [some (.ref a), some (.int (1 + v % 3)), some (.ref tg), some (.ref d), some (.ref sa), some (.ref w2), some (.ref cm), v7, none, none, none, none] ∧ KeepX [sa, Bl] H9 H10 ∧ StAt C_Stream H10 sa dk Bl l1 kn (runS kn [] (us.take i)).2 n1 ∧ cm ∉ [sa, Bl] ∧ H10 cm = some (.lst ((runS kn [] (us.take i)).1.map V.str)) ∧ PC (us.take i) (runS kn [] (us.take i)).2.length ∧ (runS kn [] (us.take i)).2.length ≤ i)
    ⟨c0, none, [], 0, rfl, fun _ _ _ e => e, S8.same s9, ?_, hc9, fun us h => h, Nat.le_refl _⟩ ?_ ?_ ?_⟩
  · exact nfr S8 hc0
  · rintro i σ H10 _ ⟨_, _, _, _, _, k10, _⟩
    exact SqL.of (k10 _ _ nw2 (s9 _ _ hw8))
  · rintro i x σ H10 hx ⟨cm, v7, l1, n1, rfl, k10, S10, ncm, hcm, hpi, hli⟩
    rw [List.getElem?_map] at hx
    obtain ⟨t, hxt, rfl⟩ := Option.map_eq_some_iff.mp hx
    obtain ⟨hil, hti⟩ := List.getElem?_eq_some_iff.mp hxt
    have hsn : us.take (i + 1) = us.take i ++ [t] := take_succ' hxt
    have hrl := run_len hok (us.take (i + 1)) []
    rw [hsn, runS_snoc, List.length_append, List.length_append, List.length_take] at hrl
    have e0 : (owedB ([] : Bg)).length = 0 := rfl
    rw [e0] at hrl
    simp only [List.length_singleton] at hrl
    have hgt := step_hgt kn (runS kn [] (us.take i)).2 t
    have hgi : t = SL → (runS kn [] (us.take i)).2 ≠ [] := fun z => hgood i hil (hti.trans z)
    have hgd : (t = SL ∧ (runS kn [] (us.take i)).2 ≠ []) ∨ (Lets t ∧ t.length ≤ 8) := by
      rcases husin t (List.mem_of_getElem? hxt) with h | h
      · exact .inl ⟨h, hgi h⟩
      · exact .inr ⟨(htt t h).1, (htt t h).2.1⟩
    obtain ⟨dx10, ha10⟩ := S10.ho
    refine by_eq e7_0 ?_
    refine ⟨_, rfl, _, rfl, sa, dx10, _, rfl, ha10, rfl, _, rfl, sa, dk, Bl, l1, kn, _, n1, t, rfl, S10, by (first | lia | omega), hgd, fun r l1' H11 k11 hr0 hl1' hrn hr11 S11 => ?_⟩
    refine ⟨cm, r, _, _, rfl, rfl, k11 _ _ ncm hcm, hr11, len1000 (by rw [List.length_map, List.length_map]; (first | lia | omega)), fun c2 hc2 => ?_⟩
    have x1 := Same.new (o := .lst ((runS kn [] (us.take i)).1.map V.str ++ (stepS kn (runS kn [] (us.take i)).2 t).1.map V.str)) hc2
    have e3 : runS kn [] (us.take (i + 1)) = ((runS kn [] (us.take i)).1 ++ (stepS kn (runS kn [] (us.take i)).2 t).1, (stepS kn (runS kn [] (us.take i)).2 t).2) := by
      rw [hsn]
      exact runS_snoc ..
    refine ⟨c2, _, l1', n1 + 1, rfl, fun b o hb e => x1 _ _ (k11 b o hb (k10 b o hb e)), ?_, nfr S11 hc2, ?_, ?_, ?_⟩
    · rw [e3]
      exact S11.same x1
    · rw [e3, upd_same, List.map_append]
    · rw [e3, hsn]
      exact PC.step hpi hgi
    · rw [e3]
      show (stepS kn (runS kn [] (us.take i)).2 t).2.length ≤ i + 1
      split at hgt <;> (first | lia | omega)
  · rintro σ H10 ⟨cm, v7, l1, n1, rfl, k10, S10, ncm, hcm, hpi, hli⟩
    rw [List.length_map] at S10 hcm hpi hli
    rw [List.take_length] at S10 hcm hpi hli
    have S9 := S8.same s9
    have tk9 : TK H9 H10 := fun b xs e => k10 b _ (fun z => by
      obtain ⟨dxx, hax⟩ := S9.ho
      simp only [List.mem_cons, List.not_mem_nil, or_false] at z
      rcases z with rfl | rfl
      · rw [e] at hax
        cases hax
      · obtain ⟨xs2, e2⟩ := Fg.StAt.live S9 _ (List.mem_cons_self ..)
        rw [e] at e2
        cases e2) e
    have hd10 := k10 _ _ (nsa hd5) (s9 _ _ hd8)
    have hk10 := (hk8.tk s9.tk).tk tk9
    have hw10 := k10 _ _ nw2 (s9 _ _ hw8)
    have hnb : NB (runS kn [] us).2 := run_nb us (fun _ h => (nomatch h))
    have hrl := run_len hok us []
    have e0 : (owedB ([] : Bg)).length = 0 := rfl
    rw [e0] at hrl
    refine by_eq e8 ?_
    refine ⟨_, rfl, _, rfl, d, w2, m, kn, us, rfl, hd10, hk10, hok, hw10, by (first | lia | omega), hgood, fun lf H11 s11 hlf0 hlf => ?_⟩
    refine by_eq e9 ?_
    refine ⟨_, rfl, w2, _, rfl, .inl (SqL.of (s11 _ _ hw10)), fun en hen => ?_⟩
    have s12 : Same H11 (upd H11 en (.lst (us.map V.str))) := Same.new hen
    have hen12 : (upd H11 en (.lst (us.map V.str))) en = some (.lst (us.map V.str)) := upd_same
    have nle : lf ≠ en := ne_of_none hlf hen
    have hlf12 := s12 _ _ hlf
    have s1012 := s11.trans s12
    refine by_eq e10 ?_
    generalize upd H11 en (.lst (us.map V.str)) = H12 at s12 hen12 hlf12 s1012 ⊢
    have hlen : (runS kn [] us).2.length ≤ 41 := by (first | lia | omega)
    let W : Nat → St → Hp → Prop := fun k σ H13 => ∃ (bs' l : Bg), σ = [some (.ref a), some (.int (1 + v % 3)), some (.ref tg), some (.ref d), some (.ref sa), some (.ref w2), some (.ref cm), v7, some (.ref lf), some (.ref en), none, none] ∧ (runS kn [] us).2 = bs' ++ l ∧ (∀ b ∈ l, b.2 = []) ∧ k = bs'.length ∧ KeepX [lf, en] H12 H13 ∧ H13 lf = some (.lst (moL bs')) ∧ H13 en = some (.lst ((us ++ List.replicate l.length SL).map V.str))
    refine ⟨W, ⟨_, (runS kn [] us).2, [], rfl, (List.append_nil _).symm, fun _ h => (nomatch h), rfl, fun _ _ _ e => e, hlf12, by simpa using hen12⟩, ?_⟩
    rintro k σ H13 ⟨bs', l, rfl, hbl, hl0, rfl, k13, hlf13, hen13⟩
    have hbll := congrArg List.length hbl
    rw [List.length_append] at hbll
    have hat := moL_last bs'
    cases hm : modeB bs' with
    | none =>
      rw [hm] at hat
      have hb' : bs' ≠ [] := fun z => by rw [z] at hm; cases hm
      obtain ⟨bs'', b, rfl⟩ := last_of hb'
      rw [mode_snoc] at hm
      refine ⟨_, rfl, 1, rfl, lf, _, -1, _, rfl, rfl, SqL.of hlf13, hat, rfl, _, rfl, iteT ?_⟩
      refine ⟨fun σ' H' => ∃ m', m' < (bs'' ++ [b]).length ∧ W m' σ' H', fun _ _ h => h, ?_⟩
      rw [moL_snoc] at hlf13
      refine by_eq e10_0 ?_
      refine ⟨_, rfl, .inl ⟨rfl, _, SqL.of hlf13⟩, lf, _, _, rfl, rfl, hlf13, snoc_last _ _, ?_⟩
      rw [snoc_drop]
      refine by_eq e10_1 ?_
      have hen14 : (upd H13 lf (.lst (moL bs''))) en = some (.lst ((us ++ List.replicate l.length SL).map V.str)) := by
        rw [upd_ne nle.symm]
        exact hen13
      refine ⟨_, rfl, .inl ⟨rfl, _, SqL.of hen14⟩, en, _, _, rfl, rfl, hen14, len1000' (by rw [List.length_map, List.length_append, List.length_replicate]; (first | lia | omega)), ?_⟩
      refine ⟨bs''.length, by rw [List.length_append, List.length_singleton]; (first | lia | omega), bs'', b :: l, rfl, by rw [hbl, List.append_assoc]; rfl, fun x hx => ?_, rfl, fun x o hx e => ?_, ?_, ?_⟩
      · rcases List.mem_cons.mp hx with hx | hx
        · rw [hx]
          exact hnb b (by rw [hbl]; simp) hm
        · exact hl0 x hx
      · simp only [List.mem_cons, List.not_mem_nil, or_false, not_or] at hx
        rw [upd_ne hx.2, upd_ne hx.1]
        exact k13 x o (by simp [hx.1, hx.2]) e
      · rw [upd_ne nle]
        exact upd_same
      · have e : us ++ List.replicate (b :: l).length SL = (us ++ List.replicate l.length SL) ++ [SL] := by rw [List.length_cons, List.replicate_succ', List.append_assoc]
        rw [upd_same, e, List.map_append (l₁ := us ++ List.replicate l.length SL)]
        rfl
    | some mo =>
      rw [hm] at hat
      refine ⟨_, rfl, 1, rfl, lf, _, -1, _, rfl, rfl, SqL.of hlf13, hat, rfl, _, rfl, iteF ?_⟩
      have nlf : ∀ {b : Addr} {o : HO}, H10 b = some o → b ∉ [lf, en] := fun e z => by
        simp only [List.mem_cons, List.not_mem_nil, or_false] at z
        rcases z with rfl | rfl
        · rw [hlf0] at e
          cases e
        · rw [s11.free hen] at e
          cases e
      have hd13 := k13 _ _ (nlf hd10) (s1012 _ _ hd10)
      have hcm13 := k13 _ _ (nlf hcm) (s1012 _ _ hcm)
      have tk13 : TK H12 H13 := fun b xs e => k13 b _ (fun z => by
        simp only [List.mem_cons, List.not_mem_nil, or_false] at z
        rcases z with rfl | rfl
        · rw [hlf12] at e
          cases e
        · rw [hen12] at e
          cases e) e
      have hk13 := (hk10.tk s1012.tk).tk tk13
      refine by_eq e11 ?_
      refine ⟨(by show 2 ≤ sizeLine; decide), fun tl htl => ?_⟩
      have s14 : Same H13 (upd H13 tl (.lst [.str "zz", .str "yy"])) := Same.new htl
      have htl14 : (upd H13 tl (.lst [.str "zz", .str "yy"])) tl = some (.lst [.str "zz", .str "yy"]) := upd_same
      generalize upd H13 tl (.lst [.str "zz", .str "yy"]) = H14 at s14 htl14 ⊢
      refine ⟨tl, rfl, ⟨_, SqL.of htl14⟩, for_list (K := K) (a := tl) (xs := [.str "zz", .str "yy"]) (fun i σ H15 => ∃ v10 v11 : Option V, σ = [some (.ref a), some (.int (1 + v % 3)), some (.ref tg), some (.ref d), some (.ref sa), some (.ref w2), some (.ref cm), v7, some (.ref lf), some (.ref en), v10, v11] ∧ Same H14 H15)
        ⟨none, none, rfl, Same.refl _⟩ ?_ ?_ ?_⟩
      · rintro i σ H15 _ ⟨_, _, _, s15'⟩
        exact SqL.of (s15' _ _ htl14)
      · rintro i x σ H15 hx ⟨v10, v11, rfl, s15'⟩
        obtain ⟨tag, rfl, ht1, ht2, ht3⟩ : ∃ tag : Str, x = .str tag ∧ tag ≠ SL ∧ PyData.strOk tag = true ∧ ∃ y l, tag.cps.toList = y :: l ∧ 100 < y := by
          match i, hx with
          | 0, hx =>
            injection hx with hx
            exact ⟨_, hx.symm, by decide, Let0.ok (by unfold Let0; decide), 122, [122], by decide, by decide⟩
          | 1, hx =>
            injection hx with hx
            exact ⟨_, hx.symm, by decide, Let0.ok (by unfold Let0; decide), 121, [121], by decide, by decide⟩
        have hnot : ∀ u ∈ ts, u ≠ tag := fun u hu e => by
          obtain ⟨y, l', e1, e2⟩ := (htt u hu).2.2
          obtain ⟨y', l'', e3, e4⟩ := ht3
          rw [e, e3] at e1
          injection e1 with e1
          (first | lia | omega)
        have s13' := s14.trans s15'
        refine by_eq e11_0 ?_
        refine ⟨_, rfl, _, rfl, (by show 2 ≤ sizeLine; decide), fun p1 hp1 => ?_⟩
        have y1 := Same.new (o := .lst [.str tag, .str SL]) hp1
        have z1 := s13'.trans y1
        refine ⟨en, p1, _, _, rfl, rfl, z1 _ _ hen13, upd_same, len1000 (by rw [List.length_map, List.length_append, List.length_replicate]; show _ + 2 ≤ _; (first | lia | omega)), fun p2 hp2 => ?_⟩
        have y2 := Same.new (o := .lst ((us ++ List.replicate l.length SL).map V.str ++ [.str tag, .str SL])) hp2
        have z2 := z1.trans y2
        refine ⟨_, rfl, 1, rfl, lf, _, rfl, SqL.of (z2 _ _ hlf13), fun p3 hp3 => ?_⟩
        have y3 := Same.new (o := .lst (cutV (moL bs') (some 1) none)) hp3
        have hxl : (cutV (moL bs') (some 1) none).length = bs'.length := by
          have := cut_from (moL bs') 1
          rw [show ((1 : Nat) : Int) = 1 from rfl] at this
          rw [this, List.length_drop, moL_len]
          (first | lia | omega)
        refine ⟨p3, rfl, ⟨_, SqL.of upd_same⟩, fun pc' hpc' => ?_⟩
        refine comp_list (K := K) (a := p3) (p := pc') (xs := cutV (moL bs') (some 1) none) (fun i ys σ Hx => ∃ v0 : Option V, σ = [v0] ∧ Same (upd (upd (upd H15 p1 (.lst [.str tag, .str SL])) p2 (.lst ((us ++ List.replicate l.length SL).map V.str ++ [.str tag, .str SL]))) p3 (.lst (cutV (moL bs') (some 1) none))) Hx ∧ Hx pc' = some (.lst ys) ∧ ys = (List.replicate i SL).map V.str)
          ⟨none, rfl, Same.new hpc', upd_same, rfl⟩ ?_ ?_ ?_
        · rintro i ys σ Hx _ ⟨_, _, sx, h, _⟩
          exact ⟨SqL.of (sx _ _ upd_same), h⟩
        · rintro i ys x σ Hx hi hx ⟨v0, rfl, sx, hpx, rfl⟩
          refine ⟨hpx, len1000' (by rw [List.length_map, List.length_replicate]; (first | lia | omega)), CW.next hi ⟨_, rfl, sx.upd_new hpc', upd_same, ?_⟩⟩
          rw [List.replicate_succ', List.map_append]
          rfl
        rintro ys σ Hx ⟨v0, rfl, sx, hpx, rfl⟩
        rw [hxl] at hpx
        have z4 := (z2.trans y3).trans sx
        have hp2x := sx _ _ (y3 _ _ (upd_same (H := upd H15 p1 (.lst [.str tag, .str SL])) (a := p2) (o := .lst ((us ++ List.replicate l.length SL).map V.str ++ [.str tag, .str SL]))))
        refine ⟨p2, pc', _, _, rfl, rfl, hp2x, hpx, len1000 (by rw [List.length_append, List.length_map, List.length_map, List.length_append, List.length_replicate, List.length_replicate]; show _ + 2 + _ ≤ _; (first | lia | omega)), fun p4 hp4 => ⟨p4, (us ++ List.replicate l.length SL) ++ [tag, SL] ++ List.replicate bs'.length SL, rfl, ?_, ?_, ?_, fun gr xs g H17 s17 hgr hG hwd hcl => ?_⟩⟩
        · rw [upd_same]
          simp
        · simp only [List.length_append, List.length_replicate, List.length_cons, List.length_nil]
          (first | lia | omega)
        · rw [List.append_assoc, List.append_assoc]
          refine hpi _ ?_
          rw [hbll]
          refine can_pops _ _ _ ((can_tag ht1).mpr (can_end.mpr ⟨Nat.succ_le_succ (Nat.zero_le _), ?_⟩))
          exact can_reps _
        have y4 := Same.new (o := .lst ((us ++ List.replicate l.length SL).map V.str ++ [.str tag, .str SL] ++ (List.replicate bs'.length SL).map V.str)) hp4
        have z5 := (z4.trans y4).trans s17
        have hgz := gsz_words g
        rw [hwd] at hgz
        simp only [List.length_append, List.length_replicate, List.length_cons, List.length_nil] at hgz
        have hgd := gdep_le g
        have hcl2 := chW_len hok g 0
        refine by_eq e11_1 ?_
        refine ⟨_, rfl, _, rfl, d, gr, 0, m, kn, xs, g, rfl, z5 _ _ hd13, hk13.tk z5.tk, hok, hdep, hgr, hG, by (first | lia | omega), by (first | lia | omega), fun r H18 s18 hr0 hr18 => ?_⟩
        have z6 := z5.trans s18
        refine ⟨_, rfl, cm, _, rfl, .inl (SqL.of (z6 _ _ hcm13)), _, _, rfl, rfl, _, rfl, r, _, rfl, SqL.of hr18, fun p5 hp5 => ?_⟩
        have hfin : cutV ((chW kn g 0).map V.str) none (some (((((runS kn [] us).1.map V.str).length : Nat) : Int) + 1)) = ((runS kn [] us).1 ++ [tag]).map V.str := by
          have e : (((((runS kn [] us).1.map V.str).length : Nat) : Int) + 1) = (((runS kn [] us).1.length + 1 : Nat) : Int) := by
            rw [List.length_map]
            rfl
          rw [e, cut_upto, ← List.map_take, no_late hok hbl hl0 hm ht1 (hkno mo tag hnot) hwd hcl]
        have okw : ∀ x ∈ (runS kn [] us).1 ++ [tag], PyData.strOk x = true := fun x hx => by
          rcases List.mem_append.mp hx with hx | hx
          · exact (run_ok hok us [] (fun u hu => (husin u hu).elim (fun z => by rw [z]; exact sl_ok) (tso u)) (fun _ h => (nomatch h))).1 x hx
          · rw [List.mem_singleton.mp hx]
            exact ht2
        have y7 := Same.new (o := .lst (cutV ((chW kn g 0).map V.str) none (some (((((runS kn [] us).1.map V.str).length : Nat) : Int) + 1)))) hp5
        refine ⟨_, rfl, _, rfl, (by show 1 ≤ sizeLine; decide), fun p6 hp6 => ?_⟩
        have y8 := Same.new (o := .lst [.str tag]) hp6
        refine ⟨cm, p6, _, _, rfl, rfl, y8 _ _ (y7 _ _ (z6 _ _ hcm13)), upd_same, len1000 (by rw [List.length_map]; show _ + 1 ≤ _; (first | lia | omega)), fun p7 hp7 => ?_⟩
        have y9 := Same.new (o := .lst ((runS kn [] us).1.map V.str ++ [.str tag])) hp7
        have h5 := y9 _ _ (y8 _ _ (upd_same (H := H18) (a := p5) (o := .lst (cutV ((chW kn g 0).map V.str) none (some (((((runS kn [] us).1.map V.str).length : Nat) : Int) + 1))))))
        refine eqD_lists (xs := (runS kn [] us).1 ++ [tag]) (ys := (runS kn [] us).1 ++ [tag]) (SqL.of (h5.trans (congrArg (fun z => some (HO.lst z)) hfin))) (SqL.of ?_) okw okw ⟨_, rfl, ?_⟩
        · rw [upd_same, List.map_append]
          rfl
        rw [if_pos rfl, decide_eq_true rfl]
        exact iteF ⟨_, _, rfl, (s15'.trans (y1.trans (y2.trans (y3.trans (sx.trans (y4.trans (s17.trans (s18.trans (y7.trans (y8.trans y9))))))))))⟩
      · rintro σ H15 ⟨v10, v11, rfl, s15'⟩
        refine by_eq e12 ?_
        exact q _
end
theorem all_mk {l : PySem.W.OpenLaw} {w : World} {K : PySem.W.Frag} {h : Heap} {mg : Str → Option Value} {fa f1 f2 f3 f4 f5 f6 f7 f8 f9 f10 f11 f12 f13 f14 f15 f16 f17 f18 f19 f20 f21 : Addr} (X : K.In h) (G : h.Ns mainGlobals mg) (hfa : mg "law" = some (.ref fa))
    {od1 an1 od2 an2 od3 an3 od4 an4 od5 an5 od6 an6 od7 an7 od8 an8 od9 an9 od10 an10 od11 an11 od12 an12 od13 an13 od14 an14 od15 an15 od16 an16 od17 an17 od18 an18 od19 an19 od20 an20 od21 an21 : Option Addr} {sl1 sl2 sl3 sl4 sl5 sl6 sl7 sl8 sl9 sl10 sl11 sl12 sl13 sl14 sl15 sl16 sl17 sl18 sl19 sl20 sl21 : Array (Option Value)} {oc1 kV1 dc1 pm1 cd1 ct1 oc2 kV2 dc2 pm2 cd2 ct2 oc3 kV3 dc3 pm3 cd3 ct3 oc4 kV4 dc4 pm4 cd4 ct4 oc5 kV5 dc5 pm5 cd5 ct5 oc6 kV6 dc6 pm6 cd6 ct6 oc7 kV7 dc7 pm7 cd7 ct7 oc8 kV8 dc8 pm8 cd8 ct8 oc9 kV9 dc9 pm9 cd9 ct9 oc10 kV10 dc10 pm10 cd10 ct10 oc11 kV11 dc11 pm11 cd11 ct11 oc12 kV12 dc12 pm12 cd12 ct12 oc13 kV13 dc13 pm13 cd13 ct13 oc14 kV14 dc14 pm14 cd14 ct14 oc15 kV15 dc15 pm15 cd15 ct15 oc16 kV16 dc16 pm16 cd16 ct16 oc17 kV17 dc17 pm17 cd17 ct17 oc18 kV18 dc18 pm18 cd18 ct18 oc19 kV19 dc19 pm19 cd19 ct19 oc20 kV20 dc20 pm20 cd20 ct20 oc21 kV21 dc21 pm21 cd21 ct21 : Value}
    {C_Stream : Addr}
    (cn1 : PySem.W.nsIn K mainGlobals "Stream" = some (some (.ref C_Stream))) (cp1 : PySem.W.plainGet K C_Stream Str.empty = true) (ch1 : PySem.W.hasDictIn K C_Stream = true) (cq1 : PySem.W.plainOver K C_Stream = true) (cs1 : PySem.W.findIn K (.ref C_Stream) "__setattr__" = some (some (.builtin "object.__setattr__"))) (cm1 : PySem.W.makesIn K C_Stream = true) (ck1 : PySem.W.keepIn K (.ref C_Stream) = true)
    (cx1_0 : PySem.W.findIn K (.ref C_Stream) "known" = some none)
    (cx1_1 : PySem.W.findIn K (.ref C_Stream) "taken" = some none)
    (cx1_2 : PySem.W.findIn K (.ref C_Stream) "begun" = some none)
    (a1 : PySem.W.nsIn K mainGlobals "_law_cell" = some (some (.ref f1))) (l1 : K.lookup f1 = some ⟨oc1, od1, .func (PySem.W.fnOf "_law_cell" "_law_cell" (defArgs s_l_cell) (defBody s_l_cell) (defScope s_l_cell) .none kV1 dc1 pm1 an1 cd1 ct1), sl1⟩) (c1 : PySem.W.codeIn K cd1 "_law_cell" = true) (k1 : PySem.W.keepIn K (.ref f1) = true)
    (a2 : PySem.W.nsIn K mainGlobals "_law_tags" = some (some (.ref f2))) (l2 : K.lookup f2 = some ⟨oc2, od2, .func (PySem.W.fnOf "_law_tags" "_law_tags" (defArgs s_l_tags) (defBody s_l_tags) (defScope s_l_tags) .none kV2 dc2 pm2 an2 cd2 ct2), sl2⟩) (c2 : PySem.W.codeIn K cd2 "_law_tags" = true) (k2 : PySem.W.keepIn K (.ref f2) = true)
    (a3 : PySem.W.nsIn K mainGlobals "_law_parts" = some (some (.ref f3))) (l3 : K.lookup f3 = some ⟨oc3, od3, .func (PySem.W.fnOf "_law_parts" "_law_parts" (defArgs s_l_parts) (defBody s_l_parts) (defScope s_l_parts) .none kV3 dc3 pm3 an3 cd3 ct3), sl3⟩) (c3 : PySem.W.codeIn K cd3 "_law_parts" = true) (k3 : PySem.W.keepIn K (.ref f3) = true)
    (a4 : PySem.W.nsIn K mainGlobals "_law_rules" = some (some (.ref f4))) (l4 : K.lookup f4 = some ⟨oc4, od4, .func (PySem.W.fnOf "_law_rules" "_law_rules" (defArgs s_l_rules) (defBody s_l_rules) (defScope s_l_rules) .none kV4 dc4 pm4 an4 cd4 ct4), sl4⟩) (c4 : PySem.W.codeIn K cd4 "_law_rules" = true) (k4 : PySem.W.keepIn K (.ref f4) = true)
    (a5 : PySem.W.nsIn K mainGlobals "all_parts" = some (some (.ref f5))) (l5 : K.lookup f5 = some ⟨oc5, od5, .func (PySem.W.fnOf "all_parts" "all_parts" (defArgs s_all_parts) (defBody s_all_parts) (defScope s_all_parts) .none kV5 dc5 pm5 an5 cd5 ct5), sl5⟩) (c5 : PySem.W.codeIn K cd5 "all_parts" = true) (k5 : PySem.W.keepIn K (.ref f5) = true)
    (a6 : PySem.W.nsIn K mainGlobals "kids_in" = some (some (.ref f6))) (l6 : K.lookup f6 = some ⟨oc6, od6, .func (PySem.W.fnOf "kids_in" "kids_in" (defArgs s_kids_in) (defBody s_kids_in) (defScope s_kids_in) .none kV6 dc6 pm6 an6 cd6 ct6), sl6⟩) (c6 : PySem.W.codeIn K cd6 "kids_in" = true) (k6 : PySem.W.keepIn K (.ref f6) = true)
    (a7 : PySem.W.nsIn K mainGlobals "straight" = some (some (.ref f7))) (l7 : K.lookup f7 = some ⟨oc7, od7, .func (PySem.W.fnOf "straight" "straight" (defArgs s_straight) (defBody s_straight) (defScope s_straight) .none kV7 dc7 pm7 an7 cd7 ct7), sl7⟩) (c7 : PySem.W.codeIn K cd7 "straight" = true) (k7 : PySem.W.keepIn K (.ref f7) = true)
    (a8 : PySem.W.nsIn K mainGlobals "parts_by_rule" = some (some (.ref f8))) (l8 : K.lookup f8 = some ⟨oc8, od8, .func (PySem.W.fnOf "parts_by_rule" "parts_by_rule" (defArgs s_parts_by_rule) (defBody s_parts_by_rule) (defScope s_parts_by_rule) .none kV8 dc8 pm8 an8 cd8 ct8), sl8⟩) (c8 : PySem.W.codeIn K cd8 "parts_by_rule" = true) (k8 : PySem.W.keepIn K (.ref f8) = true)
    (a9 : PySem.W.findIn K (.ref C_Stream) "__init__" = some (some (.ref f9))) (l9 : K.lookup f9 = some ⟨oc9, od9, .func (PySem.W.fnOf "__init__" "Stream.__init__" (defArgs s_Stream___init__) (defBody s_Stream___init__) (defScope s_Stream___init__) .none kV9 dc9 pm9 an9 cd9 ct9), sl9⟩) (c9 : PySem.W.codeIn K cd9 "Stream.__init__" = true) (k9 : PySem.W.keepIn K (.ref f9) = true) (n9 : PySem.W.isFn K (.ref f9) = true)
    (a10 : PySem.W.nsIn K mainGlobals "_law_words" = some (some (.ref f10))) (l10 : K.lookup f10 = some ⟨oc10, od10, .func (PySem.W.fnOf "_law_words" "_law_words" (defArgs s_l_words) (defBody s_l_words) (defScope s_l_words) .none kV10 dc10 pm10 an10 cd10 ct10), sl10⟩) (c10 : PySem.W.codeIn K cd10 "_law_words" = true) (k10 : PySem.W.keepIn K (.ref f10) = true)
    (a11 : PySem.W.nsIn K mainGlobals "is_tag" = some (some (.ref f11))) (l11 : K.lookup f11 = some ⟨oc11, od11, .func (PySem.W.fnOf "is_tag" "is_tag" (defArgs s_is_tag) (defBody s_is_tag) (defScope s_is_tag) .none kV11 dc11 pm11 an11 cd11 ct11), sl11⟩) (c11 : PySem.W.codeIn K cd11 "is_tag" = true) (k11 : PySem.W.keepIn K (.ref f11) = true)
    (a12 : PySem.W.nsIn K mainGlobals "parts_for" = some (some (.ref f12))) (l12 : K.lookup f12 = some ⟨oc12, od12, .func (PySem.W.fnOf "parts_for" "parts_for" (defArgs s_parts_for) (defBody s_parts_for) (defScope s_parts_for) .none kV12 dc12 pm12 an12 cd12 ct12), sl12⟩) (c12 : PySem.W.codeIn K cd12 "parts_for" = true) (k12 : PySem.W.keepIn K (.ref f12) = true)
    (a13 : PySem.W.nsIn K mainGlobals "words_of_parts" = some (some (.ref f13))) (l13 : K.lookup f13 = some ⟨oc13, od13, .func (PySem.W.fnOf "words_of_parts" "words_of_parts" (defArgs s_words_of_parts) (defBody s_words_of_parts) (defScope s_words_of_parts) .none kV13 dc13 pm13 an13 cd13 ct13), sl13⟩) (c13 : PySem.W.codeIn K cd13 "words_of_parts" = true) (k13 : PySem.W.keepIn K (.ref f13) = true)
    (a14 : PySem.W.findIn K (.ref C_Stream) "take_begin" = some (some (.ref f14))) (l14 : K.lookup f14 = some ⟨oc14, od14, .func (PySem.W.fnOf "take_begin" "Stream.take_begin" (defArgs s_Stream_take_begin) (defBody s_Stream_take_begin) (defScope s_Stream_take_begin) .none kV14 dc14 pm14 an14 cd14 ct14), sl14⟩) (c14 : PySem.W.codeIn K cd14 "Stream.take_begin" = true) (k14 : PySem.W.keepIn K (.ref f14) = true) (n14 : PySem.W.isFn K (.ref f14) = true)
    (a15 : PySem.W.findIn K (.ref C_Stream) "take" = some (some (.ref f15))) (l15 : K.lookup f15 = some ⟨oc15, od15, .func (PySem.W.fnOf "take" "Stream.take" (defArgs s_Stream_take) (defBody s_Stream_take) (defScope s_Stream_take) .none kV15 dc15 pm15 an15 cd15 ct15), sl15⟩) (c15 : PySem.W.codeIn K cd15 "Stream.take" = true) (k15 : PySem.W.keepIn K (.ref f15) = true) (n15 : PySem.W.isFn K (.ref f15) = true)
    (a16 : PySem.W.nsIn K mainGlobals "_law_kids_mode" = some (some (.ref f16))) (l16 : K.lookup f16 = some ⟨oc16, od16, .func (PySem.W.fnOf "_law_kids_mode" "_law_kids_mode" (defArgs s_l_kids_mode) (defBody s_l_kids_mode) (defScope s_l_kids_mode) .none kV16 dc16 pm16 an16 cd16 ct16), sl16⟩) (c16 : PySem.W.codeIn K cd16 "_law_kids_mode" = true) (k16 : PySem.W.keepIn K (.ref f16) = true)
    (a17 : PySem.W.nsIn K mainGlobals "_law_open_modes" = some (some (.ref f17))) (l17 : K.lookup f17 = some ⟨oc17, od17, .func (PySem.W.fnOf "_law_open_modes" "_law_open_modes" (defArgs s_l_open_modes) (defBody s_l_open_modes) (defScope s_l_open_modes) .none kV17 dc17 pm17 an17 cd17 ct17), sl17⟩) (c17 : PySem.W.codeIn K cd17 "_law_open_modes" = true) (k17 : PySem.W.keepIn K (.ref f17) = true)
    (a18 : PySem.W.nsIn K mainGlobals "_law_read" = some (some (.ref f18))) (l18 : K.lookup f18 = some ⟨oc18, od18, .func (PySem.W.fnOf "_law_read" "_law_read" (defArgs s_l_read) (defBody s_l_read) (defScope s_l_read) .none kV18 dc18 pm18 an18 cd18 ct18), sl18⟩) (c18 : PySem.W.codeIn K cd18 "_law_read" = true) (k18 : PySem.W.keepIn K (.ref f18) = true)
    (a19 : PySem.W.nsIn K mainGlobals "_law_put" = some (some (.ref f19))) (l19 : K.lookup f19 = some ⟨oc19, od19, .func (PySem.W.fnOf "_law_put" "_law_put" (defArgs s_l_put) (defBody s_l_put) (defScope s_l_put) .none kV19 dc19 pm19 an19 cd19 ct19), sl19⟩) (c19 : PySem.W.codeIn K cd19 "_law_put" = true) (k19 : PySem.W.keepIn K (.ref f19) = true)
    (a20 : PySem.W.nsIn K mainGlobals "_law_changed" = some (some (.ref f20))) (l20 : K.lookup f20 = some ⟨oc20, od20, .func (PySem.W.fnOf "_law_changed" "_law_changed" (defArgs s_l_changed) (defBody s_l_changed) (defScope s_l_changed) .none kV20 dc20 pm20 an20 cd20 ct20), sl20⟩) (c20 : PySem.W.codeIn K cd20 "_law_changed" = true) (k20 : PySem.W.keepIn K (.ref f20) = true)
    (a21 : PySem.W.nsIn K mainGlobals "law" = some (some (.ref f21))) (l21 : K.lookup f21 = some ⟨oc21, od21, .func (PySem.W.fnOf "law" "law" (defArgs s_law) (defBody s_law) (defScope s_law) .none kV21 dc21 pm21 an21 cd21 ct21), sl21⟩) (c21 : PySem.W.codeIn K cd21 "law" = true) (k21 : PySem.W.keepIn K (.ref f21) = true)
    {tk0 : Tok} (y0 : PySem.W.nsIn K mainGlobals "LONGEST_TAG" = some (some (.int 8 tk0)))
    (z0 : PySem.W.nsIn K mainGlobals "all" = some none) (z1 : PySem.W.nsIn K mainGlobals "dict" = some none) (z2 : PySem.W.nsIn K mainGlobals "len" = some none) (z3 : PySem.W.nsIn K mainGlobals "list" = some none) (z4 : PySem.W.nsIn K mainGlobals "range" = some none) (z5 : PySem.W.nsIn K mainGlobals "sorted" = some none) (z6 : PySem.W.nsIn K mainGlobals "tuple" = some none) :
    ∃ fd : FuncData, (∀ (s : Shared) (v : Value), BindsTo s fd ⟨[v], []⟩ [("_law_script", v)]) ∧ ∀ base : Heap, K.In base → base.Ns mainGlobals mg → FnOk l.prog w K mg base CX0 301 fa fd ["_law_script"] (Fg.spLaw K) := by
  have e := hfa.symm.trans (PySem.W.mg_of X G a21)
  cases e
  have B : ∀ x ∈ blts, mg x = none := List.forall_mem_cons.mpr ⟨PySem.W.mg_none_of X G z0, List.forall_mem_cons.mpr ⟨PySem.W.mg_none_of X G z1, List.forall_mem_cons.mpr ⟨PySem.W.mg_none_of X G z2, List.forall_mem_cons.mpr ⟨PySem.W.mg_none_of X G z3, List.forall_mem_cons.mpr ⟨PySem.W.mg_none_of X G z4, List.forall_mem_cons.mpr ⟨PySem.W.mg_none_of X G z5, List.forall_mem_cons.mpr ⟨PySem.W.mg_none_of X G z6, List.forall_mem_nil _⟩⟩⟩⟩⟩⟩⟩
  have Cc_LONGEST_TAG : ∃ t : Tok, mg "LONGEST_TAG" = some (.int 8 t) := ⟨_, PySem.W.mg_of X G y0⟩
  have F1 := fun_mk (st := s_l_cell) l1 c1 k1
  have b1 := F1.binds (ps := ["_law_script", "_law_k"]) fun _ _ _ _ _ _ us hl => by obtain ⟨_, _, rfl⟩ := len2 hl; rfl
  have F2 := fun_mk (st := s_l_tags) l2 c2 k2
  have b2 := F2.binds (ps := ["_law_cell_here"]) fun _ _ _ _ _ _ us hl => by obtain ⟨_, rfl⟩ := len1 hl; rfl
  have F3 := fun_mk (st := s_l_parts) l3 c3 k3
  have b3 := F3.binds (ps := ["_law_cell_here", "_law_tags_here", "_law_modes"]) fun _ _ _ _ _ _ us hl => by obtain ⟨_, _, _, rfl⟩ := len3 hl; rfl
  have F4 := fun_mk (st := s_l_rules) l4 c4 k4
  have b4 := F4.binds (ps := ["_law_script", "_law_modes", "_law_tags_here"]) fun _ _ _ _ _ _ us hl => by obtain ⟨_, _, _, rfl⟩ := len3 hl; rfl
  have F5 := fun_mk (st := s_all_parts) l5 c5 k5
  have b5 := F5.binds (ps := ["parts"]) fun _ _ _ _ _ _ us hl => by obtain ⟨_, rfl⟩ := len1 hl; rfl
  have F6 := fun_mk (st := s_kids_in) l6 c6 k6
  have b6 := F6.binds (ps := ["parts"]) fun _ _ _ _ _ _ us hl => by obtain ⟨_, rfl⟩ := len1 hl; rfl
  have F7 := fun_mk (st := s_straight) l7 c7 k7
  have b7 := F7.binds (ps := ["changer"]) fun _ _ _ _ _ _ us hl => by obtain ⟨_, rfl⟩ := len1 hl; rfl
  have F8 := fun_mk (st := s_parts_by_rule) l8 c8 k8
  have b8 := F8.binds (ps := ["changer"]) fun _ _ _ _ _ _ us hl => by obtain ⟨_, rfl⟩ := len1 hl; rfl
  have F9 := fun_mk (st := s_Stream___init__) l9 c9 k9
  have b9 := F9.binds (ps := ["self", "changer"]) fun _ _ _ _ _ _ us hl => by obtain ⟨_, _, rfl⟩ := len2 hl; rfl
  have F10 := fun_mk (st := s_l_words) l10 c10 k10
  have b10 := F10.binds (ps := ["_law_script", "_law_tags_here"]) fun _ _ _ _ _ _ us hl => by obtain ⟨_, _, rfl⟩ := len2 hl; rfl
  have F11 := fun_mk (st := s_is_tag) l11 c11 k11
  have b11 := F11.binds (ps := ["text"]) fun _ _ _ _ _ _ us hl => by obtain ⟨_, rfl⟩ := len1 hl; rfl
  have F12 := fun_mk (st := s_parts_for) l12 c12 k12
  have b12 := F12.binds (ps := ["known", "mode", "tag"]) fun _ _ _ _ _ _ us hl => by obtain ⟨_, _, _, rfl⟩ := len3 hl; rfl
  have F13 := fun_mk (st := s_words_of_parts) l13 c13 k13
  have b13 := F13.binds (ps := ["parts"]) fun _ _ _ _ _ _ us hl => by obtain ⟨_, rfl⟩ := len1 hl; rfl
  have F14 := fun_mk (st := s_Stream_take_begin) l14 c14 k14
  have b14 := F14.binds (ps := ["self", "mode", "tag"]) fun _ _ _ _ _ _ us hl => by obtain ⟨_, _, _, rfl⟩ := len3 hl; rfl
  have F15 := fun_mk (st := s_Stream_take) l15 c15 k15
  have b15 := F15.binds (ps := ["self", "word"]) fun _ _ _ _ _ _ us hl => by obtain ⟨_, _, rfl⟩ := len2 hl; rfl
  have F16 := fun_mk (st := s_l_kids_mode) l16 c16 k16
  have b16 := F16.binds (ps := ["_law_parts_here"]) fun _ _ _ _ _ _ us hl => by obtain ⟨_, rfl⟩ := len1 hl; rfl
  have F17 := fun_mk (st := s_l_open_modes) l17 c17 k17
  have b17 := F17.binds (ps := ["_law_made", "_law_words_here"]) fun _ _ _ _ _ _ us hl => by obtain ⟨_, _, rfl⟩ := len2 hl; rfl
  have F18 := fun_mk (st := s_l_read) l18 c18 k18
  have b18 := F18.binds (ps := ["_law_words_here"]) fun _ _ _ _ _ _ us hl => by obtain ⟨_, rfl⟩ := len1 hl; rfl
  have F19 := fun_mk (st := s_l_put) l19 c19 k19
  have b19 := F19.binds (ps := ["_law_made", "_law_parts_here", "_law_inner"]) fun _ _ _ _ _ _ us hl => by obtain ⟨_, _, _, rfl⟩ := len3 hl; rfl
  have F20 := fun_mk (st := s_l_changed) l20 c20 k20
  have b20 := F20.binds (ps := ["_law_made", "_law_mode", "_law_grove"]) fun _ _ _ _ _ _ us hl => by obtain ⟨_, _, _, rfl⟩ := len3 hl; rfl
  have F21 := fun_mk (st := s_law) l21 c21 k21
  refine ⟨PySem.W.fnOf "law" "law" (defArgs s_law) (defBody s_law) (defScope s_law) .none kV21 dc21 pm21 an21 cd21 ct21, fun s v => .of_eq rfl, fun base _ _ => ?_⟩
  have c_Stream : Fg.StC K C_Stream := ⟨⟨cp1, ch1, cq1, cs1⟩, cx1_0, cx1_1, cx1_2⟩
  have g_l_cell : Has l.prog w K mg base "_law_cell" ["_law_script", "_law_k"] 1 (K94.spCellS K) := ⟨⟨f1, _, ok_l_cell B  F1, b1, k1, PySem.W.mg_of X G a1⟩⟩
  have g_l_tags : Has l.prog w K mg base "_law_tags" ["_law_cell_here"] 1 (K94.spTags2) := ⟨⟨f2, _, ok_l_tags B  F2, b2, k2, PySem.W.mg_of X G a2⟩⟩
  have g_l_parts : Has l.prog w K mg base "_law_parts" ["_law_cell_here", "_law_tags_here", "_law_modes"] 1 (K94.spPartsS) := ⟨⟨f3, _, ok_l_parts B  F3, b3, k3, PySem.W.mg_of X G a3⟩⟩
  have g_l_rules : Has l.prog w K mg base "_law_rules" ["_law_script", "_law_modes", "_law_tags_here"] 2 (K94.spRulesS K) := ⟨⟨f4, _, ok_l_rules B g_l_cell g_l_parts F4, b4, k4, PySem.W.mg_of X G a4⟩⟩
  have r_all_parts : ∀ d : Nat, Has l.prog w K mg base "all_parts" ["parts"] d (K94.spAllP d) := by
    intro d
    induction d with
    | zero => exact ⟨⟨f5, _, FnOk.none (fun vs H Q E z => by obtain ⟨_, _, _, _, _, _, hd, _⟩ := z; exact absurd hd (Nat.not_lt_zero _)), b5, k5, PySem.W.mg_of X G a5⟩⟩
    | succ d ih => exact ⟨⟨f5, _, ok_all_parts d B ih F5, b5, k5, PySem.W.mg_of X G a5⟩⟩
  have g_all_parts := r_all_parts 22
  have g_kids_in : Has l.prog w K mg base "kids_in" ["parts"] 23 (K94.spKidsIn 22) := ⟨⟨f6, _, ok_kids_in B g_all_parts F6, b6, k6, PySem.W.mg_of X G a6⟩⟩
  have g_straight : Has l.prog w K mg base "straight" ["changer"] 24 (K94.spStraight) := ⟨⟨f7, _, ok_straight B g_kids_in F7, b7, k7, PySem.W.mg_of X G a7⟩⟩
  have g_parts_by_rule : Has l.prog w K mg base "parts_by_rule" ["changer"] 1 (K94.spByRule) := ⟨⟨f8, _, ok_parts_by_rule B  F8, b8, k8, PySem.W.mg_of X G a8⟩⟩
  have g_Stream : HasC l.prog w K mg base C_Stream "Stream" ["self", "changer"] 25 (K94.spStInit C_Stream) := ⟨⟨f9, _, ok_Stream___init__ B c_Stream g_straight g_parts_by_rule F9, b9, ⟨cm1, a9, n9, ck1⟩, PySem.W.mg_of X G cn1⟩⟩
  have g_l_words : Has l.prog w K mg base "_law_words" ["_law_script", "_law_tags_here"] 2 (K94.spWordsS K) := ⟨⟨f10, _, ok_l_words B g_l_cell F10, b10, k10, PySem.W.mg_of X G a10⟩⟩
  have g_is_tag : Has l.prog w K mg base "is_tag" ["text"] 1 (Fg.spIsTag) := ⟨⟨f11, _, ok_is_tag B Cc_LONGEST_TAG  F11, b11, k11, PySem.W.mg_of X G a11⟩⟩
  have g_parts_for : Has l.prog w K mg base "parts_for" ["known", "mode", "tag"] 1 (K94.spPartsFor) := ⟨⟨f12, _, ok_parts_for B  F12, b12, k12, PySem.W.mg_of X G a12⟩⟩
  have r_words_of_parts : ∀ d : Nat, Has l.prog w K mg base "words_of_parts" ["parts"] d (K94.spWordsP d) := by
    intro d
    induction d with
    | zero => exact ⟨⟨f13, _, FnOk.none (fun vs H Q E z => by obtain ⟨_, _, _, _, _, _, hd, _⟩ := z; exact absurd hd (Nat.not_lt_zero _)), b13, k13, PySem.W.mg_of X G a13⟩⟩
    | succ d ih => exact ⟨⟨f13, _, ok_words_of_parts d B ih F13, b13, k13, PySem.W.mg_of X G a13⟩⟩
  have g_words_of_parts := r_words_of_parts 22
  have g_Stream_take_begin : HasM l.prog w K mg base C_Stream "take_begin" ["self", "mode", "tag"] 24 (K94.spBegin C_Stream) := ⟨⟨f14, _, ok_Stream_take_begin B c_Stream g_parts_for g_words_of_parts g_kids_in F14, b14, ⟨a14, n14, k14⟩⟩⟩
  have g_Stream_take : HasM l.prog w K mg base C_Stream "take" ["self", "word"] 25 (K94.spTakeS C_Stream) := ⟨⟨f15, _, ok_Stream_take B c_Stream g_is_tag g_Stream_take_begin F15, b15, ⟨a15, n15, k15⟩⟩⟩
  have r_l_kids_mode : ∀ d : Nat, Has l.prog w K mg base "_law_kids_mode" ["_law_parts_here"] d (K94.spKm d) := by
    intro d
    induction d with
    | zero => exact ⟨⟨f16, _, FnOk.none (fun vs H Q E z => by obtain ⟨_, _, _, _, _, _, hd, _⟩ := z; exact absurd hd (Nat.not_lt_zero _)), b16, k16, PySem.W.mg_of X G a16⟩⟩
    | succ d ih => exact ⟨⟨f16, _, ok_l_kids_mode d B ih F16, b16, k16, PySem.W.mg_of X G a16⟩⟩
  have g_l_kids_mode := r_l_kids_mode 22
  have g_l_open_modes : Has l.prog w K mg base "_law_open_modes" ["_law_made", "_law_words_here"] 23 (K94.spOpenM) := ⟨⟨f17, _, ok_l_open_modes B g_l_kids_mode F17, b17, k17, PySem.W.mg_of X G a17⟩⟩
  have g_l_read : Has l.prog w K mg base "_law_read" ["_law_words_here"] 1 (K94.spRead94) := ⟨⟨f18, _, ok_l_read B  F18, b18, k18, PySem.W.mg_of X G a18⟩⟩
  have r_l_both : ∀ d : Nat, Has l.prog w K mg base "_law_put" ["_law_made", "_law_parts_here", "_law_inner"] d (K94.spPut94 d) ∧ Has l.prog w K mg base "_law_changed" ["_law_made", "_law_mode", "_law_grove"] d (K94.spChg94 d) := by
    intro d
    induction d with
    | zero => exact ⟨⟨⟨f19, _, FnOk.none (fun vs H Q E z => K94.put0 z), b19, k19, PySem.W.mg_of X G a19⟩⟩, ⟨⟨f20, _, FnOk.none (fun vs H Q E z => K94.chg0 z), b20, k20, PySem.W.mg_of X G a20⟩⟩⟩
    | succ d ih => exact ⟨⟨⟨f19, _, ok_l_put d B ih.2 ih.1 F19, b19, k19, PySem.W.mg_of X G a19⟩⟩, ⟨⟨f20, _, ok_l_changed d B ih.1 ih.2 F20, b20, k20, PySem.W.mg_of X G a20⟩⟩⟩
  have g_l_put := (r_l_both 300).1
  have g_l_changed := (r_l_both 300).2
  exact ok_law B c_Stream g_l_cell g_l_tags g_l_rules g_Stream g_l_words g_Stream_take g_l_open_modes g_l_read g_l_changed F21
theorem walk {l : PySem.W.OpenLaw} {q : Program} {loose : List Str} {XP : (Str → Option Value) → Heap → Prop} {YP : World → Heap → Prop} {d : DefRec} {K : Params → PySem.W.Frag} (hn : l.most = some 63) (hdf : d.params.defaults = [])
    (hY : ∀ (w : World) (h : Heap), YP w h → (K w.params).In h)
    (F : ∀ (w : World) (mg : Str → Option Value) (fa : Addr) (h : Heap), (K w.params).In h → h.Ns mainGlobals mg → mg d.name = some (.ref fa) →
      ∃ fd : FuncData, (∀ (s : Shared) (u : Value), BindsTo s fd ⟨[u], []⟩ [("_law_script", u)]) ∧ ∀ base : Heap, (K w.params).In base → base.Ns mainGlobals mg → FnOk l.prog w (K w.params) mg base CX0 301 fa fd ["_law_script"] (Fg.spLaw (K w.params))) :
    PySem.W.WalkO q loose XP YP l.row.toRowW d [] (fun f vs => PySem.call f vs) :=
  L2.walk_of (n := 63) (k := 301) (x := "_law_script") (CX := fun _ => CX0) (sp := fun w => Fg.spLaw (K w.params)) hn (by decide) hdf ⟨rfl, by decide, by decide⟩ hY F (fun _ _ a ns hl _ hS => ⟨a, ns, rfl, hS, hl, fun _ => rfl⟩) fun _ _ _ _ _ z => z
end K94
def PySem.W.Fast.tw1175206124002750081 := 0
def PySem.W.Fast.tw11784111614435234969 := 0
def PySem.W.Fast.tw14294659474168193201 := 0
def PySem.W.Fast.tw1695949002479868755 := 0
def PySem.W.Fast.tw2777166082383790994 := 0
def PySem.W.Fast.tw17523591640939353325 := 0
def PySem.W.Fast.tw15099213395017877606 := 0
def PySem.W.Fast.tw14921686379437814425 := 0
def PySem.W.Fast.tw7892563051979911541 := 0
def PySem.W.Fast.tw15145349789681296991 := 0
def PySem.W.Fast.tw1699586447660558497 := 0
def PySem.W.Fast.tw9411253508531283764 := 0
def PySem.W.Fast.tw2315896358588349637 := 0
def PySem.W.Fast.tw17640075920719859658 := 0
def PySem.W.Fast.tw10037300496898912001 := 0
def PySem.W.Fast.tw5104312188861052006 := 0
def PySem.W.Fast.tw11531666650532406940 := 0
def PySem.W.Fast.tw10857679948007166233 := 0
def PySem.W.Fast.tw12924509292675207404 := 0
def PySem.W.Fast.tw3516482728677946266 := 0
def PySem.W.Fast.tw7051631374150699993 := 0
def PySem.W.Fast.tw3398607458819234955 := 0
def PySem.W.Fast.tw7564237461970715827 := 0
def PySem.W.Fast.tw8168872310728012234 := 0
def PySem.W.Fast.tw15352647106961386568 := 0
def PySem.W.Fast.tw7432406270780826036 := 0
def PySem.W.Fast.tw3175387824133760741 := 0
def PySem.W.Fast.tw10162631208806639511 := 0
def PySem.W.Fast.tw3867943096572106375 := 0
def PySem.W.Fast.tw5441620606033584669 := 0
def PySem.W.Fast.tw253730700158697988 := 0
def PySem.W.Fast.tw17936318425477639798 := 0
def PySem.W.Fast.tw10446820279577543211 := 0
def PySem.W.Fast.tw9463993281825913212 := 0
def PySem.W.Fast.tw18288922432718127178 := 0
def PySem.W.Fast.tw8762277443678755936 := 0
def PySem.W.Fast.tw14486948271514075071 := 0
def PySem.W.Fast.tw17019393024995574809 := 0
def PySem.W.Fast.tw8071299189233445706 := 0
def PySem.W.Fast.tw17263571568596836397 := 0
def PySem.W.Fast.tw11667226382474586056 := 0
def PySem.W.Fast.tw8479525469474738746 := 0
def PySem.W.Fast.tw2363970723605801663 := 0
def PySem.W.Fast.tw16817129776878904449 := 0
def PySem.W.Fast.tw13946154371418679648 := 0
def PySem.W.Fast.tw14021243469930757253 := 0
def PySem.W.Fast.tw2094154557675388476 := 0
def PySem.W.Fast.tw6112319325380176580 := 0
def PySem.W.Fast.tw7208054989353644042 := 0
def PySem.W.Fast.tw6247169720534410861 := 0
def PySem.W.Fast.tw5679397702022094125 := 0
def PySem.W.Fast.tw12694079414948434959 := 0
def PySem.W.Fast.tw80063097770469477 := 0
def PySem.W.Fast.tw14921447374970743852 := 0
def PySem.W.Fast.tw9720248580911124106 := 0
def PySem.W.Fast.tw9610892005049465560 := 0
def PySem.W.Fast.tw14019301867672441628 := 0
def PySem.W.Fast.tw15626037590356305765 := 0
def PySem.W.Fast.tw16857354734511625833 := 0
def PySem.W.Fast.tw9870894402747331408 := 0
def PySem.W.Fast.tw10556738585556280023 := 0
def PySem.W.Fast.tw12855023030721936845 := 0
def PySem.W.Fast.tw13943307292789261618 := 0
def PySem.W.Fast.tw9241494813684296059 := 0
def PySem.W.Fast.tw11006136845476195594 := 0
def PySem.W.Fast.tw1436486065366378441 := 0
def PySem.W.Fast.tw9083509448632753789 := 0
def PySem.W.Fast.tw12096578709455042532 := 0
def PySem.W.Fast.tw12044552335458669190 := 0
def PySem.W.Fast.tw9981968244449439069 := 0
def PySem.W.Fast.tw4268879922662753871 := 0
def PySem.W.Fast.tw9015319554156663234 := 0
def PySem.W.Fast.tw2812338167312575557 := 0
def PySem.W.Fast.tw13087256259879317589 := 0
def PySem.W.Fast.tw16893404852256361001 := 0
def PySem.W.Fast.tw5789852601238722598 := 0
def PySem.W.Fast.tw15089604155587755703 := 0
def PySem.W.Fast.tw6285714936865276161 := 0
def PySem.W.Fast.tw12505477878013682700 := 0
def PySem.W.Fast.tw4670323116851697453 := 0
def PySem.W.Fast.tw11190581872517735012 := 0
def PySem.W.Fast.tw14393519582964542204 := 0
def PySem.W.Fast.tw9494217456403183866 := 0
def PySem.W.Fast.tw6108268077199497052 := 0
def PySem.W.Fast.tw2033481522528597457 := 0
def PySem.W.Fast.tw17249806316434570570 := 0
def PySem.W.Fast.tw10666380698893779308 := 0
def PySem.W.Fast.tw12461451725918589835 := 0
def PySem.W.Fast.tw9746620731787299247 := 0
def PySem.W.Fast.tw4400913425610357924 := 0
def PySem.W.Fast.tw8686873889390010358 := 0
def PySem.W.Fast.tw2482515785644542025 := 0
def PySem.W.Fast.tw15187692036419127063 := 0
def PySem.W.Fast.tw2603998132960143404 := 0
def PySem.W.Fast.tw11227773552198280105 := 0
def PySem.W.Fast.tw15158904835473186852 := 0
def PySem.W.Fast.tw1644203392288956463 := 0
def PySem.W.Fast.tw13588688622777043707 := 0
def PySem.W.Fast.tw9390790028451454091 := 0
def PySem.W.Fast.tw498181573265286988 := 0
def PySem.W.Fast.tw4372313191500559838 := 0
def PySem.W.Fast.tw12379710176584824385 := 0
def PySem.W.Fast.tw2386038193013197438 := 0
def PySem.W.Fast.tw3759500684043008934 := 0
def PySem.W.Fast.tw11379016669542619689 := 0
def PySem.W.Fast.tw7461613529035793057 := 0
def PySem.W.Fast.tw7291134983644931281 := 0
def PySem.W.Fast.tw13113817615781129117 := 0
def PySem.W.Fast.tw12256882958024151857 := 0
def PySem.W.Fast.tw11864403829637617956 := 0
def PySem.W.Fast.tw2152397111659963412 := 0
def PySem.W.Fast.tw11560395466713569585 := 0
def PySem.W.Fast.tw9757328833068482796 := 0
def PySem.W.Fast.tw5300214014145003563 := 0
def PySem.W.Fast.tw9345986227014711791 := 0
def PySem.W.Fast.tw12540393134615786428 := 0
def PySem.W.Fast.tw992372638537970776 := 0
def PySem.W.Fast.tw8334716073295950495 := 0
def PySem.W.Fast.tw12837409227067108092 := 0
def PySem.W.Fast.tw12341464810185345569 := 0
def PySem.W.Fast.tw11271853322816973357 := 0
def PySem.W.Fast.tw15376207651720531514 := 0
def PySem.W.Fast.tw3018915072084456799 := 0
def PySem.W.Fast.tw468355433598156696 := 0
def PySem.W.Fast.tw9275296294271363539 := 0
def PySem.W.Fast.tw9090041550471563092 := 0
def PySem.W.Fast.tw125721532073907266 := 0
def PySem.W.Fast.tw16192380586566319112 := 0
def PySem.W.Fast.tw9700807352624176390 := 0
def PySem.W.Fast.tw13934130236213380731 := 0
def PySem.W.Fast.tw6447596381031407962 := 0
def PySem.W.Fast.tw13235528418717461783 := 0
def PySem.W.Fast.tw2314020298558922546 := 0
def PySem.W.Fast.tw9986448608114963486 := 0
def PySem.W.Fast.tw3321975107290511658 := 0
def PySem.W.Fast.tw17890063340669854496 := 0
def PySem.W.Fast.tw16300489163342893097 := 0
def PySem.W.Fast.tw14338405304991689746 := 0
def PySem.W.Fast.tw7931527795575259408 := 0
def PySem.W.Fast.tw7146008226062976699 := 0
def PySem.W.Fast.tw6872398846768024535 := 0
def PySem.W.Fast.tw233681546460416987 := 0
def PySem.W.Fast.tw15542429954497861312 := 0
def PySem.W.Fast.tw13687288832140188720 := 0
def PySem.W.Fast.tw4880531582228193533 := 0
def PySem.W.Fast.tw15307954786212119299 := 0
def PySem.W.Fast.tw4756115676953943152 := 0
def PySem.W.Fast.tw8208927590736307789 := 0
def PySem.W.Fast.tw14813175449349627578 := 0
def PySem.W.Fast.tw16991854495927326254 := 0
def PySem.W.Fast.tw15262773406011263791 := 0
def PySem.W.Fast.tw7786337536580263855 := 0
def PySem.W.Fast.tw9226407817089348930 := 0
def PySem.W.Fast.tw4198207032361033465 := 0
def PySem.W.Fast.tw5276984067023221438 := 0
def PySem.W.Fast.tw9970127708089815866 := 0
def PySem.W.Fast.tw1793433520128039025 := 0
def PySem.W.Fast.tw3693498528207802162 := 0
def PySem.W.Fast.tw11127693922113376865 := 0
def PySem.W.Fast.tw15715779192792114512 := 0
def PySem.W.Fast.tw7706675736659460700 := 0
def PySem.W.Fast.tw7923753299191998544 := 0
def PySem.W.Fast.tw12954177036994852174 := 0
def PySem.W.Fast.tw10184640475441357526 := 0
def PySem.W.Fast.tw3673916881382840975 := 0
def PySem.W.Fast.tw10361316985499778903 := 0
def PySem.W.Fast.tw5749361319351545679 := 0
def PySem.W.Fast.tw14171810717716289314 := 0
def PySem.W.Fast.tw1334323889546331253 := 0
def PySem.W.Fast.tw2550381949439398860 := 0
def PySem.W.Fast.tw14988595183307562489 := 0
def PySem.W.Fast.tw5006378623239373192 := 0
def PySem.W.Fast.tw4754867826728096054 := 0
def PySem.W.Fast.tw875878224280544762 := 0
def PySem.W.Fast.tw17465326481846259099 := 0
def PySem.W.Fast.tw13986466899001931267 := 0
def PySem.W.Fast.tw7715483962599155330 := 0
def PySem.W.Fast.tw7979722549188238932 := 0
def PySem.W.Fast.tw5036410156555758170 := 0
def PySem.W.Fast.tw9478197116568953670 := 0
def PySem.W.Fast.tw4813712330431533651 := 0
def PySem.W.Fast.tw17606884410425584204 := 0
def PySem.W.Fast.tw8187086083086816371 := 0
def PySem.W.Fast.tw18225297473829137893 := 0
def PySem.W.Fast.tw11346525433483345571 := 0
def PySem.W.Fast.tw15974890322246756464 := 0
def PySem.W.Fast.tw4873253419131429406 := 0
def PySem.W.Fast.tw8904407508466111302 := 0
def PySem.W.Fast.tw12016336171000083465 := 0
def PySem.W.Fast.tw3582262600991217193 := 0
def PySem.W.Fast.tw17585953242948301967 := 0
def PySem.W.Fast.tw8419029794580572021 := 0
def PySem.W.Fast.tw10735935941717558302 := 0
def PySem.W.Fast.tw11999365492225873719 := 0
def PySem.W.Fast.tw5006824275305871230 := 0
def PySem.W.Fast.tw8946825985925886831 := 0
def PySem.W.Fast.tw13333359096898941280 := 0
def PySem.W.Fast.tw8782804121297216644 := 0
def PySem.W.Fast.tw8730857430647286564 := 0
def PySem.W.Fast.tw10731129891495693179 := 0
def PySem.W.Fast.tw13432665298611416189 := 0
def PySem.W.Fast.tw3425166171399290310 := 0
def PySem.W.Fast.tw16474617684036995926 := 0
def PySem.W.Fast.tw6173550598918502693 := 0
def PySem.W.Fast.tw3360268023207299421 := 0
def PySem.W.Fast.tw1046602727350495117 := 0
def PySem.W.Fast.tw1891519690422792379 := 0
def PySem.W.Fast.tw9268105232723024388 := 0
def PySem.W.Fast.tw399058032769301523 := 0
def PySem.W.Fast.tw13441379641247315239 := 0
def PySem.W.Fast.tw10558869384147290237 := 0
def PySem.W.Fast.tw15387886721665879239 := 0
def PySem.W.Fast.tw4985980394280474543 := 0
def PySem.W.Fast.tw3577063513310283937 := 0
def PySem.W.Fast.tw7651745898812539492 := 0
def PySem.W.Fast.tw15245025227568470570 := 0
def PySem.W.Fast.tw2464317790303524624 := 0
def PySem.W.Fast.tw1353983440777460996 := 0
def PySem.W.Fast.tw4714038927179454731 := 0
def PySem.W.Fast.tw13549278140473718319 := 0
def PySem.W.Fast.tw9485655308756874724 := 0
def PySem.W.Fast.tw4971087357443331559 := 0
def PySem.W.Fast.tw10636105716417789347 := 0
def PySem.W.Fast.tw7460660806561963827 := 0
def PySem.W.Fast.tw10526555630416459908 := 0
def PySem.W.Fast.tw9157087346876758999 := 0
def PySem.W.Fast.tw6136151520762083750 := 0
def PySem.W.Fast.tw15535990987120127475 := 0
def PySem.W.Fast.tw2734014505673317597 := 0
def PySem.W.Fast.tw17689765606999663397 := 0
def PySem.W.Fast.tw1847182254844518265 := 0
def PySem.W.Fast.tw999799791912928643 := 0
def PySem.W.Fast.tw14676308384290470029 := 0
def PySem.W.Fast.tw12225884524459055814 := 0
def PySem.W.Fast.tw9569964006322762957 := 0
def PySem.W.Fast.tw3599979466172959222 := 0
def PySem.W.Fast.tw2338363063216243632 := 0
def PySem.W.Fast.tw6629050249153509384 := 0
def PySem.W.Fast.tw12450543654021664123 := 0
def PySem.W.Fast.tw8564427669420771178 := 0
def PySem.W.Fast.tw7156081564059987263 := 0
def PySem.W.Fast.tw2516201177946826564 := 0
def PySem.W.Fast.tw5044027670489375075 := 0
def PySem.W.Fast.tw8152894514261543589 := 0
def PySem.W.Fast.tw14038269973107767691 := 0
def PySem.W.Fast.tw7607102462355353208 := 0
def PySem.W.Fast.tw5402895963369126041 := 0
def PySem.W.Fast.tw8977747408381073923 := 0
def PySem.W.Fast.tw5387562406948218886 := 0
def PySem.W.Fast.tw5680377870698545172 := 0
open PySem PySem.W PyProof.Rows
set_option maxRecDepth 100000 in
set_option maxHeartbeats 0 in
theorem PySem.Challenge.cw_formgrove_k94_whole_no_word_too_late_holds : PySem.Challenge.rw_formgrove_k94_whole_no_word_too_late.Holds := by
  w_on; o_law; k_head; (case hw => w_witness2)
  k_fill
  refine K94.walk (l := PySem.Challenge.rw_formgrove_k94_whole_no_word_too_late) rfl rfl (fun w h Y => PySem.W.kIn_of Y) ?F
  case F =>
    intro w mg fa h KX G hmg
    refine' K94.all_mk KX G hmg ?cn1 ?cp1 ?ch1 ?cq1 ?cs1 ?cm1 ?ck1 ?cx1_0 ?cx1_1 ?cx1_2 ?a1 ?l1 ?c1 ?k1 ?a2 ?l2 ?c2 ?k2 ?a3 ?l3 ?c3 ?k3 ?a4 ?l4 ?c4 ?k4 ?a5 ?l5 ?c5 ?k5 ?a6 ?l6 ?c6 ?k6 ?a7 ?l7 ?c7 ?k7 ?a8 ?l8 ?c8 ?k8 ?a9 ?l9 ?c9 ?k9 ?n9 ?a10 ?l10 ?c10 ?k10 ?a11 ?l11 ?c11 ?k11 ?a12 ?l12 ?c12 ?k12 ?a13 ?l13 ?c13 ?k13 ?a14 ?l14 ?c14 ?k14 ?n14 ?a15 ?l15 ?c15 ?k15 ?n15 ?a16 ?l16 ?c16 ?k16 ?a17 ?l17 ?c17 ?k17 ?a18 ?l18 ?c18 ?k18 ?a19 ?l19 ?c19 ?k19 ?a20 ?l20 ?c20 ?k20 ?a21 ?l21 ?c21 ?k21 ?y0 ?z0 ?z1 ?z2 ?z3 ?z4 ?z5 ?z6
    (case cn1 => k_is)
    (case cp1 => k_is)
    (case ch1 => k_is)
    (case cq1 => k_is)
    (case cs1 => k_is)
    (case cm1 => k_is)
    (case ck1 => k_is)
    (case cx1_0 => k_is)
    (case cx1_1 => k_is)
    (case cx1_2 => k_is)
    (case a1 => k_is)
    (case l1 => k_is)
    (case c1 => k_is)
    (case k1 => k_is)
    (case a2 => k_is)
    (case l2 => k_is)
    (case c2 => k_is)
    (case k2 => k_is)
    (case a3 => k_is)
    (case l3 => k_is)
    (case c3 => k_is)
    (case k3 => k_is)
    (case a4 => k_is)
    (case l4 => k_is)
    (case c4 => k_is)
    (case k4 => k_is)
    (case a5 => k_is)
    (case l5 => k_is)
    (case c5 => k_is)
    (case k5 => k_is)
    (case a6 => k_is)
    (case l6 => k_is)
    (case c6 => k_is)
    (case k6 => k_is)
    (case a7 => k_is)
    (case l7 => k_is)
    (case c7 => k_is)
    (case k7 => k_is)
    (case a8 => k_is)
    (case l8 => k_is)
    (case c8 => k_is)
    (case k8 => k_is)
    (case a9 => k_is)
    (case l9 => k_is)
    (case c9 => k_is)
    (case k9 => k_is)
    (case n9 => k_is)
    (case a10 => k_is)
    (case l10 => k_is)
    (case c10 => k_is)
    (case k10 => k_is)
    (case a11 => k_is)
    (case l11 => k_is)
    (case c11 => k_is)
    (case k11 => k_is)
    (case a12 => k_is)
    (case l12 => k_is)
    (case c12 => k_is)
    (case k12 => k_is)
    (case a13 => k_is)
    (case l13 => k_is)
    (case c13 => k_is)
    (case k13 => k_is)
    (case a14 => k_is)
    (case l14 => k_is)
    (case c14 => k_is)
    (case k14 => k_is)
    (case n14 => k_is)
    (case a15 => k_is)
    (case l15 => k_is)
    (case c15 => k_is)
    (case k15 => k_is)
    (case n15 => k_is)
    (case a16 => k_is)
    (case l16 => k_is)
    (case c16 => k_is)
    (case k16 => k_is)
    (case a17 => k_is)
    (case l17 => k_is)
    (case c17 => k_is)
    (case k17 => k_is)
    (case a18 => k_is)
    (case l18 => k_is)
    (case c18 => k_is)
    (case k18 => k_is)
    (case a19 => k_is)
    (case l19 => k_is)
    (case c19 => k_is)
    (case k19 => k_is)
    (case a20 => k_is)
    (case l20 => k_is)
    (case c20 => k_is)
    (case k20 => k_is)
    (case a21 => k_is)
    (case l21 => k_is)
    (case c21 => k_is)
    (case k21 => k_is)
    (case y0 => k_is)
    (case z0 => k_is)
    (case z1 => k_is)
    (case z2 => k_is)
    (case z3 => k_is)
    (case z4 => k_is)
    (case z5 => k_is)
    (case z6 => k_is)
