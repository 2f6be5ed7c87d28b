import PyProof.Rows.All
import Wide.All
import OpenK.AllK
import Wide.FinOn
import Lean
import PyProof.EqAt
import PyProof.EqKinds
import PyProof.TupleCall
import PySem.Challenge.RW_formgrove_k21_a_book_written_and_read
set_option Elab.async false
set_option linter.all false
set_option maxRecDepth 100000
/-! THE HAND LAYER, for ints, bools, texts, own classes, LISTS and tuples (index, slices, in, append, pop ..), calls, loops. Paste it whole ahead of your own text; what your proof does not reach may be deleted. -/
namespace L2
open PySem PySem.Spec PyProof.Rows

/-- a key: an int or a str -/
abbrev Key := Sum Int Str
def keyIs : Key → Value → Bool
  | .inl k, v => Value.isInt k v
  | .inr x, v => Value.isStrOf x v
def keyH (w : World) : Key → Int
  | .inl k => hashInt k
  | .inr x => hashStr w x
theorem keyIs_shape : ∀ {k : Key} {v : Value}, keyIs k v = true → (∃ i t, k = Sum.inl i ∧ v = Value.int i t) ∨ (∃ x t, k = Sum.inr x ∧ v = Value.str x t)
  | .inl i, v, h => by
    obtain ⟨t, e⟩ := Value.isInt_shape (k := i) (v := v) h
    exact .inl ⟨i, t, rfl, e⟩
  | .inr x, v, h => by
    obtain ⟨t, e⟩ := Value.isStrOf_shape (x := x) (v := v) h
    exact .inr ⟨x, t, rfl, e⟩
theorem keyIs_int (i : Int) (t : Tok) : keyIs (.inl i) (.int i t) = true := by simp [keyIs, Value.isInt]
theorem keyIs_str (x : Str) (t : Tok) : keyIs (.inr x) (.str x t) = true := by simp [keyIs, Value.isStrOf]
theorem key_ll (a b : Int) : decide ((Sum.inl a : Key) = Sum.inl b) = (a == b) := by
  by_cases e : a = b
  · subst e; simp
  · have h : ¬ (Sum.inl a : Key) = Sum.inl b := fun q => e (Sum.inl.inj q)
    rw [decide_eq_false h]
    exact (beq_eq_false_iff_ne.mpr e).symm
theorem key_rr (a b : Str) : decide ((Sum.inr a : Key) = Sum.inr b) = decide (a = b) := by
  by_cases e : a = b
  · subst e; simp
  · have h : ¬ (Sum.inr a : Key) = Sum.inr b := fun q => e (Sum.inr.inj q)
    rw [decide_eq_false h, decide_eq_false e]
theorem key_lr (a : Int) (b : Str) : decide ((Sum.inl a : Key) = Sum.inr b) = false := decide_eq_false (fun q => nomatch q)
theorem key_rl (a : Str) (b : Int) : decide ((Sum.inr a : Key) = Sum.inl b) = false := decide_eq_false (fun q => nomatch q)

def mixKind (prog : Program) (w : World) : PySem.KeyKind prog w Key where
  is := keyIs
  hash := keyH w
  inj := fun v a b ha hb => by
    rcases keyIs_shape ha with ⟨i, t, rfl, rfl⟩ | ⟨x, t, rfl, rfl⟩
    · rcases keyIs_shape hb with ⟨j, u, rfl, e⟩ | ⟨y, u, rfl, e⟩
      · injection e with e1 _; rw [e1]
      · exact nomatch e
    · rcases keyIs_shape hb with ⟨j, u, rfl, e⟩ | ⟨y, u, rfl, e⟩
      · exact nomatch e
      · injection e with e1 _; rw [e1]
  byValue := fun k v h => by
    rcases keyIs_shape h with ⟨i, t, rfl, rfl⟩ | ⟨x, t, rfl, rfl⟩ <;> rfl
  pyHash := fun hv h => by
    rcases keyIs_shape hv with ⟨i, t, rfl, rfl⟩ | ⟨x, t, rfl, rfl⟩
    · exact wpAny_pyHash_int h
    · exact wpAny_pyHash_str h
  eqBool := fun hu hv h => by
    rcases keyIs_shape hu with ⟨i, t, rfl, rfl⟩ | ⟨x, t, rfl, rfl⟩
    · rcases keyIs_shape hv with ⟨j, u, rfl, rfl⟩ | ⟨y, u, rfl, rfl⟩
      · rw [key_ll] at h; exact wpAny_eqBool_int h
      · rw [key_lr] at h; exact SeqAt.EqAt.int_str i t y u _ _ _ _ h
    · rcases keyIs_shape hv with ⟨j, u, rfl, rfl⟩ | ⟨y, u, rfl, rfl⟩
      · rw [key_rl] at h; exact SeqAt.EqAt.str_int x t j u _ _ _ _ h
      · rw [key_rr] at h; exact wpAny_eqBool_str h
  «strs» := fun k x t v h => by
    rcases keyIs_shape h with ⟨i, u, rfl, e⟩ | ⟨y, u, rfl, e⟩
    · exact nomatch e
    · injection e with e1 _
      subst e1
      cases v <;> rfl

theorem mixKind_int (prog : Program) (w : World) (i : Int) (t : Tok) : (mixKind prog w).is (.inl i) (.int i t) = true := keyIs_int i t
theorem mixKind_str (prog : Program) (w : World) (x : Str) (t : Tok) : (mixKind prog w).is (.inr x) (.str x t) = true := keyIs_str x t
end L2

namespace L2
open PySem PySem.Spec PyProof.Rows

/-- a value, without the heap -/
inductive V where
  | non | bl (b : Bool) | int (i : Int) | str (x : Str) | byt (b : Array UInt8) | flt (b : UInt64) | ref (a : Addr) | ty (n : String)
  deriving DecidableEq

def RelV : V → Value → Prop
  | .non, u => u = Value.none
  | .bl b, u => u = Value.bool b
  | .int i, u => ∃ t, u = Value.int i t
  | .str x, u => ∃ t, u = Value.str x t
  | .byt b, u => ∃ t, u = Value.bytes b t
  | .flt b, u => ∃ t, u = Value.float b t
  | .ref a, u => u = Value.ref a
  | .ty n, u => u = Value.type n

abbrev Vals : List V → List Value → Prop := Paired RelV
theorem Vals.length {xs : List V} {us : List Value} (r : Vals xs us) : xs.length = us.length := Paired.length r
theorem Vals.get : ∀ {xs : List V} {us : List Value} {i : Nat} {x : V}, Vals xs us → xs[i]? = some x → ∃ u, us[i]? = some u ∧ RelV x u
  | _, _, _, _, .nil, e => by simp at e
  | _, _, 0, _, .cons r _, e => by simp at e; subst e; exact ⟨_, rfl, r⟩
  | _, _, i + 1, x, .cons _ t, e => by
    obtain ⟨u, h1, h2⟩ := Vals.get (i := i) (x := x) t (by simpa using e)
    exact ⟨u, by simpa using h1, h2⟩
theorem Vals.set {x : V} {u : Value} (r : RelV x u) : ∀ {xs : List V} {us : List Value} (i : Nat), Vals xs us → Vals (xs.set i x) (us.set i u)
  | _, _, _, .nil => .nil
  | _, _, 0, .cons _ t => .cons r t
  | _, _, i + 1, .cons q t => .cons q (Vals.set r i t)
theorem Vals.append : ∀ {xs ys : List V} {us ws : List Value}, Vals xs us → Vals ys ws → Vals (xs ++ ys) (us ++ ws)
  | _, _, _, _, .nil, s => s
  | _, _, _, _, .cons r t, s => .cons r (Vals.append t s)
def RelO : Option V → Option Value → Prop
  | some v, some u => RelV v u
  | none, none => True
  | _, _ => False
def KV {κ : Type} : List (κ × V) → List (κ × Value) → Prop := Paired fun (p : κ × V) (q : κ × Value) => p.1 = q.1 ∧ RelV p.2 q.2

/-- a key of a dict (00_mix): an int or a text -/
def kV : Key → V
  | .inl i => .int i
  | .inr x => .str x

/-- what stands at a tracked address -/
inductive HO where
  /-- a list -/
  | lst (xs : List V)
  /-- a tuple (never changes) -/
  | tup (xs : List V)
  /-- a dict whose keys are ints and texts; one whose keys are tuples of ints and texts (the empty one is both) -/
  | dK (kvs : List (Key × V)) | dT (kvs : List (List Key × V))
  /-- a set of ints: its members, its size -/
  | set (S : Int → Bool) (n : Nat)
  /-- an instance of the class at C, its dict at dx, its attributes -/
  | ins (C dx : Addr) (fs : List (Str × V))
  /-- the dict of the instance at x -/
  | own (x : Addr)
  /-- the dict of an exception -/
  | xd (fs : List (Str × V))
  /-- a bound method, f of x -/
  | met (f x : Addr)
  /-- a range object lo, lo + 1, .. below hi -/
  | rng (lo hi : Int)
  /-- a thing that is known to the object (the script; a dict while a loop walks it): read, never written while it is so -/
  | frz (o : Obj) (u : HO)
  /-- a code object's table -/
  | tbl (ps : Array Value)
  /-- any other thing, by what is true of its one object (a def of one's own: SetO a S n := HO.ext fun h => ..) -/
  | ext (φ : Heap → Prop)

abbrev Hp := Addr → Option HO
def upd (H : Hp) (a : Addr) (o : HO) : Hp := fun b => if b = a then some o else H b
theorem upd_same {H : Hp} {a : Addr} {o : HO} : upd H a o a = some o := by unfold upd; rw [if_pos rfl]
theorem upd_ne {H : Hp} {a b : Addr} {o : HO} (h : b ≠ a) : upd H a o b = H b := by unfold upd; rw [if_neg h]
theorem upd_upd {H : Hp} {a : Addr} {o u : HO} : upd (upd H a o) a u = upd H a u := by
  funext b; unfold upd; split <;> rfl
/-- two objects of different content stand apart -/
theorem ne_of {H : Hp} {a b : Addr} {o u : HO} (h : H a = some o) (h' : H b = some u) (d : o ≠ u) : a ≠ b := by
  intro e; subst e; rw [h] at h'; exact d (Option.some.inj h')
theorem ne_of_none {H : Hp} {a b : Addr} {o : HO} (h : H a = some o) (h' : H b = none) : a ≠ b := by
  intro e; subst e; rw [h] at h'; cases h'

section
variable (P : Program) (w : World)
def ObjOk (H : Hp) (h : Heap) (a : Addr) : HO → Prop
  | .lst xs => xs.length ≤ sizeLine ∧ ∃ (its : List Value) (n : Nat), Vals xs its ∧ h.get? a = some { cls := .type "list", data := .seq its.toArray n }
  | .tup xs => xs.length ≤ sizeLine ∧ ∃ its : List Value, Vals xs its ∧ IsTup h a its.toArray
  | .dK kvs => kvs.length ≤ sizeLine ∧ (a == sysModules) = false ∧ ∃ vs, KV kvs vs ∧ h.DictOf (mixKind P w) a vs
  | .dT kvs => kvs.length ≤ sizeLine ∧ (a == sysModules) = false ∧ ∃ xs : List (List Key × Addr × Value),
      Paired (fun (p : List Key × V) (q : List Key × Addr × Value) => p.1 = q.1 ∧ H q.2.1 = some (.tup (p.1.map kV)) ∧ RelV p.2 q.2.2) kvs xs ∧
      ∃ o es ep, h.get? a = some o ∧ o.ExactDict ∧ o.data = .dict es ep ∧ es.toList = xs.map (entryOfKey (tupleKind (mixKind P w))) ∧ (xs.map (·.1)).Nodup
  | .set S n => h.SetOf (intKind P w) a S n
  | .ins C dx fs => H dx = some (.own a) ∧ fs.length ≤ 1000 ∧ dx ≠ a ∧ h.get? a = some (PySem.W.instObj C dx) ∧
      ∃ mA, h.Ns1 dx mA ∧ (∀ f, RelO (fs.lookup f) (mA f)) ∧ PySem.Within mA (fs.map (·.1))
  | .own _ => ∃ o, h.get? a = some o
  | .xd fs => ∃ mA, h.Ns1 a mA ∧ ∀ f, RelO (fs.lookup f) (mA f)
  | .rng lo hi => ∃ t u v, h.get? a = some { cls := .type "range", data := .fields #[.int lo t, .int hi u, .int 1 v] }
  | .frz o u => h.get? a = some o ∧ ObjOk H h a u
  | .tbl ps => h.get? a = some { cls := .none, data := .fields ps }
  | .met f x => h.get? a = some (PySem.W.methodObj (.ref f) (.ref x))
  | .ext φ => φ h ∧ (∃ o, h.get? a = some o) ∧ ∀ h1 h2 : Heap, φ h1 → (∀ o, h1.get? a = some o → h2.get? a = some o) → φ h2
/-- the abstract heap is held -/
def HOk (H : Hp) (h : Heap) : Prop := ∀ a o, H a = some o → ObjOk P w H h a o
end

section
variable {P : Program} {w : World} {H H' : Hp} {h h' : Heap} {a : Addr} {o : HO}
theorem ObjOk.lt (x : ObjOk P w H h a o) : a < h.objs.size := by
  cases o with
  | lst xs => obtain ⟨_, _, _, _, e⟩ := x; exact Heap.lt_size e
  | tup xs => obtain ⟨_, _, _, p⟩ := x; exact p.lt
  | dK kvs => obtain ⟨_, _, _, _, o, _, _, e, _⟩ := x; exact Heap.lt_size e
  | dT kvs => obtain ⟨_, _, _, _, o, _, _, e, _⟩ := x; exact Heap.lt_size e
  | set S n => obtain ⟨o, _, _, _, e, _⟩ := x; exact Heap.lt_size e
  | ins C dx fs => obtain ⟨_, _, _, e, _⟩ := x; exact Heap.lt_size e
  | own y => obtain ⟨_, e⟩ := x; exact Heap.lt_size e
  | xd fs => obtain ⟨_, ⟨_, _, _, e, _⟩, _⟩ := x; exact Heap.lt_size e
  | rng lo hi => obtain ⟨_, _, _, e⟩ := x; exact Heap.lt_size e
  | frz ob u => obtain ⟨e, _⟩ := x; exact Heap.lt_size e
  | tbl ps => exact Heap.lt_size (show h.get? a = some _ from x)
  | met f y => exact Heap.lt_size (show h.get? a = some _ from x)
  | ext φ => obtain ⟨_, ⟨_, e⟩, _⟩ := x; exact Heap.lt_size e
theorem Paired.mapP {α β : Type} {F G : α → β → Prop} : ∀ {l₁ : List α} {l₂ : List β}, Paired F l₁ l₂ → (∀ a b, F a b → G a b) → Paired G l₁ l₂
  | _, _, .nil, _ => .nil
  | _, _, .cons r t, f => .cons (f _ _ r) (Paired.mapP t f)
/-- what an object's description leans on: its own object, its own dict, the tuples -/
theorem ObjOk.stay (x : ObjOk P w H h a o) (k : ∀ b u, (b = a ∨ H b = some (.own a)) → h.get? b = some u → h'.get? b = some u)
    (ho : ∀ b, H b = some (.own a) → H' b = some (.own a)) (ht : ∀ b xs, H b = some (.tup xs) → H' b = some (.tup xs)) : ObjOk P w H' h' a o := by
  induction o with
  | lst xs => obtain ⟨z, its, n, r, e⟩ := x; exact ⟨z, its, n, r, k _ _ (.inl rfl) e⟩
  | tup xs => obtain ⟨z, its, r, ob, e, c⟩ := x; exact ⟨z, its, r, ob, k _ _ (.inl rfl) e, c⟩
  | dK kvs => obtain ⟨z, y, vs, r, ob, es, ep, e, c⟩ := x; exact ⟨z, y, vs, r, ob, es, ep, k _ _ (.inl rfl) e, c⟩
  | dT kvs =>
    obtain ⟨z, y, xs, r, ob, es, ep, e, c⟩ := x
    exact ⟨z, y, xs, Paired.mapP r fun p q z => ⟨z.1, ht _ _ z.2.1, z.2.2⟩, ob, es, ep, k _ _ (.inl rfl) e, c⟩
  | set S n => obtain ⟨ob, es, ep, t, e, c⟩ := x; exact ⟨ob, es, ep, t, k _ _ (.inl rfl) e, c⟩
  | ins C dx fs =>
    obtain ⟨d, z, ne, e, mA, ⟨od, es, ep, e2, c⟩, r⟩ := x
    exact ⟨ho _ d, z, ne, k _ _ (.inl rfl) e, mA, ⟨od, es, ep, k _ _ (.inr d) e2, c⟩, r⟩
  | own y => obtain ⟨ob, e⟩ := x; exact ⟨ob, k _ _ (.inl rfl) e⟩
  | xd fs => obtain ⟨mA, ⟨od, es, ep, e, c⟩, r⟩ := x; exact ⟨mA, ⟨od, es, ep, k _ _ (.inl rfl) e, c⟩, r⟩
  | rng lo hi => obtain ⟨t, u, v, e⟩ := x; exact ⟨t, u, v, k _ _ (.inl rfl) e⟩
  | frz ob u ih => obtain ⟨e, q⟩ := x; exact ⟨k _ _ (.inl rfl) e, ih q⟩
  | tbl ps =>
    have e : h.get? a = some { cls := .none, data := .fields ps } := x
    show h'.get? a = some { cls := .none, data := .fields ps }
    exact k a _ (.inl rfl) e
  | met f y =>
    have e : h.get? a = some (PySem.W.methodObj (.ref f) (.ref y)) := x
    show h'.get? a = some (PySem.W.methodObj (.ref f) (.ref y))
    exact k a _ (.inl rfl) e
  | ext φ => obtain ⟨p, ⟨o, e⟩, st⟩ := x; exact ⟨st _ _ p fun o q => k _ _ (.inl rfl) q, ⟨o, k _ _ (.inl rfl) e⟩, st⟩
theorem HOk.lt (x : HOk P w H h) (e : H a = some o) : a < h.objs.size := (x a o e).lt
theorem HOk.fresh (x : HOk P w H h) (e : h.objs.size ≤ a) : H a = none := by
  cases q : H a with
  | none => rfl
  | some u => exact absurd (Nat.lt_of_lt_of_le (x.lt q) e) (Nat.lt_irrefl _)
/-- every object of the heap is kept -/
theorem HOk.kept (x : HOk P w H h) (k : ∀ b u, h.get? b = some u → h'.get? b = some u) : HOk P w H h' := fun a o e =>
  (x a o e).stay (fun b u _ q => k b u q) (fun _ q => q) fun _ _ q => q
/-- a new object is laid and tracked -/
theorem HOk.laid (x : HOk P w H h) (k : ∀ b u, h.get? b = some u → h'.get? b = some u) (hp : h.objs.size ≤ a) (new : ObjOk P w (upd H a o) h' a o) : HOk P w (upd H a o) h' := fun b u e => by
  have hn := x.fresh hp
  by_cases hb : b = a
  · subst hb; rw [upd_same] at e; cases e; exact new
  · rw [upd_ne hb] at e
    exact (x b u e).stay (fun c v _ q => k c v q) (fun c q => by rw [upd_ne (ne_of_none q hn)]; exact q) fun c xs q => by rw [upd_ne (ne_of_none q hn)]; exact q
end

/-- what may be read as u: it is u, or a known u -/
def Rd (H : Hp) (a : Addr) (u : HO) : Prop := H a = some u ∨ ∃ o, H a = some (.frz o u)
theorem Rd.ok {P : Program} {w : World} {H : Hp} {h : Heap} {a : Addr} {u : HO} (r : Rd H a u) (x : HOk P w H h) : ObjOk P w H h a u := by
  rcases r with r | ⟨o, r⟩
  · exact x a u r
  · obtain ⟨_, q⟩ := x a _ r
    exact q
/-- what may be written -/
def Mut : Option HO → Prop
  | some (.lst _) => True
  | some (.dK _) => True
  | some (.dT _) => True
  | some (.set _ _) => True
  | some (.ins _ _ _) => True
  | some (.ext _) => True
  | _ => False
section
variable {P : Program} {w : World} {H : Hp} {h h' : Heap} {x e : Addr} {o' : HO}
/-- the object at e is changed: x itself, or the dict of the instance x -/
theorem HOk.write (ok : HOk P w H h) (mu : Mut (H x)) (he : e = x ∨ H e = some (.own x)) (k : ∀ b u, b ≠ e → h.get? b = some u → h'.get? b = some u) (heo : ∃ u, h'.get? e = some u)
    (new : ObjOk P w (upd H x o') h' x o') : HOk P w (upd H x o') h' := fun b u q => by
  have nown : ∀ c y, H c = some (.own y) → c ≠ x := fun c y r z => by subst z; rw [r] at mu; exact mu
  have ntup : ∀ c xs, H c = some (.tup xs) → c ≠ x := fun c xs r z => by subst z; rw [r] at mu; exact mu
  by_cases hb : b = x
  · subst hb; rw [upd_same] at q; cases q; exact new
  · rw [upd_ne hb] at q
    by_cases hbe : b = e
    · have q' : H b = some (.own x) := by
        rcases he with z | z
        · exact absurd (hbe.trans z) hb
        · rw [hbe]; exact z
      rw [q] at q'; cases q'
      obtain ⟨v, hv⟩ := heo
      exact ⟨v, by rw [hbe]; exact hv⟩
    · refine (ok b u q).stay (fun c v hc r => k c v ?_ r) (fun c r => by rw [upd_ne (nown c b r)]; exact r) fun c xs r => by rw [upd_ne (ntup c xs r)]; exact r
      rcases hc with rfl | hc
      · exact hbe
      · rintro rfl
        rcases he with z | z
        · exact nown c b hc z
        · rw [hc] at z; cases z; exact hb rfl
end

/-! ### kept unless tracked; of the frames at fs (the callers') the slots may change (an exception that passes writes there); of the records at ex (iterators) nothing is said -/
structure Un (fs ex : List Addr) (H H' : Hp) (h h' : Heap) : Prop where
  keep : ∀ b o, h.get? b = some o → H b = none → b ∉ fs → b ∉ ex → h'.get? b = some o
  slot : ∀ b o, h.get? b = some o → H b = none → b ∈ fs → b ∉ ex → ∃ sl, h'.get? b = some { o with slots := sl }
  free : ∀ b o, h.get? b = some o → H b = none → b ∉ ex → H' b = none
  there : ∀ b o, h.get? b = some o → b ∉ ex → ∃ o', h'.get? b = some o'
  tups : ∀ b xs, H b = some (.tup xs) → H' b = some (.tup xs)
  frzs : ∀ b o u, H b = some (.frz o u) → H' b = some (.frz o u)
  tbls : ∀ b ps, H b = some (.tbl ps) → ∃ more, H' b = some (.tbl (ps ++ more))
section
variable {fs fs' ex ex' : List Addr} {H H1 H2 : Hp} {h h1 h2 h' : Heap} {a x e : Addr} {o : HO}
theorem Un.any (u : Un fs ex H H1 h h1) {b : Addr} {ob : Obj} (q : h.get? b = some ob) (n : H b = none) (hx : b ∉ ex) : ∃ sl, h1.get? b = some { ob with slots := sl } := by
  by_cases hb : b ∈ fs
  · exact u.slot b ob q n hb hx
  · exact ⟨ob.slots, u.keep b ob q n hb hx⟩
theorem Un.kept (k : ∀ b u, h.get? b = some u → h'.get? b = some u) : Un fs ex H H h h' :=
  ⟨fun b ob q _ _ _ => k b ob q, fun b ob q _ _ _ => ⟨ob.slots, k b ob q⟩, fun _ _ _ n _ => n, fun b ob q _ => ⟨ob, k b ob q⟩, fun _ _ q => q, fun _ _ _ q => q, fun _ ps q => ⟨#[], by rw [q]; simp⟩⟩
theorem Un.refl : Un fs ex H H h h := Un.kept fun _ _ q => q
theorem Un.laid (k : ∀ b u, h.get? b = some u → h'.get? b = some u) (hp : h.objs.size ≤ a) (hn : H a = none) : Un fs ex H (upd H a o) h h' where
  keep := fun b u q _ _ _ => k b u q
  slot := fun b u q _ _ _ => ⟨u.slots, k b u q⟩
  free := fun b u q n _ => by rw [upd_ne (Nat.ne_of_lt (Nat.lt_of_lt_of_le (Heap.lt_size q) hp))]; exact n
  there := fun b u q _ => ⟨u, k b u q⟩
  tups := fun b xs q => by rw [upd_ne (ne_of_none q hn)]; exact q
  frzs := fun b u xs q => by rw [upd_ne (ne_of_none q hn)]; exact q
  tbls := fun b ps q => ⟨#[], by rw [upd_ne (ne_of_none q hn), q]; simp⟩
theorem Un.write (mu : Mut (H x)) (he : e = x ∨ H e = some (.own x)) (k : ∀ b u, b ≠ e → h.get? b = some u → h'.get? b = some u) (heo : ∃ u, h'.get? e = some u) : Un fs ex H (upd H x o) h h' := by
  have hx : ∀ b, H b = none → b ≠ x := fun b n z => by subst z; rw [n] at mu; exact mu
  have hb : ∀ b, H b = none → b ≠ e := fun b n z => by
    subst z
    rcases he with r | r
    · exact hx b n r
    · rw [n] at r; cases r
  have hm : ∀ b u, H b = some u → ¬ Mut (some u) → b ≠ x := fun b u q nm z => by subst z; rw [q] at mu; exact nm mu
  refine ⟨fun b u q n _ _ => k b u (hb b n) q, fun b u q n _ _ => ⟨u.slots, k b u (hb b n) q⟩, fun b u q n _ => by rw [upd_ne (hx b n)]; exact n, fun b u q _ => ?_,
    fun b xs q => by rw [upd_ne (hm b _ q fun z => z)]; exact q, fun b u xs q => by rw [upd_ne (hm b _ q fun z => z)]; exact q, fun b ps q => ⟨#[], by rw [upd_ne (hm b _ q fun z => z), q]; simp⟩⟩
  by_cases hbe : b = e
  · subst hbe; exact heo
  · exact ⟨u, k b u hbe q⟩
end

/-! ### the heap without what is tracked -/
def trk (h : Heap) (H : Hp) : List Addr := (List.range h.objs.size).filter fun a => (H a).isSome
def hidT (h : Heap) (H : Hp) : Heap := PySem.W.hideAll h (trk h H)
theorem hidT_size (h : Heap) (H : Hp) : (hidT h H).objs.size = h.objs.size := PySem.W.hideAll_size _ _
theorem hidT_get {h : Heap} {H : Hp} {b : Addr} {o : Obj} (e : h.get? b = some o) (n : H b = none) : (hidT h H).get? b = some o :=
  PySem.W.hideAll_get _ e fun hm => by
    have q : (H b).isSome = true := (List.mem_filter.mp hm).2
    rw [n] at q; simp at q
theorem of_hidT {h : Heap} {H : Hp} {b : Addr} {o : Obj} (e : (hidT h H).get? b = some o) : h.get? b = some o ∧ H b = none := by
  have e' : h.get? b = some o := PySem.W.of_hideAll (trk h H) e
  refine ⟨e', ?_⟩
  cases q : H b with
  | none => rfl
  | some x =>
    have hm : b ∈ trk h H := List.mem_filter.mpr ⟨List.mem_range.mpr (Heap.lt_size e'), by simp [q]⟩
    have z : (hidT h H).get? b = none := PySem.W.hideAll_none (trk h H) hm
    rw [z] at e; cases e

/-! ### OpenK's ledger, filled with every new object but one -/
end L2

namespace L2
open PySem PySem.Spec PyProof.Rows

/-- the module's facts, over the base: the heap at the law's entry without what is tracked there -/
structure Mod (K : PySem.W.Frag) (mg : Str → Option Value) (base : Heap) : Prop where
  kin : K.In base
  glob : base.Ns mainGlobals mg
  blt : ∃ mb, base.Ns builtinsNs mb ∧ ∀ x : Str, x ≠ "__name__" → mb x = bootBuiltins x
  nolimit : base.NoLimit

/-- the context: a def's body (or a comprehension's block) running. base: fixed through the whole law; s₀, H₀: the entry; outer: the frames whose slots others may change (a def's callers); stack: all frames that run;
   ex: iterators that were made ahead of the entry and are walked here (a comprehension's); fn: the names whose cells were made at the entry (a def: all; a comprehension's block: its own); calm: not within an except suite; pn: pins that every state bears; xe: what is wanted of an exception that leaves the code -/
structure Cx where
  prog : Program
  w : World
  K : PySem.W.Frag
  mg : Str → Option Value
  base : Heap
  A : Around
  N : List Str
  s₀ : Shared
  H₀ : Hp
  env : Env
  outer : List Env
  stack : List Env
  ex : List Addr
  fn : Str → Bool
  calm : Bool
  pn : List (Addr × Obj)
  xe : Value → Shared → Prop
/-- the callers' frames -/
def frs (l : List Env) : List Addr := l.filterMap (·.frame)
abbrev Cx.fs (X : Cx) : List Addr := frs X.outer

def Vis (sc : Scope) (x : Str) : Prop := sc.names.lookup x = some .local ∨ sc.names.lookup x = some .cell ∨ sc.names.lookup x = some .free
def Loc (sc : Scope) (x : Str) : Prop := sc.names.lookup x = some .local ∨ sc.names.lookup x = some .cell
def Look (env : Env) (h : Heap) (m : Str → Option Value) (x : Str) (u : Value) : Prop :=
  (env.kindOf x = some .local ∧ m x = some u) ∨ ((env.kindOf x = some .cell ∨ env.kindOf x = some .free) ∧ ∃ c, env.cells.lookup x = some c ∧ h.IsCell c (some u))

structure Cx.Ok (X : Cx) : Prop where
  mod : Mod X.K X.mg X.base
  kind : X.env.scope.kind = .function
  glob : X.env.globals = mainGlobals
  blt : X.env.builtins = builtinsNs
  above : X.s₀.heap.objs.size ≤ X.env.locals
  inj : ∀ x y c, X.env.cells.lookup x = some c → X.env.cells.lookup y = some c → x = y
  has : ∀ x, (X.env.kindOf x = some .cell ∨ X.env.kindOf x = some .free) → ∃ c, X.env.cells.lookup x = some c
  cab : ∀ x c, X.fn x = true → X.env.cells.lookup x = some c → X.s₀.heap.objs.size ≤ c
  hd : X.calm = true → X.A.handled = none
  frames : X.A.frames = some X.stack
  stk : X.stack = X.outer ∨ (X.stack = X.env :: X.outer ∧ X.env.frame = some X.env.locals)
  exf : ∀ b ∈ X.ex, b ≠ X.env.locals ∧ ∀ x c, X.env.cells.lookup x = some c → c ≠ b
  bs : ∀ b o, X.base.get? b = some o → X.s₀.heap.get? b = some o ∧ X.H₀ b = none
  bsz : X.base.objs.size ≤ X.s₀.heap.objs.size
  noex : ∀ b o, X.base.get? b = some o → b ∉ X.ex
  exfs : ∀ b ∈ X.ex, b ∉ X.fs
  funs : X.s₀.heap.FunFrames X.base X.outer
  frf : ∀ b ∈ X.fs, X.H₀ b = none

structure Inv (X : Cx) (pins : List (Addr × Obj)) (σ : List (Option V)) (H : Hp) (s : Shared) : Prop where
  ok : X.Ok
  os : s.os = X.s₀.os
  bare : AllBare s.gens
  base : Un X.fs X.ex X.H₀ H X.s₀.heap s.heap
  loc : ∃ m, s.heap.Ns X.env.locals m ∧ ∀ (i : Nat) (x : Str) (v : V), X.N[i]? = some x → σ[i]? = some (some v) → Vis X.env.scope x → ∃ u, RelV v u ∧ Look X.env s.heap m x u
  cell : ∀ x c, X.env.cells.lookup x = some c → ∃ v, s.heap.IsCell c v
  free : H X.env.locals = none
  freeC : ∀ x c, X.env.cells.lookup x = some c → H c = none
  pin : ∀ p ∈ X.pn ++ pins, s.heap.get? p.1 = some p.2 ∧ H p.1 = none ∧ p.1 ≠ X.env.locals ∧ p.1 ∉ X.fs ∧ ∀ v, p.2.data ≠ .cell v
  hok : HOk X.prog X.w H s.heap
  len : σ.length = X.N.length

section
variable {X : Cx} {pins : List (Addr × Obj)} {σ : List (Option V)} {H H' : Hp} {s : Shared} {h' : Heap}

theorem Cx.Ok.nofr (ok : X.Ok) {b : Addr} {o : Obj} (e : X.base.get? b = some o) : b ∉ X.fs := fun hb => by
  have := (ok.funs.mem hb).1
  rw [e] at this; cases this
theorem Inv.bs (I : Inv X pins σ H s) : ∀ b o, X.base.get? b = some o → s.heap.get? b = some o ∧ H b = none := fun b o e =>
  ⟨I.base.keep b o (I.ok.bs b o e).1 (I.ok.bs b o e).2 (I.ok.nofr e) (I.ok.noex b o e), I.base.free b o (I.ok.bs b o e).1 (I.ok.bs b o e).2 (I.ok.noex b o e)⟩
theorem Inv.bk (I : Inv X pins σ H s) : ∀ b o, X.base.get? b = some o → s.heap.get? b = some o := fun b o e => (I.bs b o e).1
theorem Inv.mod (I : Inv X pins σ H s) : Mod X.K X.mg X.base := I.ok.mod
theorem Inv.kIn (I : Inv X pins σ H s) : X.K.In s.heap := I.ok.mod.kin.keeps I.bk
theorem Inv.lt (I : Inv X pins σ H s) : X.env.locals < s.heap.objs.size := let ⟨_, hn, _⟩ := I.loc; hn.lt
theorem Inv.sz (I : Inv X pins σ H s) : X.s₀.heap.objs.size ≤ s.heap.objs.size := Nat.le_trans I.ok.above (Nat.le_of_lt I.lt)
theorem Inv.nofs (I : Inv X pins σ H s) {a : Addr} (h : s.heap.objs.size ≤ a) : a ∉ X.fs := fun hb => by
  obtain ⟨_, o, ho, _⟩ := I.ok.funs.mem hb
  exact absurd (Nat.lt_of_lt_of_le (Heap.lt_size ho) (Nat.le_trans I.sz h)) (Nat.lt_irrefl _)
theorem Inv.cne (I : Inv X pins σ H s) : ∀ x c, X.env.cells.lookup x = some c → c ≠ X.env.locals := fun x c e z => by
  obtain ⟨v, o, ho, hd⟩ := I.cell x c e
  obtain ⟨m, ⟨o', es, ep, ho', hd', _⟩, _⟩ := I.loc
  rw [z, ho'] at ho; cases ho; rw [hd'] at hd; cases hd
theorem Inv.funs (I : Inv X pins σ H s) : s.heap.FunFrames X.base X.outer := by
  have all : ∀ (l : List Env), (∀ b ∈ frs l, b ∈ X.fs) → X.s₀.heap.FunFrames X.base l → s.heap.FunFrames X.base l := by
    intro l
    induction l with
    | nil => intro _ _; trivial
    | cons env r ih =>
      intro hs hl
      obtain ⟨hk, ⟨L, o, hf, hn, ho, hd⟩, hr⟩ := hl
      have hL : L ∈ X.fs := hs L (by unfold frs; rw [List.filterMap_cons, hf]; exact List.mem_cons_self)
      obtain ⟨sl, e⟩ := I.base.slot L o ho (I.ok.frf L hL) hL fun z => I.ok.exfs L z hL
      exact ⟨hk, ⟨L, _, hf, hn, e, hd⟩, ih (fun b hb => hs b (by unfold frs; rw [List.filterMap_cons, hf]; exact List.mem_cons_of_mem _ hb)) hr⟩
  exact all X.outer (fun _ hb => hb) I.ok.funs

/-- the frames that run, for a call -/
theorem Inv.stack (I : Inv X pins σ H s) : s.heap.FunFrames X.base X.stack := by
  rcases I.ok.stk with e | ⟨e, hf⟩
  · rw [e]; exact I.funs
  · rw [e]
    obtain ⟨m, hn, _⟩ := I.loc
    refine .cons (by rw [I.ok.kind]; decide) hf hn ?_ I.funs
    exact Heap.get?_none_of_le (Nat.le_trans I.ok.bsz I.ok.above)
theorem Inv.stkSub (I : Inv X pins σ H s) : ∀ b ∈ frs X.stack, b ∈ X.env.locals :: X.fs := fun b hb => by
  rcases I.ok.stk with e | ⟨e, hf⟩
  · rw [e] at hb; exact List.mem_cons_of_mem _ hb
  · rw [e] at hb
    unfold frs at hb
    rw [List.filterMap_cons, hf] at hb
    exact hb
theorem Inv.stkFree (I : Inv X pins σ H s) : ∀ b ∈ frs X.stack, H b = none := fun b hb => by
  rcases List.mem_cons.mp (I.stkSub b hb) with e | hb
  · rw [e]; exact I.free
  · obtain ⟨_, o, ho, _⟩ := I.ok.funs.mem hb
    exact I.base.free b o ho (I.ok.frf b hb) fun z => I.ok.exfs b z hb

/-- THE STEP: the untracked objects but the frame and the records at ch are kept (the callers' frames up to slots), the frame's map is kept, the new abstract heap is held -/
theorem Inv.step {g' : Array GenState} {t' : Nat} {d' : Drawn} {ch : List Addr} (I : Inv X pins σ H s)
    (hch : ∀ b ∈ ch, (b ∈ X.ex ∨ X.s₀.heap.objs.size ≤ b) ∧ b ≠ X.env.locals ∧ (∀ x c, X.env.cells.lookup x = some c → c ≠ b) ∧ ∀ p ∈ X.pn ++ pins, p.1 ≠ b)
    (keep : ∀ b o, b ≠ X.env.locals → b ∉ X.fs → b ∉ ch → s.heap.get? b = some o → H b = none → h'.get? b = some o)
    (slot : ∀ b o, b ≠ X.env.locals → b ∈ X.fs → b ∉ ch → s.heap.get? b = some o → H b = none → ∃ sl, h'.get? b = some { o with slots := sl }) (free : ∀ b o, b ∉ ch → s.heap.get? b = some o → H b = none → H' b = none)
    (there : ∀ b o, b ∉ ch → s.heap.get? b = some o → ∃ o', h'.get? b = some o')
    (tups : ∀ b xs, H b = some (.tup xs) → H' b = some (.tup xs)) (frzs : ∀ b o u, H b = some (.frz o u) → H' b = some (.frz o u)) (tbls : ∀ b ps, H b = some (.tbl ps) → ∃ more, H' b = some (.tbl (ps ++ more)))
    (ns : ∀ m, s.heap.Ns X.env.locals m → h'.Ns X.env.locals m) (hok : HOk X.prog X.w H' h') (hg : AllBare g') :
    Inv X pins σ H' { s with heap := h', gens := g', drawn := d', toks := t' } := by
  have neL : ∀ b o, X.s₀.heap.get? b = some o → b ≠ X.env.locals := fun b o e => Nat.ne_of_lt (Nat.lt_of_lt_of_le (Heap.lt_size e) I.ok.above)
  have neC : ∀ b o, X.s₀.heap.get? b = some o → b ∉ X.ex → b ∉ ch := fun b o e hx hb => by
    rcases (hch b hb).1 with z | z
    · exact hx z
    · exact absurd (Nat.lt_of_lt_of_le (Heap.lt_size e) z) (Nat.lt_irrefl _)
  have cellK : ∀ x c, X.env.cells.lookup x = some c → ∀ v, s.heap.IsCell c v → h'.IsCell c v := fun x c e v ⟨o, ho, hd⟩ => by
    have nch : c ∉ ch := fun z => (hch c z).2.2.1 x c e rfl
    by_cases hc : c ∈ X.fs
    · obtain ⟨sl, q⟩ := slot c o (I.cne x c e) hc nch ho (I.freeC x c e)
      exact ⟨_, q, hd⟩
    · exact ⟨o, keep c o (I.cne x c e) hc nch ho (I.freeC x c e), hd⟩
  refine ⟨I.ok, I.os, hg, ⟨fun b o e n hb hx => ?_, fun b o e n hb hx => ?_, fun b o e n hx => ?_, fun b o e hx => ?_, fun b xs e => tups b xs (I.base.tups b xs e), fun b o xs e => frzs b o xs (I.base.frzs b o xs e), fun b ps e => ?_⟩, ?_, fun x c e => ?_, ?_, fun x c e => ?_, fun p hp => ?_, hok, I.len⟩
  · exact keep b o (neL b o e) hb (neC b o e hx) (I.base.keep b o e n hb hx) (I.base.free b o e n hx)
  · obtain ⟨sl, e1⟩ := I.base.slot b o e n hb hx
    obtain ⟨sl', e2⟩ := slot b _ (neL b o e) hb (neC b o e hx) e1 (I.base.free b o e n hx)
    exact ⟨sl', e2⟩
  · obtain ⟨o', e1⟩ := I.base.there b o e hx
    exact free b o' (neC b o e hx) e1 (I.base.free b o e n hx)
  · obtain ⟨o', e1⟩ := I.base.there b o e hx
    exact there b o' (neC b o e hx) e1
  · obtain ⟨m1, e1⟩ := I.base.tbls b ps e
    obtain ⟨m2, e2⟩ := tbls b _ e1
    exact ⟨m1 ++ m2, by rw [e2, Array.append_assoc]⟩
  · obtain ⟨m, hn, hl⟩ := I.loc
    refine ⟨m, ns m hn, fun i x v e1 e2 e3 => ?_⟩
    obtain ⟨u, r, l⟩ := hl i x v e1 e2 e3
    refine ⟨u, r, ?_⟩
    rcases l with l | ⟨k, c, e, z⟩
    · exact .inl l
    · exact .inr ⟨k, c, e, cellK x c e _ z⟩
  · obtain ⟨v, z⟩ := I.cell x c e
    exact ⟨v, cellK x c e v z⟩
  · obtain ⟨m, ⟨o, _, _, ho, _⟩, _⟩ := I.loc
    exact free _ o (fun z => (hch _ z).2.1 rfl) ho I.free
  · obtain ⟨v, o, ho, hd⟩ := I.cell x c e
    exact free c o (fun z => (hch c z).2.2.1 x c e rfl) ho (I.freeC x c e)
  · obtain ⟨e, n, ne, nf, d⟩ := I.pin p hp
    have nch : p.1 ∉ ch := fun z => (hch p.1 z).2.2.2 p hp rfl
    exact ⟨keep p.1 p.2 ne nf nch e n, free p.1 p.2 nch e n, ne, nf, d⟩
/-- .. where the frame's own object is kept too -/
theorem Inv.un {t' : Nat} (I : Inv X pins σ H s) (u : Un X.fs [] H H' s.heap h') (hok : HOk X.prog X.w H' h') : Inv X pins σ H' { s with heap := h', toks := t' } := by
  obtain ⟨m, ⟨o, es, ep, ho, r⟩, _⟩ := id I.loc
  obtain ⟨sl, hL⟩ := u.any ho I.free (by simp)
  exact I.step (g' := s.gens) (d' := s.drawn) (ch := []) (fun _ z => nomatch z) (fun b o _ hb _ e n => u.keep b o e n hb (by simp)) (fun b o _ hb _ e n => u.slot b o e n hb (by simp)) (fun b o _ e n => u.free b o e n (by simp)) (fun b o _ e => u.there b o e (by simp)) u.tups u.frzs u.tbls (fun m' hm => by
    obtain ⟨o', es', ep', ho', r'⟩ := hm
    rw [ho] at ho'; cases ho'
    exact ⟨_, es', ep', hL, r'⟩) hok I.bare
/-- behind a call (or a comprehension's block): the slots of this frame may have changed too, the records at ch may have turned -/
theorem Inv.call {g' : Array GenState} {t' : Nat} {d' : Drawn} {ch : List Addr} (I : Inv X pins σ H s) (u : Un (frs X.stack) ch H H' s.heap h') (hok : HOk X.prog X.w H' h') (hg : AllBare g')
    (hch : ∀ b ∈ ch, (b ∈ X.ex ∨ X.s₀.heap.objs.size ≤ b) ∧ b ≠ X.env.locals ∧ (∀ x c, X.env.cells.lookup x = some c → c ≠ b) ∧ ∀ p ∈ X.pn ++ pins, p.1 ≠ b) :
    Inv X pins σ H' { s with heap := h', gens := g', drawn := d', toks := t' } := by
  obtain ⟨m, ⟨o, es, ep, ho, r⟩, _⟩ := id I.loc
  obtain ⟨sl, hL⟩ := u.any ho I.free fun z => (hch _ z).2.1 rfl
  exact I.step (ch := ch) hch (fun b o hL hb hc e n => u.keep b o e n (fun z => (List.mem_cons.mp (I.stkSub b z)).elim hL hb) hc) (fun b o _ _ hc e n => u.any e n hc) (fun b o hc e n => u.free b o e n hc) (fun b o hc e => u.there b o e hc) u.tups u.frzs u.tbls (fun m' hm => by
    obtain ⟨o', es', ep', ho', r'⟩ := hm
    rw [ho] at ho'; cases ho'
    exact ⟨_, es', ep', hL, r'⟩) hok hg
/-- an untracked record of ours (an iterator) has turned -/
theorem Inv.turned {t' : Nat} {it : Addr} (I : Inv X pins σ H s) (k : ∀ b o, b ≠ it → s.heap.get? b = some o → h'.get? b = some o) (hn : H it = none) (hL : it ≠ X.env.locals)
    (h1 : it ∈ X.ex ∨ X.s₀.heap.objs.size ≤ it) (h2 : ∀ x c, X.env.cells.lookup x = some c → c ≠ it) (h3 : ∀ p ∈ X.pn ++ pins, p.1 ≠ it) : Inv X pins σ H { s with heap := h', toks := t' } := by
  have nit : ∀ b u, H b = some u → b ≠ it := fun b u e z => by rw [z, hn] at e; cases e
  refine I.step (g' := s.gens) (d' := s.drawn) (ch := [it]) (fun b hb => ?_) (fun b o _ _ hc e _ => k b o (fun z => hc (by simp [z])) e) (fun b o _ _ hc e _ => ⟨o.slots, k b o (fun z => hc (by simp [z])) e⟩) (fun _ _ _ _ n => n)
    (fun b o hc e => ⟨o, k b o (fun z => hc (by simp [z])) e⟩) (fun _ _ e => e) (fun _ _ _ e => e) (fun b ps e => ⟨#[], by rw [e]; simp⟩) (fun m hm => ?_) (fun b u e => ?_) I.bare
  · have e : b = it := by simpa using hb
    subst e
    exact ⟨h1, hL, h2, h3⟩
  · obtain ⟨o, es, ep, ho, r⟩ := hm
    exact ⟨o, es, ep, k _ o (Ne.symm hL) ho, r⟩
  · refine (I.hok b u e).stay (fun c v hc q => k c v ?_ q) (fun _ q => q) fun _ _ q => q
    rcases hc with z | z
    · rw [z]; exact nit b u e
    · exact nit c _ z
theorem Inv.tok (I : Inv X pins σ H s) (t : Nat) : Inv X pins σ H { s with toks := t } := I.un (h' := s.heap) (t' := t) Un.refl I.hok
/-- all objects kept -/
theorem Inv.kept {t' : Nat} (I : Inv X pins σ H s) (k : ∀ b u, s.heap.get? b = some u → h'.get? b = some u) : Inv X pins σ H { s with heap := h', toks := t' } := I.un (Un.kept k) (I.hok.kept k)
/-- a new object laid and tracked -/
theorem Inv.laid {a : Addr} {o : HO} {t' : Nat} (I : Inv X pins σ H s) (k : ∀ b u, s.heap.get? b = some u → h'.get? b = some u) (hp : s.heap.objs.size ≤ a) (new : ObjOk X.prog X.w (upd H a o) h' a o) :
    Inv X pins σ (upd H a o) { s with heap := h', toks := t' } := I.un (Un.laid k hp (I.hok.fresh hp)) (I.hok.laid k hp new)
/-- an object written -/
theorem Inv.write {x e : Addr} {o : HO} {t' : Nat} (I : Inv X pins σ H s) (mu : Mut (H x)) (he : e = x ∨ H e = some (.own x)) (k : ∀ b u, b ≠ e → s.heap.get? b = some u → h'.get? b = some u) (heo : ∃ u, h'.get? e = some u)
    (new : ObjOk X.prog X.w (upd H x o) h' x o) : Inv X pins σ (upd H x o) { s with heap := h', toks := t' } := I.un (Un.write mu he k heo) (I.hok.write mu he k heo new)
theorem Inv.pins_of {pins' : List (Addr × Obj)} (I : Inv X pins σ H s) (h : ∀ p ∈ pins', s.heap.get? p.1 = some p.2 ∧ H p.1 = none ∧ p.1 ≠ X.env.locals ∧ p.1 ∉ X.fs ∧ ∀ v, p.2.data ≠ .cell v) : Inv X pins' σ H s :=
  ⟨I.ok, I.os, I.bare, I.base, I.loc, I.cell, I.free, I.freeC, fun p hp => (List.mem_append.mp hp).elim (fun z => I.pin p (List.mem_append_left _ z)) (h p), I.hok, I.len⟩

theorem nodup_ix {N : List Str} (hN : N.Nodup) {i j : Nat} {x : Str} (a : N[i]? = some x) (b : N[j]? = some x) : i = j := by
  obtain ⟨h1, e1⟩ := List.getElem?_eq_some_iff.mp a
  obtain ⟨h2, e2⟩ := List.getElem?_eq_some_iff.mp b
  exact (List.getElem_inj hN).mp (e1.trans e2.symm)

/-- a name is stored; what changed -/
theorem store_ok2 {M : Model} {A : Around} {E : Value → Shared → Prop} {i : Nat} {x : Str} {v : V} {u : Value} {Q : Unit → Shared → Prop} (I : Inv X pins σ H s) (hN : X.N.Nodup) (hi : X.N[i]? = some x) (hx : Loc X.env.scope x) (r : RelV v u)
    (h : ∀ s', Inv X pins (σ.set i (some v)) H s' → (∃ a, Heap.SameBut a s.heap s'.heap ∧ (a = X.env.locals ∨ X.env.cells.lookup x = some a)) → Q () s') (hf : X.fn x = true ∨ X.env.scope.names.lookup x = some .local := by first | exact .inl rfl | exact .inr rfl | assumption) : wpAny M A (storeName X.env x u) Q E s := by
  obtain ⟨m, hn, hl⟩ := id I.loc
  have hcls : (X.env.scope.kind == .class || (X.env.scope.kind == .module && X.env.locals != X.env.globals)) = false := by rw [I.ok.kind]; rfl
  have hiσ : i < σ.length := by rw [I.len]; exact (List.getElem?_eq_some_iff.mp hi).1
  have cne := I.cne
  have tracked : ∀ {a : Addr} {h' : Heap}, (∃ o, s.heap.get? a = some o ∧ H a = none) → Heap.SameBut a s.heap h' → HOk X.prog X.w H h' := fun {a h'} ha hs b ob e => by
    obtain ⟨_, _, hfree⟩ := ha
    refine (I.hok b ob e).stay (fun c w' hc q => (hs.2 c ?_).trans q) (fun _ q => q) fun _ _ q => q
    rintro rfl
    rcases hc with rfl | hc
    · rw [hfree] at e; cases e
    · rw [hfree] at hc; cases hc
  rcases hx with hk | hk
  · refine wpAny_storeName_local hk hn (fun h' hn' hs => ?_) hcls
    obtain ⟨oL, _, _, hoL, _⟩ := id hn
    refine h _ ⟨I.ok, I.os, I.bare, ⟨fun b o e n hb hx => ?_, fun b o e n hb hx => ?_, I.base.free, fun b o e hx => ?_, I.base.tups, I.base.frzs, I.base.tbls⟩, ⟨_, hn', fun j y v' e1 e2 e3 => ?_⟩, fun y c e => ?_, I.free, I.freeC, fun p hp => ?_, tracked ⟨oL, hoL, I.free⟩ hs, by simpa using I.len⟩ ⟨_, hs, .inl rfl⟩
    · exact (hs.2 b (Nat.ne_of_lt (Nat.lt_of_lt_of_le (Heap.lt_size e) I.ok.above))).trans (I.base.keep b o e n hb hx)
    · obtain ⟨sl, e1⟩ := I.base.slot b o e n hb hx
      exact ⟨sl, (hs.2 b (Nat.ne_of_lt (Nat.lt_of_lt_of_le (Heap.lt_size e) I.ok.above))).trans e1⟩
    · obtain ⟨o', e1⟩ := I.base.there b o e hx
      exact ⟨o', (hs.2 b (Nat.ne_of_lt (Nat.lt_of_lt_of_le (Heap.lt_size e) I.ok.above))).trans e1⟩
    · by_cases hj : j = i
      · subst hj
        rw [hi] at e1; cases e1
        rw [List.getElem?_set_self hiσ] at e2
        cases e2
        exact ⟨u, r, .inl ⟨hk, by simp⟩⟩
      · rw [List.getElem?_set_ne (Ne.symm hj)] at e2
        obtain ⟨u', r', q⟩ := hl j y v' e1 e2 e3
        refine ⟨u', r', ?_⟩
        rcases q with ⟨k, e⟩ | ⟨k, c, e, z⟩
        · refine .inl ⟨k, ?_⟩
          have : y ≠ x := fun e => hj (nodup_ix hN e1 (e ▸ hi))
          simp [this, e]
        · exact .inr ⟨k, c, e, z.sameBut hs (cne y c e)⟩
    · obtain ⟨w', z⟩ := I.cell y c e
      exact ⟨w', z.sameBut hs (cne y c e)⟩
    · obtain ⟨e, n, ne, nf, d⟩ := I.pin p hp
      exact ⟨(hs.2 p.1 ne).trans e, n, ne, nf, d⟩
  · have hfn : X.fn x = true := by
      rcases hf with z | z
      · exact z
      · rw [z] at hk; cases hk
    obtain ⟨c, hc⟩ := I.ok.has x (.inl hk)
    obtain ⟨w', z⟩ := I.cell x c hc
    refine wpAny_storeName_cell I.ok.kind hk hc z (fun h' hc' hs => ?_)
    obtain ⟨oc, hoc, hocd⟩ := id z
    refine h { s with heap := h' } ⟨I.ok, I.os, I.bare, ⟨fun b o e n hb hx => ?_, fun b o e n hb hx => ?_, I.base.free, fun b o e hx => ?_, I.base.tups, I.base.frzs, I.base.tbls⟩, ⟨m, hn.sameBut hs (Ne.symm (cne x c hc)), fun j y v' e1 e2 e3 => ?_⟩, fun y c' e => ?_, I.free, I.freeC, fun p hp => ?_, tracked ⟨oc, hoc, I.freeC x c hc⟩ hs, by simpa using I.len⟩ ⟨c, hs, .inr hc⟩
    · exact (hs.2 b (Nat.ne_of_lt (Nat.lt_of_lt_of_le (Heap.lt_size e) (I.ok.cab x c hfn hc)))).trans (I.base.keep b o e n hb hx)
    · obtain ⟨sl, e1⟩ := I.base.slot b o e n hb hx
      exact ⟨sl, (hs.2 b (Nat.ne_of_lt (Nat.lt_of_lt_of_le (Heap.lt_size e) (I.ok.cab x c hfn hc)))).trans e1⟩
    · obtain ⟨o', e1⟩ := I.base.there b o e hx
      exact ⟨o', (hs.2 b (Nat.ne_of_lt (Nat.lt_of_lt_of_le (Heap.lt_size e) (I.ok.cab x c hfn hc)))).trans e1⟩
    · by_cases hj : j = i
      · subst hj
        rw [hi] at e1; cases e1
        rw [List.getElem?_set_self hiσ] at e2
        cases e2
        exact ⟨u, r, .inr ⟨.inl hk, c, hc, hc'⟩⟩
      · rw [List.getElem?_set_ne (Ne.symm hj)] at e2
        obtain ⟨u', r', q⟩ := hl j y v' e1 e2 e3
        refine ⟨u', r', ?_⟩
        rcases q with q | ⟨k, c', e, z'⟩
        · exact .inl q
        · refine .inr ⟨k, c', e, z'.sameBut hs ?_⟩
          rintro rfl
          exact hj (nodup_ix hN e1 (I.ok.inj _ _ _ e hc ▸ hi))
    · by_cases hcc : c' = c
      · subst hcc; exact ⟨_, hc'⟩
      · obtain ⟨w2, z2⟩ := I.cell y c' e
        exact ⟨w2, z2.sameBut hs hcc⟩
    · obtain ⟨e, n, ne, nf, d⟩ := I.pin p hp
      refine ⟨(hs.2 p.1 ?_).trans e, n, ne, nf, d⟩
      intro q
      rw [q, hoc] at e
      have q' : oc = p.2 := Option.some.inj e
      exact d w' (by rw [← q']; exact hocd)
theorem store_ok {M : Model} {A : Around} {E : Value → Shared → Prop} {i : Nat} {x : Str} {v : V} {u : Value} {Q : Unit → Shared → Prop} (I : Inv X pins σ H s) (hN : X.N.Nodup) (hi : X.N[i]? = some x) (hx : Loc X.env.scope x) (r : RelV v u)
    (h : ∀ s', Inv X pins (σ.set i (some v)) H s' → Q () s') (hf : X.fn x = true ∨ X.env.scope.names.lookup x = some .local := by first | exact .inl rfl | exact .inr rfl | assumption) : wpAny M A (storeName X.env x u) Q E s :=
  store_ok2 I hN hi hx r (fun s' I' _ => h s' I') hf
/-- behind a call or a block, the state as it is -/
theorem Inv.call' {s' : Shared} {ch : List Addr} (I : Inv X pins σ H s) (ho : s'.os = s.os) (u : Un (frs X.stack) ch H H' s.heap s'.heap) (hok : HOk X.prog X.w H' s'.heap) (hg : AllBare s'.gens)
    (hch : ∀ b ∈ ch, (b ∈ X.ex ∨ X.s₀.heap.objs.size ≤ b) ∧ b ≠ X.env.locals ∧ (∀ x c, X.env.cells.lookup x = some c → c ≠ b) ∧ ∀ p ∈ X.pn ++ pins, p.1 ≠ b) : Inv X pins σ H' s' := by
  obtain ⟨h', g', d', t', o'⟩ := s'
  have e : o' = s.os := ho
  subst e
  exact I.call (g' := g') (t' := t') (d' := d') u hok hg hch
end

/-! ### the judgements -/
/-- an exception: its class, its own dict's address (where it has one), the abstract heap behind it -/
abbrev XK := Value → Option Addr → Hp → Prop
abbrev St := List (Option V)
abbrev VK := V → Hp → Prop
/-- an expression's reading; a test's; an argument list's -/
abbrev TE := St → Hp → VK → Prop
abbrev TT := St → Hp → (Bool → Hp → Prop) → Prop
abbrev TA := St → Hp → (List V → Hp → Prop) → Prop
/-- what is wanted behind a statement -/
structure Ends where
  nx : St → Hp → Prop
  rt : VK
  bk : St → Hp → Prop := fun _ _ => False
  ct : St → Hp → Prop := fun _ _ => False
abbrev TS := Ends → St → Hp → Prop

def EP (X : Cx) (pins : List (Addr × Obj)) (σ : St) (Q : VK) (u : Value) (s' : Shared) : Prop := ∃ v H', Inv X pins σ H' s' ∧ RelV v u ∧ Q v H'
def TP (X : Cx) (pins : List (Addr × Obj)) (σ : St) (Q : Bool → Hp → Prop) (b : Bool) (s' : Shared) : Prop := ∃ H', Inv X pins σ H' s' ∧ Q b H'
def AP (X : Cx) (pins : List (Addr × Obj)) (σ : St) (Q : List V → Hp → Prop) (us : List Value) (s' : Shared) : Prop := ∃ vs H', Inv X pins σ H' s' ∧ Vals vs us ∧ Q vs H'
def SP (X : Cx) (pins : List (Addr × Obj)) (D : Ends) (f : Flow) (s' : Shared) : Prop :=
  match f with
  | .next => ∃ σ' H', Inv X pins σ' H' s' ∧ D.nx σ' H'
  | .brk => ∃ σ' H', Inv X pins σ' H' s' ∧ D.bk σ' H'
  | .cont => ∃ σ' H', Inv X pins σ' H' s' ∧ D.ct σ' H'
  | .ret u => ∃ v σ' H', Inv X pins σ' H' s' ∧ RelV v u ∧ D.rt v H'

def PE (X : Cx) (e : Expr) (t : TE) : Prop :=
  ∀ (pins : List (Addr × Obj)) (s : Shared) (σ : St) (H : Hp) (Q : VK), Inv X pins σ H s → t σ H Q → wpAny (model X.prog X.w) X.A (eval e X.env) (EP X pins σ Q) X.xe s
def PT (X : Cx) (e : Expr) (t : TT) : Prop :=
  ∀ (pins : List (Addr × Obj)) (s : Shared) (σ : St) (H : Hp) (Q : Bool → Hp → Prop), Inv X pins σ H s → t σ H Q → wpAny (model X.prog X.w) X.A (isTrue e X.env (eval e X.env)) (TP X pins σ Q) X.xe s
/-- a test whatever its 'whole' is (and, or) -/
def PW (X : Cx) (e : Expr) (t : TT) : Prop :=
  ∀ (whole : Sem Value) (pins : List (Addr × Obj)) (s : Shared) (σ : St) (H : Hp) (Q : Bool → Hp → Prop), Inv X pins σ H s → t σ H Q → wpAny (model X.prog X.w) X.A (isTrue e X.env whole) (TP X pins σ Q) X.xe s
theorem PW.pt {X : Cx} {e : Expr} {t : TT} (h : PW X e t) : PT X e t := h _
/-- an argument list (no star), from the left -/
def PA (X : Cx) (es : List Expr) (t : TA) : Prop :=
  ∀ (pos : Pos) (pins : List (Addr × Obj)) (s : Shared) (σ : St) (H : Hp) (Q : List V → Hp → Prop), Inv X pins σ H s → t σ H Q → wpAny (model X.prog X.w) X.A (spliced (backTo pos (starEach es X.env))) (AP X pins σ Q) X.xe s
def PS (X : Cx) (st : Stmt) (t : TS) : Prop :=
  ∀ (pins : List (Addr × Obj)) (s : Shared) (σ : St) (H : Hp) (D : Ends), Inv X pins σ H s → t D σ H → wpAny (model X.prog X.w) X.A (exec st X.env) (SP X pins D) X.xe s
def PSs (X : Cx) (st : List Stmt) (t : TS) : Prop :=
  ∀ (pins : List (Addr × Obj)) (s : Shared) (σ : St) (H : Hp) (D : Ends), Inv X pins σ H s → t D σ H → wpAny (model X.prog X.w) X.A (execs st X.env) (SP X pins D) X.xe s
/-- weaken the end -/
theorem thn {α : Type} {t : Sem α} {Q Q' : α → Shared → Prop} {M : Model} {A : Around} {E : Value → Shared → Prop} {s : Shared} (h : wpAny M A t Q E s) (hQ : ∀ a s, Q a s → Q' a s) : wpAny M A t Q' E s := wpAny_mono h hQ fun _ _ x => x
end L2

namespace L2
open PySem PySem.Spec PyProof.Rows
section
variable {X : Cx}

/-! ### names and constants -/
def tVar (i : Nat) : TE := fun σ H Q => ∃ v, σ[i]? = some (some v) ∧ Q v H
def tC (v : V) : TE := fun _ H Q => Q v H
theorem pe_var {i : Nat} {x : Str} {pos : Pos} (hN : X.N[i]? = some x) (hv : Vis X.env.scope x) (hd : (x == ("__debug__" : Str)) = false := by decide) (hcd : (x == ("__classdict__" : Str)) = false := by decide) : PE X (.Name x pos) (tVar i) := by
  intro pins s σ H Q I h
  obtain ⟨v, e, h⟩ := h
  obtain ⟨m, hn, hl⟩ := I.loc
  obtain ⟨u, r, l⟩ := hl i x v hN e hv
  have fin : EP X pins σ Q u s := ⟨v, H, I, r, h⟩
  rcases l with ⟨hk, hm⟩ | ⟨hk, c, hc, hcell⟩
  · exact wpAny_Name (wpAny_loadName_local I.ok.kind hk hn hm fin) hd
  · rcases hk with hk | hk
    · exact wpAny_Name (wpAny_loadName_cell I.ok.kind hk hc hcell fin) hd
    · exact wpAny_Name (wpAny_loadName_free I.ok.kind hk hc hcell fin hcd) hd
theorem pe_int {i j pos} : PE X (.Constant (.int i) j pos) (tC (.int i)) := fun _ _ _ H _ I h => wpAny_Constant_int ⟨.int i, H, I.tok _, ⟨_, rfl⟩, h⟩
theorem pe_bl {b j pos} : PE X (.Constant (.bool b) j pos) (tC (.bl b)) := fun _ _ _ H _ I h => Constant_bool ⟨.bl b, H, I, rfl, h⟩
theorem pe_str {x j pos} : PE X (.Constant (.str x) j pos) (tC (.str x)) := fun _ _ _ H _ I h => Calls.Constant_str ⟨.str x, H, I.tok _, ⟨_, rfl⟩, h⟩

/-- a global name of the def -/
def Gl (X : Cx) (x : Str) : Prop := X.env.kindOf x = some .globalImplicit
theorem ld_glob {E : Value → Shared → Prop} {pins : List (Addr × Obj)} {s : Shared} {σ : St} {H : Hp} {x : Str} {u : Value} {pos : Pos} {Q : Value → Shared → Prop} (I : Inv X pins σ H s) (hg : Gl X x) (hm : X.mg x = some u) (h : Q u s)
    (hd : (x == ("__debug__" : Str)) = false := by decide) : wpAny (model X.prog X.w) X.A (eval (.Name x pos) X.env) Q E s :=
  Calls.Name_function_global I.ok.kind hg (Calls.loadGlobal_global (by rw [I.ok.glob]; exact I.mod.glob.keeps I.bk) hm h) hd
theorem ld_blt {E : Value → Shared → Prop} {pins : List (Addr × Obj)} {s : Shared} {σ : St} {H : Hp} {x : Str} {u : Value} {pos : Pos} {Q : Value → Shared → Prop} (I : Inv X pins σ H s) (hg : Gl X x) (hm : X.mg x = none) (hv : bootBuiltins x = some u) (h : Q u s)
    (hn : x ≠ "__name__" := by decide) (hd : (x == ("__debug__" : Str)) = false := by decide) : wpAny (model X.prog X.w) X.A (eval (.Name x pos) X.env) Q E s := by
  obtain ⟨mb, h1, h2⟩ := I.mod.blt
  exact Calls.Name_function_global I.ok.kind hg (Calls.loadGlobal_builtin (by rw [I.ok.glob]; exact I.mod.glob.keeps I.bk) hm (by rw [I.ok.blt]; exact h1.keeps I.bk) ((h2 x hn).trans hv) h) hd
/-- a module's constant, a class, a function, as a value -/
theorem pe_glob {x : Str} {v : V} {u : Value} {pos : Pos} (hg : Gl X x) (hm : X.mg x = some u) (r : RelV v u) (hd : (x == ("__debug__" : Str)) = false := by decide) : PE X (.Name x pos) (tC v) :=
  fun _ _ _ H _ I h => ld_glob I hg hm ⟨v, H, I, r, h⟩ hd
theorem pe_bltn {x : Str} {v : V} {u : Value} {pos : Pos} (hg : Gl X x) (hm : X.mg x = none) (hv : bootBuiltins x = some u) (r : RelV v u) (hn : x ≠ "__name__" := by decide) (hd : (x == ("__debug__" : Str)) = false := by decide) : PE X (.Name x pos) (tC v) :=
  fun _ _ _ H _ I h => ld_blt I hg hm hv ⟨v, H, I, r, h⟩ hn hd

/-! ### arithmetic -/
variable {a b : Expr} {ta tb : TE} {pos : Pos}
/-! ### comparisons -/
def PC (X : Cx) (op : CmpOp) (a b : Expr) (t : TE) : Prop :=
  ∀ (pins : List (Addr × Obj)) (s : Shared) (σ : St) (H : Hp) (Q : VK), Inv X pins σ H s → t σ H Q →
    wpAny (model X.prog X.w) X.A (eval a X.env) (fun v s₁ => wpAny (model X.prog X.w) X.A (eval b X.env) (fun u s₂ => wpAny (model X.prog X.w) X.A (compareOp op v u) (EP X pins σ Q) X.xe s₂) X.xe s₁) X.xe s
/-- a comparison as a value, as a test -/
def tB (t : TE) : TT := fun σ H Q => t σ H fun x H1 => ∃ c, x = .bl c ∧ Q c H1
theorem pt_cmp {op : CmpOp} {t : TE} (h : PC X op a b t) (h1 : behindInMarks op b = false := by first | exact nobehind _ (by decide) (by decide) | rfl) : PT X (.Compare a [op] [b] pos) (tB t) := by
  intro pins s σ H Q I hw
  refine wpAny_isTrue_Compare1 (thn (h pins s σ H _ I hw) fun v s1 h1 => thn h1 fun u s2 h2 => thn h2 fun c s3 ⟨x, H1, I1, r1, q1⟩ => ?_) h1
  obtain ⟨d, rfl, q⟩ := q1
  cases r1
  exact wpAny_truthy_bool ⟨H1, I1, q⟩
/-! ### and, or, not -/
variable {tA tB' : TT} {rest : List Expr}
def tAnd (t u : TT) : TT := fun σ H Q => t σ H fun c H1 => if c = true then u σ H1 Q else Q false H1
def tOr (t u : TT) : TT := fun σ H Q => t σ H fun c H1 => if c = true then Q true H1 else u σ H1 Q
def tNot (t : TT) : TT := fun σ H Q => t σ H fun c H1 => Q (!c) H1
theorem pw_and1 (ha : PT X a tA) : PW X (.BoolOp .And [a] pos) tA := by
  intro wh pins s σ H Q I h
  refine isTrue_and (thn (ha pins s σ H Q I h) fun c s1 e => ?_)
  cases c with
  | true => exact isTrue_and_nil e
  | false => exact e
theorem pw_or1 (ha : PT X a tA) : PW X (.BoolOp .Or [a] pos) tA := by
  intro wh pins s σ H Q I h
  refine isTrue_or (thn (ha pins s σ H Q I h) fun c s1 e => ?_)
  cases c with
  | false => exact isTrue_or_nil e
  | true => exact e
theorem pw_and (ha : PT X a tA) (hb : PW X (.BoolOp .And (b :: rest) pos) tB') : PW X (.BoolOp .And (a :: b :: rest) pos) (tAnd tA tB') := by
  intro wh pins s σ H Q I h
  refine isTrue_and (thn (ha pins s σ H _ I h) fun c s1 ⟨H1, I1, q1⟩ => ?_)
  cases c with
  | true => exact hb wh pins s1 σ H1 Q I1 q1
  | false => exact ⟨H1, I1, q1⟩
theorem pw_or (ha : PT X a tA) (hb : PW X (.BoolOp .Or (b :: rest) pos) tB') : PW X (.BoolOp .Or (a :: b :: rest) pos) (tOr tA tB') := by
  intro wh pins s σ H Q I h
  refine isTrue_or (thn (ha pins s σ H _ I h) fun c s1 ⟨H1, I1, q1⟩ => ?_)
  cases c with
  | true => exact ⟨H1, I1, q1⟩
  | false => exact hb wh pins s1 σ H1 Q I1 q1
theorem pt_not (ha : PT X a tA) : PT X (.UnaryOp .Not a pos) (tNot tA) := by
  intro pins s σ H Q I h
  exact isTrue_not (ha pins s σ H (fun c H1 => Q (!c) H1) I h)
/-- .. as values (bools) -/
def tAndV (ta tb : TE) : TE := fun σ H Q => ta σ H fun x H1 => ∃ c, x = .bl c ∧ if c = true then tb σ H1 Q else Q (.bl false) H1
theorem pe_one {op} {t : TE} (h : PE X a t) : PE X (.BoolOp op [a] pos) t := fun pins s σ H Q I hw => BoolOp_one (h pins s σ H Q I hw)
theorem pe_and (ha : PE X a ta) (hb : PE X (.BoolOp .And (b :: rest) pos) tb) : PE X (.BoolOp .And (a :: b :: rest) pos) (tAndV ta tb) := by
  intro pins s σ H Q I h
  refine BoolOp_and (thn (ha pins s σ H _ I h) fun v s1 ⟨x, H1, I1, r1, q1⟩ => ?_)
  obtain ⟨c, rfl, q1⟩ := q1
  cases r1
  refine wpAny_truthy_bool ?_
  cases c with
  | true => exact hb pins s1 σ H1 Q I1 q1
  | false => exact ⟨.bl false, H1, I1, rfl, q1⟩
/-- a if t else b -/
def tIf (t : TT) (ta tb : TE) : TE := fun σ H Q => t σ H fun c H1 => if c = true then ta σ H1 Q else tb σ H1 Q
theorem pe_ifExp {c : Expr} (hc : PT X c tA) (ha : PE X a ta) (hb : PE X b tb) : PE X (.IfExp c a b pos) (tIf tA ta tb) := by
  intro pins s σ H Q I h
  refine wpAny_IfExp (thn (hc pins s σ H _ I h) fun d s1 ⟨H1, I1, q1⟩ => ?_)
  cases d with
  | true => exact ha pins s1 σ H1 Q I1 q1
  | false => exact hb pins s1 σ H1 Q I1 q1
end
end L2

namespace L2
open PySem PySem.Spec PyProof.Rows

/-! ### a list, a tuple that is read: tracked, frozen, or an object of the module -/
def SqL (K : PySem.W.Frag) (H : Hp) (a : Addr) (xs : List V) : Prop :=
  Rd H a (.lst xs) ∨
    ∃ (o : Obj) (its : Array Value) (n : Nat), K.lookup a = some o ∧ o.cls = .type "list" ∧ o.dict = none ∧ o.data = .seq its n ∧ its.size ≤ sizeLine ∧ Vals xs its.toList
def SqT (K : PySem.W.Frag) (H : Hp) (a : Addr) (xs : List V) : Prop :=
  Rd H a (.tup xs) ∨
    ∃ (o : Obj) (its : Array Value) (n : Nat), K.lookup a = some o ∧ o.cls = .type "tuple" ∧ o.data = .seq its n ∧ its.size ≤ sizeLine ∧ Vals xs its.toList
def absV : Value → Option V
  | .none => some .non
  | .bool b => some (.bl b)
  | .int i _ => some (.int i)
  | .str x _ => some (.str x)
  | .bytes b _ => some (.byt b)
  | .float b _ => some (.flt b)
  | .ref a => some (.ref a)
  | .type n => some (.ty n)
  | _ => none
theorem RelV.abs {x : V} {u : Value} (r : RelV x u) : absV u = some x := by
  cases x with
  | non => cases r; rfl
  | bl _ => cases r; rfl
  | int _ => obtain ⟨t, rfl⟩ := r; rfl
  | str _ => obtain ⟨t, rfl⟩ := r; rfl
  | byt _ => obtain ⟨t, rfl⟩ := r; rfl
  | flt _ => obtain ⟨t, rfl⟩ := r; rfl
  | ref _ => cases r; rfl
  | ty _ => cases r; rfl
theorem RelV.inj {x y : V} {u : Value} (r : RelV x u) (q : RelV y u) : x = y := Option.some.inj (r.abs.symm.trans q.abs)
theorem Vals.inj : ∀ {xs ys : List V} {us : List Value}, Vals xs us → Vals ys us → xs = ys
  | _, _, _, .nil, .nil => rfl
  | _, _, _, .cons r t, .cons r' t' => by rw [r.inj r', Vals.inj t t']
section
variable {X : Cx} {pins : List (Addr × Obj)} {σ : St} {H : Hp} {s : Shared} {a : Addr} {xs ys : List V}
theorem SqL.of {K : PySem.W.Frag} (h : H a = some (.lst xs)) : SqL K H a xs := .inl (.inl h)
theorem SqT.of {K : PySem.W.Frag} (h : H a = some (.tup xs)) : SqT K H a xs := .inl (.inl h)
theorem Inv.list (I : Inv X pins σ H s) (h : SqL X.K H a xs) : ∃ its : List Value, Vals xs its ∧ PlainL s.heap a its.toArray ∧ xs.length ≤ sizeLine := by
  rcases h with h | ⟨o, its, n, hk, hc, hd, hs, hz, r⟩
  · obtain ⟨z, its, n, r, e⟩ := h.ok I.hok
    exact ⟨its, r, ⟨_, n, e, rfl, rfl, rfl⟩, z⟩
  · refine ⟨its.toList, r, ⟨o, n, I.kIn a o hk, hc, hd, by simpa using hs⟩, ?_⟩
    have e := r.length
    simp only [Array.length_toList] at e
    (first | lia | omega)
theorem Inv.tuple (I : Inv X pins σ H s) (h : SqT X.K H a xs) : ∃ its : List Value, Vals xs its ∧ IsTup s.heap a its.toArray ∧ xs.length ≤ sizeLine := by
  rcases h with h | ⟨o, its, n, hk, hc, hs, hz, r⟩
  · obtain ⟨z, its, r, p⟩ := h.ok I.hok
    exact ⟨its, r, p, z⟩
  · refine ⟨its.toList, r, ⟨o, I.kIn a o hk, hc, n, by simpa using hs⟩, ?_⟩
    have e := r.length
    simp only [Array.length_toList] at e
    (first | lia | omega)
theorem Inv.list_inj (I : Inv X pins σ H s) (h : SqL X.K H a xs) (h' : SqL X.K H a ys) : xs = ys := by
  obtain ⟨its, r, ⟨o, n, e, _, _, d⟩, _⟩ := I.list h
  obtain ⟨its', r', ⟨o', n', e', _, _, d'⟩, _⟩ := I.list h'
  rw [e] at e'; cases e'
  rw [d] at d'
  injection d' with d1 _
  have : its = its' := by simpa using congrArg Array.toList d1
  subst this
  exact r.inj r'
theorem Inv.tuple_inj (I : Inv X pins σ H s) (h : SqT X.K H a xs) (h' : SqT X.K H a ys) : xs = ys := by
  obtain ⟨its, r, ⟨o, e, _, n, d⟩, _⟩ := I.tuple h
  obtain ⟨its', r', ⟨o', e', _, n', d'⟩, _⟩ := I.tuple h'
  rw [e] at e'; cases e'
  rw [d] at d'
  injection d' with d1 _
  have : its = its' := by simpa using congrArg Array.toList d1
  subst this
  exact r.inj r'
end

/-! ### another wish about exceptions -/
abbrev Cx.wish (X : Cx) (E : Value → Shared → Prop) : Cx := { X with xe := E }
/-- no exception leaves -/
abbrev Cx.nox (X : Cx) : Cx := X.wish fun _ _ => False
theorem Cx.Ok.wish {X : Cx} (ok : X.Ok) (E : Value → Shared → Prop) : (X.wish E).Ok :=
  ⟨ok.mod, ok.kind, ok.glob, ok.blt, ok.above, ok.inj, ok.has, ok.cab, ok.hd, ok.frames, ok.stk, ok.exf, ok.bs, ok.bsz, ok.noex, ok.exfs, ok.funs, ok.frf⟩
theorem Cx.Ok.unwish {X : Cx} {E : Value → Shared → Prop} (ok : (X.wish E).Ok) : X.Ok :=
  ⟨ok.mod, ok.kind, ok.glob, ok.blt, ok.above, ok.inj, ok.has, ok.cab, ok.hd, ok.frames, ok.stk, ok.exf, ok.bs, ok.bsz, ok.noex, ok.exfs, ok.funs, ok.frf⟩
section
variable {X : Cx} {pins : List (Addr × Obj)} {σ : St} {H : Hp} {s : Shared} {E : Value → Shared → Prop}
theorem Inv.wish (I : Inv X pins σ H s) (E : Value → Shared → Prop) : Inv (X.wish E) pins σ H s := ⟨I.ok.wish E, I.os, I.bare, I.base, I.loc, I.cell, I.free, I.freeC, I.pin, I.hok, I.len⟩
theorem Inv.unwish (I : Inv (X.wish E) pins σ H s) : Inv X pins σ H s := ⟨I.ok.unwish, I.os, I.bare, I.base, I.loc, I.cell, I.free, I.freeC, I.pin, I.hok, I.len⟩
theorem SP.unwish {D : Ends} {f : Flow} {s' : Shared} (h : SP (X.wish E) pins D f s') : SP X pins D f s' := by
  cases f with
  | next => obtain ⟨σ', H', I, q⟩ := h; exact ⟨σ', H', I.unwish, q⟩
  | brk => obtain ⟨σ', H', I, q⟩ := h; exact ⟨σ', H', I.unwish, q⟩
  | cont => obtain ⟨σ', H', I, q⟩ := h; exact ⟨σ', H', I.unwish, q⟩
  | ret u => obtain ⟨v, σ', H', I, r, q⟩ := h; exact ⟨v, σ', H', I.unwish, r, q⟩
theorem PSs.nox {st : List Stmt} {t : TS} (h : PSs X.nox st t) : PSs X st t := fun pins s σ H D I hw =>
  wpAny_mono (h pins s σ H D (I.wish _) hw) (fun _ _ q => q.unwish) fun _ _ z => False.elim z
end

/-! ### blocks and small statements -/
section
variable {X : Cx} {st : Stmt} {rest : List Stmt} {t u : TS} {e : Expr} {te : TE} {pos : Pos}
def tNext : TS := fun D σ H => D.nx σ H
def tSeq (t u : TS) : TS := fun D σ H => t { D with nx := u D } σ H
theorem pss_nil : PSs X [] tNext := fun _ _ σ H _ I h => wpAny_execs_nil ⟨σ, H, I, h⟩
theorem pss_cons (h1 : PS X st t) (h2 : PSs X rest u) : PSs X (st :: rest) (tSeq t u) := by
  intro pins s σ H D I h
  refine wpAny_execs_cons (thn (h1 pins s σ H { D with nx := u D } I h) fun f s1 q => ?_)
  cases f with
  | next =>
    obtain ⟨σ', H', I', q⟩ := q
    exact h2 pins s1 σ' H' D I' q
  | ret v => exact q
  | brk => exact q
  | cont => exact q
theorem pss_one (h1 : PS X st t) : PSs X [st] t := by
  intro pins s σ H D I h
  refine wpAny_execs_cons (thn (h1 pins s σ H D I h) fun f s1 q => ?_)
  cases f with
  | next => exact wpAny_execs_nil q
  | ret v => exact q
  | brk => exact q
  | cont => exact q
/-- in a def's body nothing is shown -/
theorem Inv.quiet {pins : List (Addr × Obj)} {σ : St} {H : Hp} {s : Shared} (I : Inv X pins σ H s) : interactive X.env = false := by simp [interactive, I.ok.kind]
/-- an expression whose value is dropped -/
def tDrop (te : TE) : TS := fun D σ H => te σ H fun _ H1 => D.nx σ H1
theorem ps_expr (he : PE X e te) (hs : swapsWith e none pos.line X.env = pure false := by rfl) : PS X (.Expr e pos) (tDrop te) := by
  intro pins s σ H D I h
  exact wpAny_Expr_any (thn (he pins s σ H _ I h) fun v s1 ⟨x, H1, I1, r1, q1⟩ => ⟨σ, H1, I1, q1⟩) I.quiet hs
def tRet (te : TE) : TS := fun D σ H => te σ H D.rt
theorem ps_ret (he : PE X e te) : PS X (.Return (some e) pos) (tRet te) := by
  intro pins s σ H D I h
  exact wpAny_Return_some (thn (he pins s σ H _ I h) fun v s1 ⟨x, H1, I1, r1, q1⟩ => ⟨x, σ, H1, I1, r1, q1⟩)
def tIfS (c : TT) (t u : TS) : TS := fun D σ H => c σ H fun b H1 => if b = true then t D σ H1 else u D σ H1
theorem ps_if {c : Expr} {a b : List Stmt} {tc : TT} (hc : PT X c tc) (ha : PSs X a t) (hb : PSs X b u) : PS X (.If c a b pos) (tIfS tc t u) := by
  intro pins s σ H D I h
  refine wpAny_If (thn (hc pins s σ H _ I h) fun d s1 ⟨H1, I1, q1⟩ => ?_)
  cases d with
  | true => exact ha pins s1 σ H1 D I1 q1
  | false => exact hb pins s1 σ H1 D I1 q1
/-- code that the proof never comes to -/
def tNever : TS := fun _ _ _ => False
theorem ps_never : PS X st tNever := fun _ _ _ _ _ _ h => h.elim
end

/-! ### targets -/
abbrev TG := V → St → Hp → (St → Hp → Prop) → Prop
abbrev TGs := List V → St → Hp → (St → Hp → Prop) → Prop
def PG (X : Cx) (target : Expr) (t : TG) : Prop :=
  ∀ (pins : List (Addr × Obj)) (s : Shared) (σ : St) (H : Hp) (v : V) (u : Value) (Q : St → Hp → Prop), Inv X pins σ H s → RelV v u → t v σ H Q →
    wpAny (model X.prog X.w) X.A (assign target X.env u) (fun _ s' => ∃ σ' H', Inv X pins σ' H' s' ∧ Q σ' H') X.xe s
/-- several targets, one after another -/
def PGs (X : Cx) (ts : List Expr) (t : TGs) : Prop :=
  ∀ (pins : List (Addr × Obj)) (s : Shared) (σ : St) (H : Hp) (vs : List V) (us : List Value) (Q : St → Hp → Prop), Inv X pins σ H s → Vals vs us → t vs σ H Q →
    wpAny (model X.prog X.w) X.A (assignInOrder ((assignEach ts X.env).map (·.2)) us) (fun _ s' => ∃ σ' H', Inv X pins σ' H' s' ∧ Q σ' H') X.xe s
/-- o[i] = v, by values -/
abbrev TSet := V → V → V → Hp → (Hp → Prop) → Prop
def PSet (X : Cx) (t : TSet) : Prop :=
  ∀ (pins : List (Addr × Obj)) (s : Shared) (σ : St) (H : Hp) (o i v : V) (ov iv u : Value) (Q : Hp → Prop), Inv X pins σ H s → RelV o ov → RelV i iv → RelV v u → t o i v H Q →
    wpAny (model X.prog X.w) X.A (setItem ov iv u) (fun _ s' => ∃ H', Inv X pins σ H' s' ∧ Q H') X.xe s
section
variable {X : Cx} {pos : Pos}
def gName (i : Nat) : TG := fun v σ H Q => Q (σ.set i (some v)) H
theorem pg_name {i : Nat} {x : Str} (hN : X.N.Nodup) (hi : X.N[i]? = some x) (hx : Loc X.env.scope x) (hf : X.fn x = true ∨ X.env.scope.names.lookup x = some .local := by first | exact .inl rfl | exact .inr rfl | assumption) : PG X (.Name x pos) (gName i) := by
  intro pins s σ H v u Q I r h
  exact wpAny_assign_Name (store_ok I hN hi hx r (fun s' I' => ⟨_, H, I', h⟩) hf)
def gNil : TGs := fun vs σ H Q => vs = [] ∧ Q σ H
def gCons (t : TG) (u : TGs) : TGs := fun vs σ H Q => ∃ v r, vs = v :: r ∧ t v σ H fun σ' H' => u r σ' H' Q
theorem pgs_nil : PGs X [] gNil := by
  intro pins s σ H vs us Q I r h
  obtain ⟨e, h⟩ := h
  subst e
  cases r
  exact assignInOrder_nil ⟨σ, H, I, h⟩
theorem pgs_cons {e : Expr} {es : List Expr} {t : TG} {u : TGs} (h1 : PG X e t) (h2 : PGs X es u)
    (hs : (assignEach (e :: es) X.env).map (·.2) = assign e X.env :: (assignEach es X.env).map (·.2) := by rfl) : PGs X (e :: es) (gCons t u) := by
  intro pins s σ H vs us Q I r h
  obtain ⟨v, vr, e1, h⟩ := h
  subst e1
  cases r with
  | cons r rr =>
    rw [hs]
    refine assignInOrder_cons (thn (h1 pins s σ H _ _ _ I r h) fun _ s1 ⟨σ1, H1, I1, q1⟩ => ?_)
    exact h2 pins s1 σ1 H1 _ _ Q I1 rr q1
/-- (a, b, ..) = a tuple of that length -/
def gTup (K : PySem.W.Frag) (n : Nat) (t : TGs) : TG := fun v σ H Q => ∃ a xs, v = .ref a ∧ SqT K H a xs ∧ xs.length = n ∧ t xs σ H Q
theorem pg_tup {es : List Expr} {k : Nat} {t : TGs} {n : Nat} (hc : X.calm = true) (h : PGs X es t)
    (hn : (assignEach es X.env).length = n := by rfl) (hst : (assignEach es X.env).findIdx? (·.1) = none := by rfl) : PG X (.Tuple es k pos) (gTup X.K n t) := by
  intro pins s σ H v u Q I r hw
  obtain ⟨a, xs, e1, hq, hl, hw⟩ := hw
  subst e1
  cases r
  obtain ⟨its, rv, ht, hz⟩ := I.tuple hq
  refine assign_Tuple_tuple (I.ok.hd hc) ht (by simp [hn, ← hl, rv.length]) hst fun h' hx => ?_
  have I1 : Inv X pins σ H { s with heap := h' } := I.kept (t' := s.toks) fun b o e => hx b o (Nat.ne_of_lt (Heap.lt_size e)) e
  exact h pins _ σ H xs _ Q I1 (by simpa using rv) hw
/-- o[i] = .. -/
def gSub (to ti : TE) (t : TSet) : TG := fun v σ H Q => to σ H fun o H1 => ti σ H1 fun i H2 => t o i v H2 fun H3 => Q σ H3
theorem pg_sub {o i : Expr} {to ti : TE} {t : TSet} (ho : PE X o to) (hi : PE X i ti) (hs : PSet X t)
    (ha : ∀ v, assign (.Subscript o i pos) X.env v = (do
      let ov ← holding [v] (eval o X.env)
      let iv ← holding [v, ov] (eval i X.env)
      standAt pos
      holding [v, ov, iv] (setItem ov iv v)
      release [v, ov, iv] []) := by intro _; rfl) : PG X (.Subscript o i pos) (gSub to ti t) := by
  intro pins s σ H v u Q I r h
  rw [ha]
  refine wpAny_bind (wpAny_holding (thn (ho pins s σ H _ I h) fun ov s1 ⟨x, H1, I1, r1, q1⟩ => ?_))
  refine wpAny_bind (wpAny_holding (thn (hi pins s1 σ H1 _ I1 q1) fun iv s2 ⟨y, H2, I2, r2, q2⟩ => ?_))
  refine wpAny_bind (wpAny_standAt (wpAny_bind (wpAny_holding (thn (hs pins s2 σ H2 x y v ov iv u _ I2 r1 r2 r q2) fun _ s3 ⟨H3, I3, q3⟩ => ?_))))
  exact wpAny_release ⟨σ, H3, I3, q3⟩
/-- target = value -/
def tAsg (te : TE) (g : TG) : TS := fun D σ H => te σ H fun x H1 => g x σ H1 D.nx
theorem ps_asg {tg e : Expr} {te : TE} {g : TG} (he : PE X e te) (hg : PG X tg g) (hs : swapsWithSole [tg] e pos.line X.env = pure false := by rfl) (hw : swappedStores [tg] e X.env = pure none := by rfl)
    (h1 : (assignEach [tg] X.env).map (·.2) = [assign tg X.env] := by rfl) : PS X (.Assign [tg] e pos) (tAsg te g) := by
  intro pins s σ H D I h
  refine wpAny_Assign_stores (thn (he pins s σ H _ I h) fun v s1 ⟨x, H1, I1, r1, q1⟩ => ?_) hs hw
  rw [h1]
  exact thn (hg pins s1 σ H1 x v _ I1 r1 q1) fun _ s2 q => q
/-- name = value -/
theorem ps_set {i : Nat} {x : Str} {e : Expr} {te : TE} {pos' : Pos} (hN : X.N.Nodup) (hi : X.N[i]? = some x) (hx : Loc X.env.scope x) (he : PE X e te) (hs : swapsWith e (some (.Name x pos')) pos.line X.env = pure false := by rfl) (hf : X.fn x = true ∨ X.env.scope.names.lookup x = some .local := by first | exact .inl rfl | exact .inr rfl | assumption) :
    PS X (.Assign [.Name x pos'] e pos) (tAsg te (gName i)) := by
  intro pins s σ H D I h
  refine wpAny_Assign_Name (thn (he pins s σ H _ I h) fun v s1 ⟨y, H1, I1, r1, q1⟩ => ?_) hs
  exact store_ok I1 hN hi hx r1 (fun s2 I2 => ⟨_, H1, I2, q1⟩) hf
end

/-! ### while -/
section
variable {X : Cx} {pos : Pos}
/-- the invariant W with its measure -/
def tWhile (c : TT) (tb : TS) : TS := fun D σ H => ∃ W : Nat → St → Hp → Prop, (∃ m, W m σ H) ∧ ∀ m σ H, W m σ H →
  c σ H fun b H1 => if b = true then ∃ N : St → Hp → Prop, (∀ σ' H', N σ' H' → ∃ m', m' < m ∧ W m' σ' H') ∧ tb { D with nx := N, ct := N, bk := D.nx } σ H1 else D.nx σ H1
theorem ps_while {c : Expr} {body : List Stmt} {tc : TT} {tb : TS} (hp : PassesOwn (model X.prog X.w) X.A X.env X.xe) (hc : PT X c tc) (hb : PSs X body tb) : PS X (.While c body [] pos) (tWhile tc tb) := by
  intro pins s σ H D I h
  obtain ⟨W, ⟨m0, w0⟩, turn⟩ := h
  refine wpAny_While (codeAny_whileLoop (fun n s' => ∃ σ' H', Inv X pins σ' H' s' ∧ W n σ' H') ?_ m0 ⟨σ, H, I, w0⟩)
  rintro n s1 ⟨σ1, H1, I1, w1⟩
  refine wpAny_passesOwn hp (thn (hc pins s1 σ1 H1 _ I1 (turn n σ1 H1 w1)) fun b s2 ⟨H2, I2, q2⟩ => ?_)
  cases b with
  | true =>
    obtain ⟨N, hN, q2⟩ := q2
    rw [if_pos rfl]
    refine wpAny_passesOwn hp (thn (hb pins s2 σ1 H2 _ I2 q2) fun f s3 q3 => ?_)
    cases f with
    | next =>
      obtain ⟨σ3, H3, I3, n3⟩ := q3
      obtain ⟨m', hm, w3⟩ := hN σ3 H3 n3
      exact ⟨m', hm, σ3, H3, I3, w3⟩
    | cont =>
      obtain ⟨σ3, H3, I3, n3⟩ := q3
      obtain ⟨m', hm, w3⟩ := hN σ3 H3 n3
      exact ⟨m', hm, σ3, H3, I3, w3⟩
    | brk => exact q3
    | ret v => exact q3
  | false =>
    rw [if_neg Bool.false_ne_true]
    exact wpAny_execs_nil ⟨σ1, H2, I2, q2⟩
end

/-! ### what a loop or a comprehension walks -/
/-- at turn i: it yields x (the heap may grow), or it stops -/
structure It where
  go : Nat → Hp → Prop
  yld : Nat → Hp → V → Hp → Prop
  stop : Nat → Hp → Prop
/-- the iterator's own objects may turn: they are not the frame's, not pinned, younger than the entry (or a comprehension's own) -/
def FpOk (X : Cx) (pins : List (Addr × Obj)) (H : Hp) (b : Addr) : Prop :=
  H b = none ∧ b ≠ X.env.locals ∧ b ∉ X.fs ∧ (b ∈ X.ex ∨ X.s₀.heap.objs.size ≤ b) ∧ (∀ x c, X.env.cells.lookup x = some c → c ≠ b) ∧ ∀ p ∈ X.pn ++ pins, p.1 ≠ b
theorem Inv.fpOk {X : Cx} {pins : List (Addr × Obj)} {σ : St} {H H' : Hp} {s : Shared} {b : Addr} (I : Inv X pins σ H s) (hb : s.heap.objs.size ≤ b) (hn : H' b = none) : FpOk X pins H' b := by
  refine ⟨hn, Nat.ne_of_gt (Nat.lt_of_lt_of_le I.lt hb), I.nofs hb, .inr (Nat.le_trans I.sz hb), fun x c e z => ?_, fun p hp z => ?_⟩
  · obtain ⟨v, q⟩ := I.cell x c e
    exact absurd (Nat.lt_of_lt_of_le q.lt (by rw [z]; exact hb)) (Nat.lt_irrefl _)
  · exact absurd (Nat.lt_of_lt_of_le (Heap.lt_size (I.pin p hp).1) (by rw [z]; exact hb)) (Nat.lt_irrefl _)
structure Turn (P : Program) (w : World) (K : PySem.W.Frag) (tg : Expr) (J : It) (fp : List Addr) (it : Addr) (tn : Nat → Heap → Prop) : Prop where
  mem : it ∈ fp
  obj : ∀ i h, tn i h → ∀ b ∈ fp, ∃ o, h.get? b = some o ∧ ∀ v, o.data ≠ .cell v
  keep : ∀ i h h', tn i h → (∀ b ∈ fp, ∀ o, h.get? b = some o → h'.get? b = some o) → tn i h'
  item : ∀ (X : Cx), X.prog = P → X.w = w → X.K = K → X.calm = true → ∀ (i : Nat) (pins : List (Addr × Obj)) (s : Shared) (σ : St) (H : Hp) (E : Value → Shared → Prop), Inv X pins σ H s → (∀ b ∈ fp, FpOk X pins H b) → tn i s.heap → J.go i H →
    wpAny (model P w) X.A (pyNext (.ref it)) (fun r s1 => ∃ u, r = some u ∧
      wpAny (model P w) X.A (letOwnedTupleGo tg (.ref it) u) (fun _ s2 => ∃ x H', Inv X pins σ H' s2 ∧ RelV x u ∧ J.yld i H x H' ∧ tn (i + 1) s2.heap ∧ ∀ b ∈ fp, H' b = none) E s1) E s
  done : ∀ (X : Cx), X.prog = P → X.w = w → X.K = K → X.calm = true → ∀ (i : Nat) (pins : List (Addr × Obj)) (s : Shared) (σ : St) (H : Hp) (E : Value → Shared → Prop), Inv X pins σ H s → (∀ b ∈ fp, FpOk X pins H b) → tn i s.heap → J.stop i H →
    wpAny (model P w) X.A (pyNext (.ref it)) (fun r s1 => r = none ∧ Inv X pins σ H s1) E s
  self : ∀ (A : Around) (i : Nat) (s : Shared) (Q : Value → Shared → Prop) (E : Value → Shared → Prop), tn i s.heap → Q (.ref it) s → wpAny (model P w) A (pyIter (.ref it)) Q E s
abbrev TI := St → Hp → (It → Hp → Prop) → Prop
/-- an iterator has come -/
def PIE (X : Cx) (pins : List (Addr × Obj)) (σ : St) (tg : Expr) (R : It → Hp → Prop) (itv : Value) (s2 : Shared) : Prop :=
  ∃ (it : Addr) (fp : List Addr) (tn : Nat → Heap → Prop) (J : It) (H' : Hp), itv = .ref it ∧ Inv X pins σ H' s2 ∧ Turn X.prog X.w X.K tg J fp it tn ∧ tn 0 s2.heap ∧ (∀ b ∈ fp, FpOk X pins H' b) ∧ R J H'
def PI (X : Cx) (tg iter : Expr) (wi : TI) : Prop :=
  ∀ (pins : List (Addr × Obj)) (s : Shared) (σ : St) (H : Hp) (R : It → Hp → Prop), Inv X pins σ H s → wi σ H R →
    wpAny (model X.prog X.w) X.A (eval iter X.env) (fun v s1 => wpAny (model X.prog X.w) X.A (pyIter v) (PIE X pins σ tg R) X.xe s1) X.xe s

/-- the step ahead of the store is nothing for an iterator that keeps no tuple -/
theorem go_of {M : Model} {A : Around} {E : Value → Shared → Prop} {s : Shared} {tg : Expr} {it : Addr} {u : Value} {o : Obj} {n : String} {vs : Array Value} {Q : Unit → Shared → Prop} (ho : s.heap.get? it = some o) (hc : o.cls = .type n) (hd : o.data = .fields vs)
    (hn : ["enumerate", "zip", "dict_itemiterator", "dict_reverseitemiterator", "odict_iterator", "itertools.zip_longest", "itertools.pairwise"].contains n = false) (hQ : Q () s) : wpAny M A (letOwnedTupleGo tg (.ref it) u) Q E s := by
  unfold letOwnedTupleGo
  cases tg <;> first
    | exact wpAny_pure hQ
    | (cases u <;> first
        | exact wpAny_pure hQ
        | (refine wpAny_bind (wpAny_load ho ?_)
           rw [hc, hd]
           show wpAny M A (if (["enumerate", "zip", "dict_itemiterator", "dict_reverseitemiterator", "odict_iterator", "itertools.zip_longest", "itertools.pairwise"].contains n && vs[0]? == some (rawInt _)) = true then _ else _) Q E s
           rw [if_neg (by intro h; rw [hn, Bool.false_and] at h; cases h)]
           exact wpAny_pure hQ))

/-- the list at a, as it stands at each turn (a loop may append to it) -/
def Itl (K : PySem.W.Frag) (a : Addr) : It :=
  ⟨fun i H => ∃ xs x, SqL K H a xs ∧ xs[i]? = some x, fun i H x H' => H' = H ∧ ∀ xs, SqL K H a xs → xs[i]? = some x, fun i H => ∃ xs, SqL K H a xs ∧ xs.length ≤ i⟩
def Itt (K : PySem.W.Frag) (a : Addr) : It :=
  ⟨fun i H => ∃ xs x, SqT K H a xs ∧ xs[i]? = some x, fun i H x H' => H' = H ∧ ∀ xs, SqT K H a xs → xs[i]? = some x, fun i H => ∃ xs, SqT K H a xs ∧ xs.length ≤ i⟩
/-- lo, lo + 1, .. (n of them) -/
def Itr (lo : Int) (n : Nat) : It := ⟨fun i _ => i < n, fun i H x H' => H' = H ∧ x = .int (lo + i), fun i _ => n ≤ i⟩
theorem turn_list {P : Program} {w : World} {K : PySem.W.Frag} {tg : Expr} (a it : Addr) : Turn P w K tg (Itl K a) [it] it (fun i h => h.IsListIter it a i) where
  mem := by simp
  obj := fun i h st b hb => by
    have e : b = it := by simpa using hb
    subst e
    obtain ⟨o, e, c, d⟩ := st
    exact ⟨o, e, fun v z => by rw [d] at z; cases z⟩
  keep := fun i h h' st k => st.at fun o e => k it (by simp) o e
  item := by
    intro X hP hw hK hc i pins s σ H E I hf st hg
    subst hP hw hK
    obtain ⟨xs, x, hq, hx⟩ := hg
    obtain ⟨its, rv, p, hz⟩ := I.list hq
    obtain ⟨u, hu, ru⟩ := rv.get hx
    obtain ⟨f0, f1, f2, f3, f4, f5⟩ := hf it (by simp)
    refine wpAny_pyNext_list_item st p.isList (x := u) (by simpa using hu) fun h' st' sb => ?_
    have I1 : Inv X pins σ H { s with heap := h' } := I.turned (t' := s.toks) (fun b o hb e => (sb.2 b hb).trans e) f0 f1 f3 f4 f5
    obtain ⟨o, e, c, d⟩ := id st'
    exact ⟨u, rfl, go_of (s := { s with heap := h' }) e c d (by decide) ⟨x, H, I1, ru, ⟨rfl, fun ys hy => by rw [I.list_inj hy hq]; exact hx⟩, st', fun b hb => (hf b hb).1⟩⟩
  done := by
    intro X hP hw hK hc i pins s σ H E I hf st hg
    subst hP hw hK
    obtain ⟨xs, hq, hx⟩ := hg
    obtain ⟨its, rv, p, hz⟩ := I.list hq
    obtain ⟨f0, f1, f2, f3, f4, f5⟩ := hf it (by simp)
    have hl := rv.length
    exact wpAny_pyNext_list_end (I.ok.hd hc) st p.isList (by simp; (first | lia | omega)) fun h' eb => ⟨rfl, I.turned (t' := s.toks) (fun b o hb e => eb b o hb e) f0 f1 f3 f4 f5⟩
  self := fun _ _ _ _ _ st h => wpAny_pyIter_listiter st h
theorem turn_tuple {P : Program} {w : World} {K : PySem.W.Frag} {tg : Expr} (a it : Addr) : Turn P w K tg (Itt K a) [it] it (fun i h => h.IsTupleIter it a i) where
  mem := by simp
  obj := fun i h st b hb => by
    have e : b = it := by simpa using hb
    subst e
    obtain ⟨o, e, c, d⟩ := st
    exact ⟨o, e, fun v z => by rw [d] at z; cases z⟩
  keep := fun i h h' st k => st.at fun o e => k it (by simp) o e
  item := by
    intro X hP hw hK hc i pins s σ H E I hf st hg
    subst hP hw hK
    obtain ⟨xs, x, hq, hx⟩ := hg
    obtain ⟨its, rv, p, hz⟩ := I.tuple hq
    obtain ⟨u, hu, ru⟩ := rv.get hx
    obtain ⟨f0, f1, f2, f3, f4, f5⟩ := hf it (by simp)
    refine wpAny_pyNext_tuple_item st (show s.heap.IsTuple a its.toArray from p) (x := u) (by simpa using hu) fun h' st' sb => ?_
    have I1 : Inv X pins σ H { s with heap := h' } := I.turned (t' := s.toks) (fun b o hb e => (sb.2 b hb).trans e) f0 f1 f3 f4 f5
    obtain ⟨o, e, c, d⟩ := id st'
    exact ⟨u, rfl, go_of (s := { s with heap := h' }) e c d (by decide) ⟨x, H, I1, ru, ⟨rfl, fun ys hy => by rw [I.tuple_inj hy hq]; exact hx⟩, st', fun b hb => (hf b hb).1⟩⟩
  done := by
    intro X hP hw hK hc i pins s σ H E I hf st hg
    subst hP hw hK
    obtain ⟨xs, hq, hx⟩ := hg
    obtain ⟨its, rv, p, hz⟩ := I.tuple hq
    obtain ⟨f0, f1, f2, f3, f4, f5⟩ := hf it (by simp)
    have hl := rv.length
    exact wpAny_pyNext_tuple_end (I.ok.hd hc) st (show s.heap.IsTuple a its.toArray from p) (by simp; (first | lia | omega)) fun h' eb => ⟨rfl, I.turned (t' := s.toks) (fun b o hb e => eb b o hb e) f0 f1 f3 f4 f5⟩
  self := fun _ _ _ _ _ st h => wpAny_pyIter_tupleiter st h
theorem turn_range {P : Program} {w : World} {K : PySem.W.Frag} {tg : Expr} (it : Addr) (lo : Int) (n : Nat) : Turn P w K tg (Itr lo n) [it] it (fun i h => IsRangeIter h it (lo + (i : Nat) * 1) ((n : Int) - (i : Nat)) 1) where
  mem := by simp
  obj := fun i h st b hb => by
    have e : b = it := by simpa using hb
    subst e
    exact ⟨_, st, fun v z => by
      have z' : Data.fields _ = Data.cell v := z
      cases z'⟩
  keep := fun i h h' st k => k it (by simp) _ st
  item := by
    intro X hP hw hK hc i pins s σ H E I hf st hg
    subst hP hw hK
    obtain ⟨f0, f1, f2, f3, f4, f5⟩ := hf it (by simp)
    have W := Walks.range (prog := X.prog) (w := X.w) (I.ok.hd hc) it lo 1 n
    refine W.item i s _ _ hg st fun v h' tk hv st' kk => ?_
    obtain ⟨t, rfl⟩ := hv
    have I1 : Inv X pins σ H { s with heap := h', toks := tk } := I.turned (fun b o hb e => kk b o (by simpa using hb) e) f0 f1 f3 f4 f5
    refine ⟨_, rfl, go_of (s := { s with heap := h', toks := tk }) (n := "range_iterator") st' rfl rfl (by decide) ⟨.int (lo + i), H, I1, ⟨t, ?_⟩, ⟨rfl, rfl⟩, st', fun b hb => (hf b hb).1⟩⟩
    rw [Int.mul_one]
  done := by
    intro X hP hw hK hc i pins s σ H E I hf st hg
    subst hP hw hK
    obtain ⟨f0, f1, f2, f3, f4, f5⟩ := hf it (by simp)
    exact wpAny_pyNext_range_end (I.ok.hd hc) st (by have : n ≤ i := hg; (first | lia | omega)) fun h' eb => ⟨rfl, I.turned (t' := s.toks) (fun b o hb e => eb b o hb e) f0 f1 f3 f4 f5⟩
  self := fun _ _ _ _ _ st h => wpAny_pyIter_rangeiter st h
end L2

namespace L2
open PySem PySem.Spec PyProof.Rows
section
variable {X : Cx} {tg : Expr}
def iList (K : PySem.W.Frag) (tl : TE) : TI := fun σ H R => tl σ H fun x H1 => ∃ a, x = .ref a ∧ (∃ xs, SqL K H1 a xs) ∧ R (Itl K a) H1
def iTup (K : PySem.W.Frag) (tl : TE) : TI := fun σ H R => tl σ H fun x H1 => ∃ a, x = .ref a ∧ (∃ xs, SqT K H1 a xs) ∧ R (Itt K a) H1
theorem pi_list {l : Expr} {tl : TE} (hl : PE X l tl) : PI X tg l (iList X.K tl) := by
  intro pins s σ H R I h
  refine thn (hl pins s σ H _ I h) fun v s1 ⟨x, H1, I1, r1, q1⟩ => ?_
  obtain ⟨a, e, ⟨xs, hq⟩, q⟩ := q1
  subst e
  cases r1
  obtain ⟨its, rv, p, hz⟩ := I1.list hq
  refine wpAny_pyIter_list p.isList ?_
  refine ⟨s1.heap.objs.size, [s1.heap.objs.size], _, _, H1, rfl, I1.kept (t' := s1.toks) fun b o e => Heap.get?_push_of_some _ e, turn_list a _, ⟨_, Heap.get?_push_size _ rfl, rfl, rfl⟩, fun b hb => ?_, q⟩
  have e : b = s1.heap.objs.size := by simpa using hb
  subst e
  exact I1.fpOk (Nat.le_refl _) (I1.hok.fresh (Nat.le_refl _))
theorem pi_tup {l : Expr} {tl : TE} (hl : PE X l tl) : PI X tg l (iTup X.K tl) := by
  intro pins s σ H R I h
  refine thn (hl pins s σ H _ I h) fun v s1 ⟨x, H1, I1, r1, q1⟩ => ?_
  obtain ⟨a, e, ⟨xs, hq⟩, q⟩ := q1
  subst e
  cases r1
  obtain ⟨its, rv, p, hz⟩ := I1.tuple hq
  refine wpAny_pyIter_tuple (show s1.heap.IsTuple a its.toArray from p) ?_
  refine ⟨s1.heap.objs.size, [s1.heap.objs.size], _, _, H1, rfl, I1.kept (t' := s1.toks) fun b o e => Heap.get?_push_of_some _ e, turn_tuple a _, ⟨_, Heap.get?_push_size _ rfl, rfl, rfl⟩, fun b hb => ?_, q⟩
  have e : b = s1.heap.objs.size := by simpa using hb
  subst e
  exact I1.fpOk (Nat.le_refl _) (I1.hok.fresh (Nat.le_refl _))
/-- a range object just made, walked -/
theorem range_it {pins : List (Addr × Obj)} {σ : St} {H : Hp} {s : Shared} {R : It → Hp → Prop} {E : Value → Shared → Prop} {lo hi : Int} {t u v : Tok} {tk : Nat} (I : Inv X pins σ H s) (h1 : -(2 ^ 62) ≤ lo) (h2 : lo < 2 ^ 62) (h3 : -(2 ^ 62) ≤ hi) (h4 : hi < 2 ^ 62)
    (q : R (Itr lo (hi - lo).toNat) H) : wpAny (model X.prog X.w) X.A (pyIter (.ref s.heap.objs.size)) (PIE X pins σ tg R) E { s with heap := s.heap.push { cls := .type "range", data := .fields #[.int lo t, .int hi u, .int 1 v] }, toks := tk } := by
  refine wpAny_pyIter_range (IsRange.new ..) (small_one h1 h2 h3 h4) ?_
  have I1 : Inv X pins σ H { s with heap := s.heap.push { cls := .type "range", data := .fields #[.int lo t, .int hi u, .int 1 v] }, toks := tk } := I.kept fun b o e => Heap.get?_push_of_some _ e
  refine ⟨(s.heap.push { cls := .type "range", data := .fields #[.int lo t, .int hi u, .int 1 v] }).objs.size, [(s.heap.push { cls := .type "range", data := .fields #[.int lo t, .int hi u, .int 1 v] }).objs.size], _, _, H, rfl,
    I1.kept (t' := tk) fun b o e => Heap.get?_push_of_some _ e, turn_range _ lo (hi - lo).toNat, ?_, fun b hb => ?_, q⟩
  · have e1 : lo + ((0 : Nat) : Int) * 1 = lo := by simp
    have e2 : (((hi - lo).toNat : Nat) : Int) - ((0 : Nat) : Int) = Builtin.Range.rangeSize lo hi 1 := by rw [rangeSize_one]; split <;> (first | lia | omega)
    show IsRangeIter _ _ (lo + ((0 : Nat) : Int) * 1) ((((hi - lo).toNat : Nat) : Int) - ((0 : Nat) : Int)) 1
    rw [e1, e2]
    exact Heap.get?_push_size _ rfl
  · have e : b = (s.heap.push { cls := .type "range", data := .fields #[.int lo t, .int hi u, .int 1 v] }).objs.size := by simpa using hb
    subst e
    exact I1.fpOk (Nat.le_refl _) (I1.hok.fresh (Nat.le_refl _))
def iRng1 (ta : TA) : TI := fun σ H R => ta σ H fun vs H1 => ∃ j : Int, vs = [.int j] ∧ -(2 ^ 62) ≤ j ∧ j < 2 ^ 62 ∧ R (Itr 0 j.toNat) H1
theorem pi_range1 {a : Expr} {ta : TA} {p pos : Pos} (hg : Gl X "range") (hm : X.mg "range" = none) (ha : PA X [a] ta) (hs : starEach [a] X.env = [(false, eval a X.env)] := by rfl) : PI X tg (.Call (.Name "range" p) [a] [] pos) (iRng1 ta) := by
  intro pins s σ H R I h
  refine Call_ (ld_blt I hg hm boot_range (PyProof.Rows.callWith_type1 (thn (ha pos pins s σ H _ I h) fun us s1 ⟨vs, H1, I1, r1, q1⟩ => ?_) hs rfl))
  obtain ⟨j, e, q1, q2, q⟩ := q1
  subst e
  cases r1 with
  | cons r rr =>
    cases rr
    obtain ⟨t, rfl⟩ := r
    exact call_range_1 (range_it I1 (by (first | lia | omega)) (by (first | lia | omega)) q1 q2 (by simpa using q))
/-! ### for -/
/-- W: the invariant by the turn and a measure; N: what the body is to reach -/
def tFor (wi : TI) (g : TG) (tb : TS) : TS := fun D σ H => wi σ H fun J H1 => ∃ W : Nat → Nat → St → Hp → Prop, (∃ m, W 0 m σ H1) ∧ ∀ i m σ H, W i m σ H →
  (J.stop i H ∧ D.nx σ H) ∨ (J.go i H ∧ ∃ N : St → Hp → Prop, (∀ σ' H', N σ' H' → ∃ m', m' < m ∧ W (i + 1) m' σ' H') ∧ ∀ x H', J.yld i H x H' → g x σ H' fun σ2 H2 => tb { D with nx := N, ct := N, bk := D.nx } σ2 H2)
/-- the records at fp as they stand -/
def pinsAt (fp : List Addr) (h : Heap) : List (Addr × Obj) := fp.filterMap fun b => (h.get? b).map fun o => (b, o)
theorem mem_pinsAt {fp : List Addr} {h : Heap} {b : Addr} {o : Obj} (hb : b ∈ fp) (e : h.get? b = some o) : (b, o) ∈ pinsAt fp h := List.mem_filterMap.mpr ⟨b, hb, by rw [e]; rfl⟩
theorem of_pinsAt {fp : List Addr} {h : Heap} {p : Addr × Obj} (hp : p ∈ pinsAt fp h) : p.1 ∈ fp ∧ h.get? p.1 = some p.2 := by
  obtain ⟨b, hb, e⟩ := List.mem_filterMap.mp hp
  cases q : h.get? b with
  | none => rw [q] at e; cases e
  | some o =>
    rw [q] at e
    have e' : (b, o) = p := Option.some.inj e
    subst e'
    exact ⟨hb, q⟩
theorem Inv.pinned {pins : List (Addr × Obj)} {σ : St} {H : Hp} {s : Shared} {fp : List Addr} (I : Inv X pins σ H s) (hf : ∀ b ∈ fp, FpOk X pins H b) (ho : ∀ b ∈ fp, ∃ o, s.heap.get? b = some o ∧ ∀ v, o.data ≠ .cell v) : Inv X (pins ++ pinsAt fp s.heap) σ H s :=
  I.pins_of fun p hp => (List.mem_append.mp hp).elim (fun z => I.pin p (List.mem_append_right _ z)) fun z => by
    obtain ⟨hb, e⟩ := of_pinsAt z
    obtain ⟨f0, f1, f2, _⟩ := hf p.1 hb
    obtain ⟨o, e', d⟩ := ho p.1 hb
    rw [e] at e'; cases e'
    exact ⟨e, f0, f1, f2, d⟩
theorem Inv.unpinned {pins pl : List (Addr × Obj)} {σ : St} {H : Hp} {s : Shared} (I : Inv X (pins ++ pl) σ H s) : Inv X pins σ H s := I.pins_of fun p hp => I.pin p (List.mem_append_right _ (List.mem_append_left _ hp))
theorem ps_for {iter : Expr} {body : List Stmt} {wi : TI} {g : TG} {tb : TS} {pos : Pos} (hp : PassesOwn (model X.prog X.w) X.A X.env X.xe) (hc : X.calm = true) (hi : PI X tg iter wi) (hg : PG X tg g) (hb : PSs X body tb)
    (hs : ∀ x, foldedSetIterable iter X.env x = pure x := by intro _; rfl) : PS X (.For tg iter body [] pos) (tFor wi g tb) := by
  intro pins s σ H D I h
  refine wpAny_For (thn (hi pins s σ H _ I h) fun v s1 h1 => thn h1 fun itv s2 h2 => ?_) hs
  obtain ⟨it, fp, tn, J, H2, e, I2, T, st2, f2, W, ⟨m0, w0⟩, turn⟩ := h2
  subst e
  -- what stays true of the iterator's objects through the loop
  have stat : ∀ {H' : Hp}, (∀ b ∈ fp, H' b = none) → ∀ b ∈ fp, FpOk X pins H' b := fun hn b hb => ⟨hn b hb, (f2 b hb).2⟩
  refine codeAny_forLoop_any (fun n s' => ∃ i σ' H', Inv X pins σ' H' s' ∧ tn i s'.heap ∧ (∀ b ∈ fp, H' b = none) ∧ W i n σ' H') ?_ m0 ⟨0, σ, H2, I2, st2, fun b hb => (f2 b hb).1, w0⟩
  rintro n s3 ⟨i, σ3, H3, I3, st3, fr3, w3⟩
  rcases turn i n σ3 H3 w3 with ⟨stop, qn⟩ | ⟨go, N, hN, step⟩
  · refine wpAny_passesOwn hp (thn (T.done X rfl rfl rfl hc i pins s3 σ3 H3 X.xe I3 (stat fr3) st3 stop) fun r s4 ⟨hr, I4⟩ => ?_)
    subst hr
    exact wpAny_execs_nil ⟨σ3, H3, I4, qn⟩
  · refine wpAny_passesOwn hp (thn (T.item X rfl rfl rfl hc i pins s3 σ3 H3 X.xe I3 (stat fr3) st3 go) fun r s4 ⟨u, hr, h4⟩ => ?_)
    subst hr
    refine wpAny_passesOwn hp (thn h4 fun _ s5 ⟨x, H5, I5, r5, y5, st5, fr5⟩ => ?_)
    have I5' := I5.pinned (stat fr5) (T.obj _ _ st5)
    refine wpAny_passesOwn hp (thn (hg _ s5 σ3 H5 x u _ I5' r5 (step x H5 y5)) fun _ s6 ⟨σ6, H6, I6, q6⟩ => ?_)
    refine wpAny_passesOwn hp (thn (hb _ s6 σ6 H6 _ I6 q6) fun f s7 q7 => ?_)
    have again : ∀ {σ7 : St} {H7 : Hp}, Inv X (pins ++ pinsAt fp s5.heap) σ7 H7 s7 → N σ7 H7 → ∃ m, m < n ∧ ∃ i σ' H', Inv X pins σ' H' s7 ∧ tn i s7.heap ∧ (∀ b ∈ fp, H' b = none) ∧ W i m σ' H' := fun {σ7 H7} I7 n7 => by
      obtain ⟨m', hm, w7⟩ := hN σ7 H7 n7
      refine ⟨m', hm, i + 1, σ7, H7, I7.unpinned, T.keep _ _ _ st5 fun b hb o e => (I7.pin (b, o) (List.mem_append_right _ (List.mem_append_right _ (mem_pinsAt hb e)))).1, fun b hb => ?_, w7⟩
      obtain ⟨o, e, d⟩ := T.obj _ _ st5 b hb
      exact (I7.pin (b, o) (List.mem_append_right _ (List.mem_append_right _ (mem_pinsAt hb e)))).2.1
    cases f with
    | next => obtain ⟨σ7, H7, I7, n7⟩ := q7; exact again I7 n7
    | cont => obtain ⟨σ7, H7, I7, n7⟩ := q7; exact again I7 n7
    | brk => obtain ⟨σ7, H7, I7, q7⟩ := q7; exact ⟨σ7, H7, I7.unpinned, q7⟩
    | ret v => obtain ⟨x7, σ7, H7, I7, r7, q7⟩ := q7; exact ⟨x7, σ7, H7, I7.unpinned, r7, q7⟩
end

/-! ### the forms one uses -/
/-- over a list that the body leaves as it is -/
theorem for_list {K : PySem.W.Frag} {a : Addr} {xs : List V} {g : TG} {tb : TS} {D : Ends} {σ : St} {H : Hp} (Pv : Nat → St → Hp → Prop) (h0 : Pv 0 σ H) (hl : ∀ i σ H, i ≤ xs.length → Pv i σ H → SqL K H a xs)
    (hs : ∀ i x σ H, xs[i]? = some x → Pv i σ H → g x σ H fun σ2 H2 => tb { D with nx := Pv (i + 1), ct := Pv (i + 1), bk := D.nx } σ2 H2) (hd : ∀ σ H, Pv xs.length σ H → D.nx σ H) :
    ∃ W : Nat → Nat → St → Hp → Prop, (∃ m, W 0 m σ H) ∧ ∀ i m σ H, W i m σ H →
      ((Itl K a).stop i H ∧ D.nx σ H) ∨ ((Itl K a).go i H ∧ ∃ N : St → Hp → Prop, (∀ σ' H', N σ' H' → ∃ m', m' < m ∧ W (i + 1) m' σ' H') ∧ ∀ x H', (Itl K a).yld i H x H' → g x σ H' fun σ2 H2 => tb { D with nx := N, ct := N, bk := D.nx } σ2 H2) := by
  refine ⟨fun i m σ H => m = xs.length - i ∧ i ≤ xs.length ∧ Pv i σ H, ⟨xs.length, by simp, Nat.zero_le _, h0⟩, ?_⟩
  rintro i m σ H ⟨rfl, hi, p⟩
  have q := hl i σ H hi p
  by_cases hlt : i < xs.length
  · refine .inr ⟨⟨xs, xs[i], q, by simp [hlt]⟩, Pv (i + 1), fun σ' H' p' => ⟨xs.length - (i + 1), by (first | lia | omega), rfl, hlt, p'⟩, fun x H' y => ?_⟩
    obtain ⟨e, y⟩ := y
    subst e
    exact hs i x σ _ (y xs q) p
  · have e : i = xs.length := by (first | lia | omega)
    subst e
    exact .inl ⟨⟨xs, q, Nat.le_refl _⟩, hd σ H p⟩
theorem for_tup {K : PySem.W.Frag} {a : Addr} {xs : List V} {g : TG} {tb : TS} {D : Ends} {σ : St} {H : Hp} (Pv : Nat → St → Hp → Prop) (h0 : Pv 0 σ H) (hl : ∀ i σ H, i ≤ xs.length → Pv i σ H → SqT K H a xs)
    (hs : ∀ i x σ H, xs[i]? = some x → Pv i σ H → g x σ H fun σ2 H2 => tb { D with nx := Pv (i + 1), ct := Pv (i + 1), bk := D.nx } σ2 H2) (hd : ∀ σ H, Pv xs.length σ H → D.nx σ H) :
    ∃ W : Nat → Nat → St → Hp → Prop, (∃ m, W 0 m σ H) ∧ ∀ i m σ H, W i m σ H →
      ((Itt K a).stop i H ∧ D.nx σ H) ∨ ((Itt K a).go i H ∧ ∃ N : St → Hp → Prop, (∀ σ' H', N σ' H' → ∃ m', m' < m ∧ W (i + 1) m' σ' H') ∧ ∀ x H', (Itt K a).yld i H x H' → g x σ H' fun σ2 H2 => tb { D with nx := N, ct := N, bk := D.nx } σ2 H2) := by
  refine ⟨fun i m σ H => m = xs.length - i ∧ i ≤ xs.length ∧ Pv i σ H, ⟨xs.length, by simp, Nat.zero_le _, h0⟩, ?_⟩
  rintro i m σ H ⟨rfl, hi, p⟩
  have q := hl i σ H hi p
  by_cases hlt : i < xs.length
  · refine .inr ⟨⟨xs, xs[i], q, by simp [hlt]⟩, Pv (i + 1), fun σ' H' p' => ⟨xs.length - (i + 1), by (first | lia | omega), rfl, hlt, p'⟩, fun x H' y => ?_⟩
    obtain ⟨e, y⟩ := y
    subst e
    exact hs i x σ _ (y xs q) p
  · have e : i = xs.length := by (first | lia | omega)
    subst e
    exact .inl ⟨⟨xs, q, Nat.le_refl _⟩, hd σ H p⟩
theorem for_range {lo : Int} {n : Nat} {g : TG} {tb : TS} {D : Ends} {σ : St} {H : Hp} (Pv : Nat → St → Hp → Prop) (h0 : Pv 0 σ H)
    (hs : ∀ i σ H, i < n → Pv i σ H → g (.int (lo + i)) σ H fun σ2 H2 => tb { D with nx := Pv (i + 1), ct := Pv (i + 1), bk := D.nx } σ2 H2) (hd : ∀ σ H, Pv n σ H → D.nx σ H) :
    ∃ W : Nat → Nat → St → Hp → Prop, (∃ m, W 0 m σ H) ∧ ∀ i m σ H, W i m σ H →
      ((Itr lo n).stop i H ∧ D.nx σ H) ∨ ((Itr lo n).go i H ∧ ∃ N : St → Hp → Prop, (∀ σ' H', N σ' H' → ∃ m', m' < m ∧ W (i + 1) m' σ' H') ∧ ∀ x H', (Itr lo n).yld i H x H' → g x σ H' fun σ2 H2 => tb { D with nx := N, ct := N, bk := D.nx } σ2 H2) := by
  refine ⟨fun i m σ H => m = n - i ∧ i ≤ n ∧ Pv i σ H, ⟨n, by simp, Nat.zero_le _, h0⟩, ?_⟩
  rintro i m σ H ⟨rfl, hi, p⟩
  by_cases hlt : i < n
  · refine .inr ⟨hlt, Pv (i + 1), fun σ' H' p' => ⟨n - (i + 1), by (first | lia | omega), rfl, hlt, p'⟩, fun x H' y => ?_⟩
    obtain ⟨e, y⟩ := y
    subst e y
    exact hs i σ _ hlt p
  · have e : i = n := by (first | lia | omega)
    subst e
    exact .inl ⟨Nat.le_refl _, hd σ H p⟩
end L2

namespace L2
open PySem PySem.Spec PyProof.Rows

abbrev R2 := V → V → Hp → VK → Prop
/-- a two-place operation on values: f is binaryOp op, inplaceOp op or compareOp op -/
def OpR (X : Cx) (f : Value → Value → Sem Value) (r : R2) : Prop :=
  ∀ (pins : List (Addr × Obj)) (s : Shared) (σ : St) (H : Hp) (x y : V) (v u : Value) (Q : VK), Inv X pins σ H s → RelV x v → RelV y u → r x y H Q →
    wpAny (model X.prog X.w) X.A (f v u) (EP X pins σ Q) X.xe s
/-- a one-place operation -/
def UnR (X : Cx) (f : Value → Sem Value) (r : V → Hp → VK → Prop) : Prop :=
  ∀ (pins : List (Addr × Obj)) (s : Shared) (σ : St) (H : Hp) (x : V) (v : Value) (Q : VK), Inv X pins σ H s → RelV x v → r x H Q →
    wpAny (model X.prog X.w) X.A (f v) (EP X pins σ Q) X.xe s
/-- a call of a value that is known (a builtin, a type) with values -/
def CallR (X : Cx) (f : Value) (r : List V → Hp → VK → Prop) : Prop :=
  ∀ (pins : List (Addr × Obj)) (s : Shared) (σ : St) (H : Hp) (xs : List V) (us : List Value) (Q : VK), Inv X pins σ H s → Vals xs us → r xs H Q →
    wpAny (model X.prog X.w) X.A (call f us) (EP X pins σ Q) X.xe s
/-- a value's truth -/
def TruR (X : Cx) (r : V → Hp → (Bool → Hp → Prop) → Prop) : Prop :=
  ∀ (pins : List (Addr × Obj)) (s : Shared) (σ : St) (H : Hp) (x : V) (v : Value) (Q : Bool → Hp → Prop), Inv X pins σ H s → RelV x v → r x H Q →
    wpAny (model X.prog X.w) X.A (truthy v) (TP X pins σ Q) X.xe s

def tOp (r : R2) (ta tb : TE) : TE := fun σ H Q => ta σ H fun x H1 => tb σ H1 fun y H2 => r x y H2 Q
def tUn (r : V → Hp → VK → Prop) (ta : TE) : TE := fun σ H Q => ta σ H fun x H1 => r x H1 Q
/-- ints in, under C, and a value out -/
def rI (C : Int → Int → Prop) (g : Int → Int → V) : R2 := fun x y H Q => ∃ i j, x = .int i ∧ y = .int j ∧ C i j ∧ Q (g i j) H
def rI0 (g : Int → Int → V) : R2 := fun x y H Q => ∃ i j, x = .int i ∧ y = .int j ∧ Q (g i j) H
def rU (g : Int → V) : V → Hp → VK → Prop := fun x H Q => ∃ i, x = .int i ∧ Q (g i) H

section
variable {X : Cx} {a b c : Expr} {ta tb tc : TE} {pos : Pos}

theorem binT (ha : PE X a ta) (hb : PE X b tb) {pins : List (Addr × Obj)} {s : Shared} {σ : St} {H : Hp} {R : V → V → Hp → Prop} (I : Inv X pins σ H s)
    (h : ta σ H fun x H1 => tb σ H1 fun y H2 => R x y H2) {Q : Value → Shared → Prop} {f : Value → Value → Sem Value}
    (hf : ∀ v u s2 x y H2, Inv X pins σ H2 s2 → RelV x v → RelV y u → R x y H2 → wpAny (model X.prog X.w) X.A (f v u) Q X.xe s2) :
    wpAny (model X.prog X.w) X.A (eval a X.env) (fun v s₁ => wpAny (model X.prog X.w) X.A (eval b X.env) (fun u s₂ => wpAny (model X.prog X.w) X.A (f v u) Q X.xe s₂) X.xe s₁) X.xe s := by
  refine thn (ha pins s σ H _ I h) fun v s1 ⟨x, H1, I1, r1, q1⟩ => ?_
  refine thn (hb pins s1 σ H1 _ I1 q1) fun u s2 ⟨y, H2, I2, r2, q2⟩ => ?_
  exact hf v u s2 x y H2 I2 r1 r2 q2

theorem pe_op {op : Operator} {r : R2} (ho : OpR X (binaryOp op) r) (ha : PE X a ta) (hb : PE X b tb) : PE X (.BinOp a op b pos) (tOp r ta tb) := by
  intro pins s σ H Q I h
  exact wpAny_BinOp (binT ha hb I h fun v u s2 x y H2 I2 rx ry q => ho pins s2 σ H2 x y v u Q I2 rx ry q)
theorem pe_un {op : UnaryOp} {r : V → Hp → VK → Prop} (ho : UnR X (unaryOp op) r) (ha : PE X a ta) : PE X (.UnaryOp op a pos) (tUn r ta) := by
  intro pins s σ H Q I h
  exact UnaryOp_ (thn (ha pins s σ H _ I h) fun v s1 ⟨x, H1, I1, r1, q1⟩ => ho pins s1 σ H1 x v Q I1 r1 q1)
/-! ### ints -/
theorem opI {f : Value → Value → Sem Value} {C : Int → Int → Prop} {g : Int → Int → Int}
    (rule : ∀ (i j : Int) (t u : Tok) (s : Shared) (Q : Value → Shared → Prop) (E : Value → Shared → Prop), C i j → Q (.int (g i j) s.toks) { s with toks := s.toks + 1 } → wpAny (model X.prog X.w) X.A (f (.int i t) (.int j u)) Q E s) :
    OpR X f (rI C fun i j => .int (g i j)) := by
  intro pins s σ H x y v u Q I rx ry h
  obtain ⟨i, j, rfl, rfl, hc, q⟩ := h
  obtain ⟨t, rfl⟩ := rx
  obtain ⟨t', rfl⟩ := ry
  exact rule i j t t' s _ _ hc ⟨.int (g i j), H, I.tok _, ⟨_, rfl⟩, q⟩
theorem opI0 {f : Value → Value → Sem Value} {g : Int → Int → Int}
    (rule : ∀ (i j : Int) (t u : Tok) (s : Shared) (Q : Value → Shared → Prop) (E : Value → Shared → Prop), Q (.int (g i j) s.toks) { s with toks := s.toks + 1 } → wpAny (model X.prog X.w) X.A (f (.int i t) (.int j u)) Q E s) :
    OpR X f (rI0 fun i j => .int (g i j)) := by
  intro pins s σ H x y v u Q I rx ry h
  obtain ⟨i, j, rfl, rfl, q⟩ := h
  obtain ⟨t, rfl⟩ := rx
  obtain ⟨t', rfl⟩ := ry
  exact rule i j t t' s _ _ ⟨.int (g i j), H, I.tok _, ⟨_, rfl⟩, q⟩
theorem opB0 {f : Value → Value → Sem Value} {g : Int → Int → Bool}
    (rule : ∀ (i j : Int) (t u : Tok) (s : Shared) (Q : Value → Shared → Prop) (E : Value → Shared → Prop), Q (.bool (g i j)) s → wpAny (model X.prog X.w) X.A (f (.int i t) (.int j u)) Q E s) :
    OpR X f (rI0 fun i j => .bl (g i j)) := by
  intro pins s σ H x y v u Q I rx ry h
  obtain ⟨i, j, rfl, rfl, q⟩ := h
  obtain ⟨t, rfl⟩ := rx
  obtain ⟨t', rfl⟩ := ry
  exact rule i j t t' s _ _ ⟨.bl (g i j), H, I, rfl, q⟩

def CDiv (i j : Int) : Prop := 0 < j ∧ j < 1073741824
def CMul (i j : Int) : Prop := (-(2 ^ 64) < i ∧ i < 2 ^ 64) ∨ (-(2 ^ 64) < j ∧ j < 2 ^ 64)
theorem CMul.ok {i j : Int} (h : CMul i j) : IntMulOk i j := by
  rcases h with ⟨h1, h2⟩ | ⟨h1, h2⟩
  · exact .of_left (intBits_le_64 h1 h2)
  · exact .of_right (intBits_le_64 h1 h2)
theorem op_add : OpR X (binaryOp .Add) (rI0 fun i j => .int (i + j)) := opI0 fun _ _ _ _ _ _ _ q => add_int q
theorem op_sub : OpR X (binaryOp .Sub) (rI0 fun i j => .int (i - j)) := opI0 fun _ _ _ _ _ _ _ q => sub_int q
theorem op_mul : OpR X (binaryOp .Mult) (rI CMul fun i j => .int (i * j)) := opI fun _ _ _ _ _ _ _ hc q => mul_int q hc.ok
/-- // by a positive divisor -/
theorem op_fdiv : OpR X (binaryOp .FloorDiv) (rI CDiv fun i j => .int (i / j)) := opI fun i j _ _ _ _ _ hc q => by
  have h1 : (0 : Int) < j := hc.1
  have h2 : j < 1073741824 := hc.2
  exact floordiv_int (by (first | lia | omega)) (by rw [Int.fdiv_eq_ediv_of_nonneg i (by (first | lia | omega))]; exact q) (.inl (PyProof.noPylong_small (by (first | lia | omega))))
/-- % by a positive divisor of any size -/
theorem op_mod : OpR X (binaryOp .Mod) (rI (fun _ j => 0 < j) fun i j => .int (i % j)) := opI fun i j _ _ _ _ _ hc q => by
  have h1 : (0 : Int) < j := hc
  exact mod_int' (by (first | lia | omega)) (by rw [Int.fmod_eq_emod_of_nonneg i (by (first | lia | omega))]; exact q)
theorem unI {f : Value → Sem Value} {g : Int → Int}
    (rule : ∀ (i : Int) (t : Tok) (s : Shared) (Q : Value → Shared → Prop) (E : Value → Shared → Prop), Q (.int (g i) s.toks) { s with toks := s.toks + 1 } → wpAny (model X.prog X.w) X.A (f (.int i t)) Q E s) :
    UnR X f (rU fun i => .int (g i)) := by
  intro pins s σ H x v Q I rx h
  obtain ⟨i, rfl, q⟩ := h
  obtain ⟨t, rfl⟩ := rx
  exact rule i t s _ _ ⟨.int (g i), H, I.tok _, ⟨_, rfl⟩, q⟩
theorem un_neg : UnR X (unaryOp .USub) (rU fun i => .int (-i)) := unI fun _ _ _ _ _ q => neg_int q
/-! ### bools among ints: n += (a < b) -/
end

/-! ### comparisons -/
/-- the scalars that == tells apart as data does -/
def scal : V → V → Bool
  | .non, .non => true | .non, .int _ => true | .int _, .non => true | .non, .bl _ => true | .bl _, .non => true | .non, .str _ => true | .str _, .non => true
  | .int _, .int _ => true | .bl _, .bl _ => true | .str _, .str _ => true | .byt _, .byt _ => true
  | .int _, .str _ => true | .str _, .int _ => true | .bl _, .str _ => true | .str _, .bl _ => true
  | _, _ => false
def rEq : R2 := fun x y H Q => scal x y = true ∧ Q (.bl (decide (x = y))) H
def rNe : R2 := fun x y H Q => scal x y = true ∧ Q (.bl (!decide (x = y))) H

theorem dec_int {i j : Int} : decide (V.int i = V.int j) = (i == j) := by
  rw [Bool.eq_iff_iff]
  simp
theorem dec_bl {i j : Bool} : decide (V.bl i = V.bl j) = (i == j) := by
  rw [Bool.eq_iff_iff]
  simp
theorem dec_str {i j : Str} : decide (V.str i = V.str j) = (i == j) := by
  rw [Bool.eq_iff_iff]
  simp
theorem dec_byt {i j : Array UInt8} : decide (V.byt i = V.byt j) = (i.toList == j.toList) := by
  rw [Bool.eq_iff_iff]
  cases i
  cases j
  simp

section
variable {X : Cx} {a b c : Expr} {ta tb tc : TE} {pos : Pos}
theorem fin_bl {pins : List (Addr × Obj)} {σ : St} {H : Hp} {s : Shared} {Q : VK} {k k' : Bool} (I : Inv X pins σ H s) (q : Q (.bl k) H) (e : k = k') : EP X pins σ Q (.bool k') s := by
  subst e
  exact ⟨.bl k, H, I, rfl, q⟩
theorem op_eq : OpR X (compareOp .Eq) rEq := by
  intro pins s σ H x y v u Q I rx ry h
  obtain ⟨hs, q⟩ := h
  cases x with
  | non =>
    cases rx
    cases y with
    | non => cases ry; exact PySem.EqNone.eq_none_none (fin_bl I q (by simp))
    | bl j => cases ry; exact PySem.EqNone.eq_none_bool (fin_bl I q (by simp))
    | int j => obtain ⟨t', rfl⟩ := ry; exact PySem.EqNone.eq_none_int (fin_bl I q (by simp))
    | str j => obtain ⟨t', rfl⟩ := ry; exact PySem.EqNone.eq_none_str (fin_bl I q (by simp))
    | _ => exact absurd (show false = true from hs) Bool.false_ne_true
  | bl i =>
    cases rx
    cases y with
    | non => cases ry; exact PySem.EqNone.eq_bool_none (fin_bl I q (by simp))
    | bl j => cases ry; exact eq_bool (fin_bl I q dec_bl)
    | str j => obtain ⟨t', rfl⟩ := ry; exact PySem.EqMixed.eq_bool_str (fin_bl I q (by simp))
    | _ => exact absurd (show false = true from hs) Bool.false_ne_true
  | int i =>
    obtain ⟨t, rfl⟩ := rx
    cases y with
    | non => cases ry; exact PySem.EqNone.eq_int_none (fin_bl I q (by simp))
    | int j => obtain ⟨t', rfl⟩ := ry; exact eq_int (fin_bl I q dec_int)
    | str j => obtain ⟨t', rfl⟩ := ry; exact PySem.EqMixed.eq_int_str (fin_bl I q (by simp))
    | _ => exact absurd (show false = true from hs) Bool.false_ne_true
  | str i =>
    obtain ⟨t, rfl⟩ := rx
    cases y with
    | non => cases ry; exact PySem.EqNone.eq_str_none (fin_bl I q (by simp))
    | bl j => cases ry; exact PySem.EqMixed.eq_str_bool (fin_bl I q (by simp))
    | int j => obtain ⟨t', rfl⟩ := ry; exact PySem.EqMixed.eq_str_int (fin_bl I q (by simp))
    | str j => obtain ⟨t', rfl⟩ := ry; exact eq_str (fin_bl I q dec_str)
    | _ => exact absurd (show false = true from hs) Bool.false_ne_true
  | byt i =>
    obtain ⟨t, rfl⟩ := rx
    cases y with
    | byt j => obtain ⟨t', rfl⟩ := ry; exact PySem.W.eq_bytes (fin_bl I q dec_byt)
    | _ => exact absurd (show false = true from hs) Bool.false_ne_true
  | _ => cases y <;> exact absurd (show false = true from hs) Bool.false_ne_true
theorem op_ne : OpR X (compareOp .NotEq) rNe := by
  intro pins s σ H x y v u Q I rx ry h
  obtain ⟨hs, q⟩ := h
  cases x with
  | non =>
    cases rx
    cases y with
    | non => cases ry; exact PySem.EqNone.ne_none_none (fin_bl I q (by simp))
    | bl j => cases ry; exact PySem.EqNone.ne_none_bool (fin_bl I q (by simp))
    | int j => obtain ⟨t', rfl⟩ := ry; exact PySem.EqNone.ne_none_int (fin_bl I q (by simp))
    | str j => obtain ⟨t', rfl⟩ := ry; exact PySem.EqNone.ne_none_str (fin_bl I q (by simp))
    | _ => exact absurd (show false = true from hs) Bool.false_ne_true
  | bl i =>
    cases rx
    cases y with
    | non => cases ry; exact PySem.EqNone.ne_bool_none (fin_bl I q (by simp))
    | bl j => cases ry; exact ne_bool (fin_bl I q (congrArg not dec_bl))
    | str j => obtain ⟨t', rfl⟩ := ry; exact PySem.EqMixed.ne_bool_str (fin_bl I q (by simp))
    | _ => exact absurd (show false = true from hs) Bool.false_ne_true
  | int i =>
    obtain ⟨t, rfl⟩ := rx
    cases y with
    | non => cases ry; exact PySem.EqNone.ne_int_none (fin_bl I q (by simp))
    | int j => obtain ⟨t', rfl⟩ := ry; exact ne_int (fin_bl I q (congrArg not dec_int))
    | str j => obtain ⟨t', rfl⟩ := ry; exact PySem.EqMixed.ne_int_str (fin_bl I q (by simp))
    | _ => exact absurd (show false = true from hs) Bool.false_ne_true
  | str i =>
    obtain ⟨t, rfl⟩ := rx
    cases y with
    | non => cases ry; exact PySem.EqNone.ne_str_none (fin_bl I q (by simp))
    | bl j => cases ry; exact PySem.EqMixed.ne_str_bool (fin_bl I q (by simp))
    | int j => obtain ⟨t', rfl⟩ := ry; exact PySem.EqMixed.ne_str_int (fin_bl I q (by simp))
    | str j => obtain ⟨t', rfl⟩ := ry; exact ne_str (fin_bl I q (congrArg not dec_str))
    | _ => exact absurd (show false = true from hs) Bool.false_ne_true
  | byt i =>
    obtain ⟨t, rfl⟩ := rx
    cases y with
    | byt j => obtain ⟨t', rfl⟩ := ry; exact PySem.W.ne_bytes (fin_bl I q (congrArg not dec_byt))
    | _ => exact absurd (show false = true from hs) Bool.false_ne_true
  | _ => cases y <;> exact absurd (show false = true from hs) Bool.false_ne_true

theorem op_lt : OpR X (compareOp .Lt) (rI0 fun i j => .bl (decide (i < j))) := opB0 fun _ _ _ _ _ _ _ q => lt_int q
theorem op_le : OpR X (compareOp .LtE) (rI0 fun i j => .bl (decide (i ≤ j))) := opB0 fun _ _ _ _ _ _ _ q => le_int q
theorem op_gt : OpR X (compareOp .Gt) (rI0 fun i j => .bl (decide (j < i))) := opB0 fun _ _ _ _ _ _ _ q => gt_int q
theorem nomark (b : Expr) {op : CmpOp} (h : op ≠ .In := by decide) (h2 : op ≠ .NotIn := by decide) : behindInMarks op b = false := by
  have e1 : (op == CmpOp.In) = false := by cases op <;> first | rfl | exact absurd rfl h
  have e2 : (op == CmpOp.NotIn) = false := by cases op <;> first | rfl | exact absurd rfl h2
  cases b <;> simp [behindInMarks, e1, e2]
/-- a comparison as a value; hm: nomark b, or (for in, not in) by with_unfolding_all rfl -/
theorem pe_cmpR {op : CmpOp} {r : R2} (ho : OpR X (compareOp op) r) (ha : PE X a ta) (hb : PE X b tb) (hm : behindInMarks op b = false) : PE X (.Compare a [op] [b] pos) (tOp r ta tb) := by
  intro pins s σ H Q I h
  exact wpAny_Compare1 (binT ha hb I h fun v u s2 x y H2 I2 rx ry q => ho pins s2 σ H2 x y v u Q I2 rx ry q) hm
/-- a reading of a value as a test -/
def tTest (t : TE) : TT := fun σ H Q => t σ H fun x H' => ∃ k, x = .bl k ∧ Q k H'
theorem pt_cmpR {op : CmpOp} {r : R2} (ho : OpR X (compareOp op) r) (ha : PE X a ta) (hb : PE X b tb) (hm : behindInMarks op b = false) : PT X (.Compare a [op] [b] pos) (tTest (tOp r ta tb)) := by
  intro pins s σ H Q I h
  refine wpAny_isTrue_Compare1 (thn (ha pins s σ H _ I h) fun v s1 ⟨x, H1, I1, r1, q1⟩ => thn (hb pins s1 σ H1 _ I1 q1) fun u s2 ⟨y, H2, I2, r2, q2⟩ =>
    thn (ho pins s2 σ H2 x y v u _ I2 r1 r2 q2) fun c s3 ⟨z, H3, I3, r3, k, e, q3⟩ => ?_) hm
  subst e
  cases r3
  exact wpAny_truthy_bool ⟨H3, I3, q3⟩
/-- a op1 b op2 c -/
def tChain (r r' : R2) (ta tb tc : TE) : TE := fun σ H Q => ta σ H fun x H1 => tb σ H1 fun y H2 => r x y H2 fun z H3 => ∃ k, z = .bl k ∧
  (if k = true then tc σ H3 fun w' H4 => r' y w' H4 Q else Q (.bl false) H3)
theorem pe_chain {op op' : CmpOp} {r r' : R2} (ho : OpR X (compareOp op) r) (ho' : OpR X (compareOp op') r') (ha : PE X a ta) (hb : PE X b tb) (hc : PE X c tc)
    (hm : lastMarks [op, op'] [b, c] = false := by with_unfolding_all rfl) : PE X (.Compare a [op, op'] [b, c] pos) (tChain r r' ta tb tc) := by
  intro pins s σ H Q I h
  refine Compare_chain (thn (ha pins s σ H _ I h) fun v s1 ⟨x, H1, I1, r1, q1⟩ => chain_link (thn (hb pins s1 σ H1 _ I1 q1) fun u s2 ⟨y, H2, I2, r2, q2⟩ =>
    thn (ho pins s2 σ H2 x y v u _ I2 r1 r2 q2) fun d s3 ⟨z, H3, I3, r3, k, e, q3⟩ => ?_)) hm
  subst e
  cases r3
  refine wpAny_truthy_bool ?_
  cases k with
  | false => exact ite_ff ⟨.bl false, H3, I3, rfl, q3⟩
  | true => exact ite_tt (chain_last (thn (hc pins s3 σ H3 _ I3 q3) fun w' s4 ⟨z', H4, I4, r4, q4⟩ => ho' pins s4 σ H4 y z' u w' Q I4 r2 r4 q4))
theorem pt_chain {op op' : CmpOp} {r r' : R2} (ho : OpR X (compareOp op) r) (ho' : OpR X (compareOp op') r') (ha : PE X a ta) (hb : PE X b tb) (hc : PE X c tc)
    (hm : lastMarks [op, op'] [b, c] = false := by with_unfolding_all rfl) : PT X (.Compare a [op, op'] [b, c] pos) (tTest (tChain r r' ta tb tc)) := by
  intro pins s σ H Q I h
  refine isTrue_chain (thn (ha pins s σ H _ I h) fun v s1 ⟨x, H1, I1, r1, q1⟩ => test_link (thn (hb pins s1 σ H1 _ I1 q1) fun u s2 ⟨y, H2, I2, r2, q2⟩ =>
    thn (ho pins s2 σ H2 x y v u _ I2 r1 r2 q2) fun d s3 ⟨z, H3, I3, r3, k, e, q3⟩ => ?_)) hm
  subst e
  cases r3
  refine wpAny_truthy_bool ?_
  cases k with
  | false =>
    obtain ⟨k', e', q'⟩ := q3
    cases e'
    exact ite_ff ⟨H3, I3, q'⟩
  | true =>
    refine ite_tt (test_last (thn (hc pins s3 σ H3 _ I3 q3) fun w' s4 ⟨z', H4, I4, r4, q4⟩ => thn (ho' pins s4 σ H4 y z' u w' _ I4 r2 r4 q4) fun d' s5 ⟨z2, H5, I5, r5, k2, e2, q5⟩ => ?_))
    subst e2
    cases r5
    exact wpAny_truthy_bool ⟨H5, I5, q5⟩

/-! ### truth -/
/-- a value's truth by the abstract heap -/
def TruV (K : PySem.W.Frag) (x : V) (H : Hp) (k : Bool) : Prop :=
  match x with
  | .non => k = false
  | .bl b => k = b
  | .int i => k = (i != 0)
  | .str y => y.length ≤ sizeLine ∧ k = ((y.length : Int) != 0)
  | .byt y => y.size ≤ sizeLine ∧ k = ((y.size : Int) != 0)
  | .ref p => (∃ xs, SqL K H p xs ∧ k = !xs.isEmpty) ∨ (∃ xs, SqT K H p xs ∧ k = !xs.isEmpty) ∨ ∃ kvs, H p = some (.dK kvs) ∧ k = !kvs.isEmpty
  | _ => False
theorem isEmpty_kv {κ : Type} {kvs : List (κ × V)} {vs : List (κ × Value)} (r : KV kvs vs) : (!vs.isEmpty) = !kvs.isEmpty := by
  cases r <;> rfl
theorem isEmpty_of {xs : List V} {its : List Value} (r : Vals xs its) : (!its.toArray.isEmpty) = !xs.isEmpty := by
  cases r <;> simp
theorem line63 : (sizeLine : Nat) < 2 ^ 63 := by rw [sizeLine_eq]; decide
theorem tru_ok : TruR X (fun x H Q => ∃ k, TruV X.K x H k ∧ Q k H) := by
  intro pins s σ H x v Q I rx h
  obtain ⟨k, e, q⟩ := h
  have hl := line63
  have hs : sizeLine = 16777216 := sizeLine_eq
  cases x with
  | non =>
    cases rx
    have e' : k = false := e
    subst e'
    exact truthy_none ⟨H, I, q⟩
  | bl b =>
    cases rx
    have e' : k = b := e
    subst e'
    exact wpAny_truthy_bool ⟨H, I, q⟩
  | int i =>
    obtain ⟨t, rfl⟩ := rx
    have e' : k = (i != 0) := e
    subst e'
    exact PySem.P.truthy_int ⟨H, I, q⟩
  | str y =>
    obtain ⟨t, rfl⟩ := rx
    obtain ⟨hy, e'⟩ : y.length ≤ sizeLine ∧ k = ((y.length : Int) != 0) := e
    subst e'
    exact PySem.P.truthy_str (by (first | lia | omega)) ⟨H, I.tok _, q⟩
  | byt y =>
    obtain ⟨t, rfl⟩ := rx
    obtain ⟨hy, e'⟩ : y.size ≤ sizeLine ∧ k = ((y.size : Int) != 0) := e
    subst e'
    exact PySem.W.truthy_bytes (by (first | lia | omega)) ⟨H, I.tok _, q⟩
  | ref p =>
    cases rx
    have e' : (∃ xs, SqL X.K H p xs ∧ k = !xs.isEmpty) ∨ (∃ xs, SqT X.K H p xs ∧ k = !xs.isEmpty) ∨ ∃ kvs, H p = some (.dK kvs) ∧ k = !kvs.isEmpty := e
    rcases e' with ⟨xs, hx, e'⟩ | ⟨xs, hx, e'⟩ | ⟨kvs, hx, e'⟩
    · subst e'
      obtain ⟨its, r, pl, hz⟩ := I.list hx
      have hlen := r.length
      exact wpAny_truthy_list pl.isList (by simp only [List.size_toArray]; (first | lia | omega)) ⟨H, I.tok _, by rw [isEmpty_of r]; exact q⟩
    · subst e'
      obtain ⟨its, r, pl, hz⟩ := I.tuple hx
      have hlen := r.length
      exact truthy_tuple pl (by simp only [List.size_toArray]; (first | lia | omega)) ⟨H, I.tok _, by rw [isEmpty_of r]; exact q⟩
    · subst e'
      obtain ⟨hz, hS, vs, r, m⟩ : kvs.length ≤ sizeLine ∧ (p == sysModules) = false ∧ ∃ vs, KV kvs vs ∧ s.heap.DictOf (mixKind X.prog X.w) p vs := I.hok p _ hx
      have hlen : kvs.length = vs.length := Paired.length r
      exact wpAny_truthy_dict hS m (by (first | lia | omega)) ⟨H, I.tok _, by rw [isEmpty_kv r]; exact q⟩
  | _ => exact (show False from e).elim
/-- any expression whose test is its value's truth (a name, a call, a subscript, a field ..: he by fun _ => rfl) -/
theorem pt_truth (ha : PE X a ta) (he : ∀ whole, isTrue a X.env whole = (do let v ← whole; standAt a.pos; holding [v] (truthy v))) :
    PT X a (fun σ H Q => ta σ H fun x H' => ∃ k, TruV X.K x H' k ∧ Q k H') := by
  intro pins s σ H Q I h
  exact isTrue_plain (thn (ha pins s σ H _ I h) fun v s1 ⟨x, H1, I1, r1, q1⟩ => tru_ok pins s1 σ H1 x v Q I1 r1 q1) (he _)

/-! ### strs and bytes -/
theorem op_add_str : OpR X (binaryOp .Add) (fun x y H Q => ∃ i j, x = .str i ∧ y = .str j ∧ i.length + j.length ≤ sizeLine ∧ Q (.str (i ++ j)) H) := by
  intro pins s σ H x y v u Q I rx ry h
  obtain ⟨i, j, rfl, rfl, hz, q⟩ := h
  obtain ⟨t, rfl⟩ := rx
  obtain ⟨t', rfl⟩ := ry
  exact add_str (fun t' tk => ⟨.str (i ++ j), H, I.tok _, ⟨_, rfl⟩, q⟩) hz
/-! ### scalar builtins, by CallR -/
theorem vals1 {x : V} {us : List Value} (r : Vals [x] us) : ∃ u, us = [u] ∧ RelV x u := by
  cases r with
  | cons r1 r2 => cases r2; exact ⟨_, rfl, r1⟩
theorem vals2 {x y : V} {us : List Value} (r : Vals [x, y] us) : ∃ u w', us = [u, w'] ∧ RelV x u ∧ RelV y w' := by
  cases r with
  | cons r1 r2 =>
    cases r2 with
    | cons r3 r4 => cases r4; exact ⟨_, _, rfl, r1, r3⟩
theorem call_min2 (hc : X.calm = true) : CallR X (.builtin "min") (fun xs H Q => ∃ i j, xs = [.int i, .int j] ∧ Q (.int (if j < i then j else i)) H) := by
  intro pins s σ H xs us Q I r h
  obtain ⟨i, j, rfl, q⟩ := h
  obtain ⟨u, w', rfl, ⟨t, rfl⟩, ⟨t', rfl⟩⟩ := vals2 r
  refine min_two_ints (I.ok.hd hc) fun h' tk k => ⟨_, H, I.kept k, ?_, q⟩
  by_cases hj : j < i
  · rw [if_pos hj, if_pos hj]; exact ⟨_, rfl⟩
  · rw [if_neg hj, if_neg hj]; exact ⟨_, rfl⟩
end
end L2

namespace L2
open PySem PySem.Spec PyProof.Rows

/-! ### an instance, its attributes a map -/
structure ObjM (h : Heap) (x dx C : Addr) (mA : Str → Option Value) : Prop where
  obj : h.get? x = some (PySem.W.instObj C dx)
  ns : h.Ns1 dx mA
  ne : dx ≠ x

theorem lookIn_ns {h : Heap} {dx : Addr} {mA : Str → Option Value} (n : h.Ns1 dx mA) : ∃ od, h.get? dx = some od ∧ ∀ name, PySem.W.lookIn name od = some (mA name) := by
  obtain ⟨o, es, ep, ho, hd, hk, _, hm⟩ := n
  refine ⟨o, ho, fun name => ?_⟩
  have e := hm name
  unfold nsFind findBy at e
  rw [← Array.find?_toList] at e
  unfold PySem.W.lookIn
  rw [hd]
  dsimp only
  split
  · rename_i y q
    rw [q] at e
    exact congrArg some e
  · rename_i q
    rw [q] at e
    have a : es.toList.any (·.refKey) = false := by
      rw [List.any_eq_false]
      intro y hy
      obtain ⟨z, t, hkey⟩ := hk y (Array.mem_toList_iff.mp hy)
      simp [DictEntry.refKey, hkey]
    have a' : ¬ es.toList.any (·.refKey) = true := by rw [a]; exact Bool.false_ne_true
    rw [if_neg a']
    exact congrArg some e

theorem ObjM.look {h : Heap} {x dx C : Addr} {mA : Str → Option Value} (I : ObjM h x dx C mA) : ∃ od, PySem.W.InstAt h x (PySem.W.instObj C dx) C (some od) ∧ ∀ name, PySem.W.lookIn name od = some (mA name) :=
  let ⟨od, ho, hl⟩ := lookIn_ns I.ns
  ⟨od, ⟨I.obj, rfl, rfl, ho⟩, hl⟩

section
variable {prog : Program} {w : World} {A : Around} {E : Value → Shared → Prop} {s : Shared} {K : PySem.W.Frag} {x dx C f : Addr} {mA : Str → Option Value} {name : Str} {v : Value}

theorem get_map {expr : Bool} {Q : Value → Shared → Prop} (X : K.In s.heap) (I : ObjM s.heap x dx C mA) (hg : PySem.W.plainGet K C name = true) (hh : PySem.W.hasDictIn K C = true)
    (ha : PySem.W.findIn K (.ref C) name = some none) (hv : mA name = some v) (hv' : PySem.W.handedIn v = true) (h : Q v { s with toks := s.toks + 1 }) :
    wpAny (model prog w) A (getAttr (.ref x) name expr) Q E s := by
  obtain ⟨od, J, hl⟩ := I.look
  exact PySem.W.get_value X J (PySem.W.plainGet_of hg).1 (PySem.W.findObj_own hh ha rfl (by rw [hl, hv])) hv' h

theorem get_meth {pl : Sem Bool} {Q : Value × List Value → Shared → Prop} (X : K.In s.heap) (I : ObjM s.heap x dx C mA) (hg : PySem.W.plainGet K C name = true)
    (hf : PySem.W.findIn K (.ref C) name = some (some (.ref f))) (ht : PySem.W.isFn K (.ref f) = true) (hv : mA name = none) (h : Q (.ref f, [.ref x]) s) :
    wpAny (model prog w) A (getMethod (.ref x) name pl) Q E s := by
  obtain ⟨od, J, hl⟩ := I.look
  exact PySem.W.method_fn X J (PySem.W.plainGet_of hg).1 (PySem.W.plainGet_of hg).2 hf (beq_iff_eq.mp ht) (by show (PySem.W.lookIn name od).map (·.isSome) = some false; rw [hl, hv]; rfl) h

theorem set_map {ns : List Str} {Q : Unit → Shared → Prop} (X : K.In s.heap) (I : ObjM s.heap x dx C mA)
    (hs : PySem.W.findIn K (.ref C) "__setattr__" = some (some (.builtin "object.__setattr__"))) (hp : PySem.W.plainOver K C = true) (ht : PySem.W.takerIn K C name = some none) (hh : PySem.W.hasDictIn K C = true)
    (hw : PySem.Within mA ns) (hsz : ns.length ≤ sizeLine)
    (h : ∀ h', ObjM h' x dx C (fun y => if y = name then some v else mA y) → Heap.SameBut dx s.heap h' → Q () { s with heap := h', toks := s.toks + 2 }) :
    wpAny (model prog w) A (setAttr (.ref x) name v) Q E s := by
  obtain ⟨od, J, hl⟩ := I.look
  refine PySem.W.set_plain X J hs (PySem.W.osa_open (s := { s with toks := s.toks + 1 }) (r := none) X J hp ht fun b => ?_)
  obtain ⟨cd, hc, hd'⟩ := PySem.W.any_some hh
  have hx : s.heap.get? x = some ⟨.ref C, some dx, .plain, #[]⟩ := I.obj
  refine wpAny_bind (wpAny_pure (wpAny_bind (wpAny_bind (wpAny_loadPart hx (wpAny_bind (PySem.W.Looks.here (s := { s with toks := s.toks + 1 }) (PySem.W.looks_clsIn X hc) ?_))))))
  rw [hd']
  refine wpAny_pure (a := some dx) (wpAny_bind (wpAny_pure (wpAny_bind ?_)))
  refine wpAny_nsSet1 (s := { s with toks := s.toks + 1 }) I.ns fun h' hn2 hs2 => ?_
  obtain ⟨oD, esD, epD, hoD, hdD, hcD⟩ := hn2.count (PySem.Within.cons name v hw)
  refine wpAny_bind (wpAny_lookBehind hoD (by rw [hdD]; exact pastItsLine_dict (Nat.le_trans hcD (by rw [List.length_cons]; (first | lia | omega)))) ?_)
  exact wpAny_pure (h _ ⟨(hs2.2 _ (Ne.symm I.ne)).trans I.obj, hn2, I.ne⟩ hs2)

/-- C(..): the dict at the heap's end, the instance behind it; then its __init__ -/
theorem make_map {R : Result → Shared → Prop} {vs : List Value} {kw : List (Str × Value)} (X : K.In s.heap) (hm : PySem.W.makesIn K C = true)
    (hi : PySem.W.findIn K (.ref C) "__init__" = some (some (.ref f))) (hf : PySem.W.typeIn K (.ref f) = some (.type "function"))
    (h : codeAny (model prog w) (A.under (.builtin "type.__call__" ⟨.ref C :: vs, kw⟩)) (.call (.ref f) ⟨.ref (s.heap.objs.size + 1) :: vs, kw⟩) (PySem.W.InitBack (s.heap.objs.size + 1) R)
      { s with heap := (s.heap.push PySem.W.emptyDict).push (PySem.W.instObj C s.heap.objs.size) }) :
    codeAny (model prog w) A (.call (.ref C) ⟨vs, kw⟩) R s := by
  obtain ⟨hh, g, d, t, os⟩ := s
  exact PySem.W.make_core (PySem.W.makes_of X hm) (PySem.W.looks_findIn X hi) (fun self => PySem.W.bind_fn X self hf) (.inl rfl) h
end

/-! ### the attributes as a list of pairs -/
def putF (f : Str) (v : V) : List (Str × V) → List (Str × V)
  | [] => [(f, v)]
  | (g, x) :: r => if g = f then (g, v) :: r else (g, x) :: putF f v r
theorem lookup_putF (f g : Str) (v : V) : ∀ fs : List (Str × V), (putF f v fs).lookup g = if g = f then some v else fs.lookup g
  | [] => by
    show List.lookup g [(f, v)] = _
    by_cases h : g = f
    · have hb : (g == f) = true := beq_iff_eq.mpr h
      simp only [List.lookup, hb, if_pos h]
    · have hb : (g == f) = false := beq_eq_false_iff_ne.mpr h
      simp only [List.lookup, hb, if_neg h]
  | (k, x) :: r => by
    have ih := lookup_putF f g v r
    rw [show putF f v ((k, x) :: r) = (if k = f then (k, v) :: r else (k, x) :: putF f v r) from rfl]
    by_cases hk : k = f
    · rw [if_pos hk]
      by_cases h : g = k
      · have hb : (g == k) = true := beq_iff_eq.mpr h
        simp only [List.lookup, hb, if_pos (h.trans hk)]
      · have hb : (g == k) = false := beq_eq_false_iff_ne.mpr h
        simp only [List.lookup, hb, if_neg (fun e : g = f => h (e.trans hk.symm))]
    · rw [if_neg hk]
      by_cases h : g = k
      · have hb : (g == k) = true := beq_iff_eq.mpr h
        simp only [List.lookup, hb, if_neg (fun e : g = f => hk (h.symm.trans e))]
      · have hb : (g == k) = false := beq_eq_false_iff_ne.mpr h
        simp only [List.lookup, hb]
        exact ih
theorem keys_putF (f : Str) (v : V) : ∀ fs : List (Str × V), f ∈ (putF f v fs).map (·.1) ∧ ∀ g, g ∈ fs.map (·.1) → g ∈ (putF f v fs).map (·.1)
  | [] => ⟨by simp [putF], fun g h => by simp at h⟩
  | (k, x) :: r => by
    obtain ⟨i1, i2⟩ := keys_putF f v r
    rw [show putF f v ((k, x) :: r) = (if k = f then (k, v) :: r else (k, x) :: putF f v r) from rfl]
    by_cases hk : k = f
    · rw [if_pos hk]
      subst hk
      exact ⟨by simp, fun g h => by simpa using h⟩
    · rw [if_neg hk]
      refine ⟨?_, fun g h => ?_⟩
      · rw [List.map_cons]
        exact List.mem_cons_of_mem _ i1
      · rw [List.map_cons] at h ⊢
        rcases List.mem_cons.mp h with e | e
        · exact List.mem_cons.mpr (.inl e)
        · exact List.mem_cons_of_mem _ (i2 g e)
theorem length_putF (f : Str) (v : V) : ∀ fs : List (Str × V), (putF f v fs).length ≤ fs.length + 1
  | [] => by simp [putF]
  | (k, x) :: r => by
    have ih := length_putF f v r
    rw [show putF f v ((k, x) :: r) = (if k = f then (k, v) :: r else (k, x) :: putF f v r) from rfl]
    by_cases hk : k = f
    · rw [if_pos hk, List.length_cons, List.length_cons]; (first | lia | omega)
    · rw [if_neg hk, List.length_cons, List.length_cons]; (first | lia | omega)

theorem RelO.some_of {v : V} {o : Option Value} (r : RelO (some v) o) : ∃ u, o = some u ∧ RelV v u := by
  cases o with
  | none => exact (show False from r).elim
  | some u => exact ⟨u, rfl, r⟩
theorem RelO.none_of {o : Option Value} (r : RelO none o) : o = none := by
  cases o with
  | none => rfl
  | some u => exact (show False from r).elim
theorem handed_of {v : V} {u : Value} (r : RelV v u) : PySem.W.handedIn u = true := by
  cases v with
  | non => cases (show u = Value.none from r); rfl
  | bl b => cases (show u = Value.bool b from r); rfl
  | int i => obtain ⟨t, e⟩ := (show ∃ t, u = Value.int i t from r); cases e; rfl
  | str x => obtain ⟨t, e⟩ := (show ∃ t, u = Value.str x t from r); cases e; rfl
  | byt b => obtain ⟨t, e⟩ := (show ∃ t, u = Value.bytes b t from r); cases e; rfl
  | flt b => obtain ⟨t, e⟩ := (show ∃ t, u = Value.float b t from r); cases e; rfl
  | ref a => cases (show u = Value.ref a from r); rfl
  | ty n => cases (show u = Value.type n from r); rfl

section
variable {P : Program} {w : World} {H H' : Hp} {h h' : Heap} {a C dx : Addr} {fs fs' : List (Str × V)}
theorem ins_get (hok : HOk P w H h) (e : H a = some (.ins C dx fs)) : ∃ mA, ObjM h a dx C mA ∧ (∀ f, RelO (fs.lookup f) (mA f)) ∧ PySem.Within mA (fs.map (·.1)) ∧ fs.length ≤ 1000 ∧ H dx = some (.own a) := by
  obtain ⟨d, z, ne, ob, mA, n, r, q⟩ := (show ObjOk P w H h a (.ins C dx fs) from hok a _ e)
  exact ⟨mA, ⟨ob, n, ne⟩, r, q, z, d⟩
end

/-! ### what of the text a class must have -/
structure Cls (K : PySem.W.Frag) (C : Addr) : Prop where
  pg : PySem.W.plainGet K C Str.empty = true
  hd : PySem.W.hasDictIn K C = true
  po : PySem.W.plainOver K C = true
  sa : PySem.W.findIn K (.ref C) "__setattr__" = some (some (.builtin "object.__setattr__"))
theorem Cls.get {K : PySem.W.Frag} {C : Addr} (c : Cls K C) (f : Str) : PySem.W.plainGet K C f = true := c.pg
/-- no class of it has the name -/
def NoAttr (K : PySem.W.Frag) (C : Addr) (f : Str) : Prop := PySem.W.findIn K (.ref C) f = some none
theorem NoAttr.taker {K : PySem.W.Frag} {C : Addr} {f : Str} (n : NoAttr K C f) : PySem.W.takerIn K C f = some none := by
  unfold PySem.W.takerIn
  rw [show PySem.W.findIn K (.ref C) f = some none from n]
  rfl
/-- a method: a plain def of the class or of one above it -/
structure Meth (K : PySem.W.Frag) (C : Addr) (m : Str) (f : Addr) : Prop where
  at_ : PySem.W.findIn K (.ref C) m = some (some (.ref f))
  fn : PySem.W.isFn K (.ref f) = true
  kp : PySem.W.keepIn K (.ref f) = true

section
variable {X : Cx} {pins : List (Addr × Obj)} {σ : St} {H : Hp} {s : Shared} {a C dx : Addr} {fs : List (Str × V)} {f : Str} {v : V} {A : Around} {E : Value → Shared → Prop}

theorem getattr_ok {b : Bool} {Q : Value → Shared → Prop} (I : Inv X pins σ H s) (e : H a = some (.ins C dx fs)) (c : Cls X.K C) (n : NoAttr X.K C f) (l : fs.lookup f = some v)
    (h : ∀ u s', Inv X pins σ H s' → RelV v u → Q u s') : wpAny (model X.prog X.w) A (getAttr (.ref a) f b) Q E s := by
  obtain ⟨mA, O, r, _, _, _⟩ := ins_get I.hok e
  obtain ⟨u, hu, ru⟩ := RelO.some_of (v := v) (o := mA f) (by rw [← l]; exact r f)
  exact get_map I.kIn O (c.get f) c.hd n hu (handed_of ru) (h u _ (I.tok _) ru)

theorem getmeth_ok {m : Str} {g : Addr} {pl : Sem Bool} {Q : Value × List Value → Shared → Prop} (I : Inv X pins σ H s) (e : H a = some (.ins C dx fs)) (c : Cls X.K C) (k : Meth X.K C m g) (l : fs.lookup m = none)
    (h : Q (.ref g, [.ref a]) s) : wpAny (model X.prog X.w) A (getMethod (.ref a) m pl) Q E s := by
  obtain ⟨mA, O, r, _, _, _⟩ := ins_get I.hok e
  have hn : mA m = none := RelO.none_of (by rw [← l]; exact r m)
  exact get_meth I.kIn O (c.get m) k.at_ k.fn hn h

theorem setattr_ok {y : V} {u : Value} {Q : Unit → Shared → Prop} (I : Inv X pins σ H s) (e : H a = some (.ins C dx fs)) (c : Cls X.K C) (n : NoAttr X.K C f) (hl : fs.length < 1000) (ry : RelV y u)
    (h : ∀ s', Inv X pins σ (upd H a (.ins C dx (putF f y fs))) s' → Q () s') : wpAny (model X.prog X.w) A (setAttr (.ref a) f u) Q E s := by
  obtain ⟨mA, O, r, wi, _, ho⟩ := ins_get I.hok e
  have hz : (fs.map (·.1)).length ≤ sizeLine := by rw [List.length_map, sizeLine_eq]; (first | lia | omega)
  refine set_map I.kIn O c.sa c.po n.taker c.hd wi hz fun h' O' sb => h _ ?_
  have hd : ∃ o, h'.get? dx = some o := let ⟨o, _, _, e', _⟩ := O'.ns; ⟨o, e'⟩
  refine I.write (x := a) (e := dx) (by rw [e]; exact True.intro) (.inr ho) (fun b q hb z => (sb.2 b hb).trans z) hd ?_
  refine ⟨by rw [upd_ne O.ne]; exact ho, ?_, O.ne, O'.obj, _, O'.ns, fun g => ?_, fun g hg => ?_⟩
  · have := length_putF f y fs; (first | lia | omega)
  · show RelO ((putF f y fs).lookup g) (if g = f then some u else mA g)
    rw [lookup_putF]
    by_cases q : g = f
    · rw [if_pos q, if_pos q]; exact ry
    · rw [if_neg q, if_neg q]; exact r g
  · by_cases q : g = f
    · rw [q]; exact (keys_putF f y fs).1
    · refine (keys_putF f y fs).2 g (wi g fun z => hg ?_)
      show (if g = f then some u else mA g) = none
      rw [if_neg q]; exact z

/-- a new instance, tracked, without attributes -/
theorem Inv.made (I : Inv X pins σ H s) : Inv X pins σ (upd (upd H s.heap.objs.size (.own (s.heap.objs.size + 1))) (s.heap.objs.size + 1) (.ins C s.heap.objs.size []))
    { s with heap := (s.heap.push PySem.W.emptyDict).push (PySem.W.instObj C s.heap.objs.size) } := by
  have e1 : (s.heap.push PySem.W.emptyDict).get? s.heap.objs.size = some PySem.W.emptyDict := Heap.get?_push_size s.heap rfl
  have e2 : ((s.heap.push PySem.W.emptyDict).push (PySem.W.instObj C s.heap.objs.size)).get? (s.heap.objs.size + 1) = some (PySem.W.instObj C s.heap.objs.size) := by
    have := Heap.get?_push_size (s.heap.push PySem.W.emptyDict) (o := PySem.W.instObj C s.heap.objs.size) rfl
    rwa [Heap.size_push] at this
  have e3 : (s.heap.push PySem.W.emptyDict).Ns s.heap.objs.size (fun _ => none) := ⟨PySem.W.emptyDict, #[], _, e1, rfl, (fun e he => absurd he (by simp)), fun _ => rfl⟩
  have I1 := I.laid (a := s.heap.objs.size) (o := .own (s.heap.objs.size + 1)) (h' := s.heap.push PySem.W.emptyDict) (t' := s.toks) (fun b u q => Heap.get?_push_of_some _ q) (Nat.le_refl _) ⟨_, e1⟩
  refine I1.laid (a := s.heap.objs.size + 1) (o := .ins C s.heap.objs.size []) (t' := s.toks) (fun b u q => Heap.get?_push_of_some _ q) (Nat.le_of_eq (Heap.size_push _ _)) ?_
  have ne : s.heap.objs.size ≠ s.heap.objs.size + 1 := Nat.ne_of_lt (Nat.lt_succ_self _)
  refine ⟨by rw [upd_ne ne, upd_same], Nat.zero_le _, ne, e2, fun _ => none, (Heap.Ns1.of_empty e3).at fun o q => Heap.get?_push_of_some _ q, fun _ => True.intro, fun y hy => absurd rfl hy⟩

/-- e.f where nothing but the object is asked: through attributeBase (super) and the last hold -/
theorem attr_of {prog : Program} {w : World} {env : Env} {e : Expr} {f : Str} {pos : Pos} {s : Shared} {Q : Value → Shared → Prop} (hb : attributeBase e f env (eval e env) = eval e env)
    (h : wpAny (model prog w) A (eval e env) (fun o s₁ => wpAny (model prog w) A (getAttr o f true) Q E s₁) E s) : wpAny (model prog w) A (eval (.Attribute e f pos) env) Q E s :=
  Attribute_any_ h (by rw [arm_eval_Attribute, hb])
end

/-! ### readings and rules -/
/-- e.f, an attribute of the instance -/
def tFld (K : PySem.W.Frag) (ta : TE) (f : Str) : TE := fun σ H Q => ta σ H fun x H1 => ∃ a C dx fs v, x = .ref a ∧ H1 a = some (.ins C dx fs) ∧ Cls K C ∧ NoAttr K C f ∧ fs.lookup f = some v ∧ Q v H1
/-- e.f = value -/
def sFld (K : PySem.W.Frag) (ta tv : TE) (f : Str) : TS := fun D σ H => tv σ H fun y H1 => ta σ H1 fun x H2 => ∃ a C dx fs, x = .ref a ∧ H2 a = some (.ins C dx fs) ∧ Cls K C ∧ NoAttr K C f ∧ fs.length < 1000 ∧
  D.nx σ (upd H2 a (.ins C dx (putF f y fs)))
/-- an augmented operator on two values -/
def InOp (X : Cx) (op : Operator) (rd : V → V → Hp → VK → Prop) : Prop :=
  ∀ (pins : List (Addr × Obj)) (s : Shared) (σ : St) (H : Hp) (x y : V) (u v : Value) (Q : VK), Inv X pins σ H s → RelV x u → RelV y v → rd x y H Q → wpAny (model X.prog X.w) X.A (inplaceOp op u v) (EP X pins σ Q) X.xe s
/-- e.f op= value -/
def sFldAug (K : PySem.W.Frag) (ta tv : TE) (rd : V → V → Hp → VK → Prop) (f : Str) : TS := fun D σ H => ta σ H fun x H1 => ∃ a C dx fs v, x = .ref a ∧ H1 a = some (.ins C dx fs) ∧ Cls K C ∧ NoAttr K C f ∧ fs.lookup f = some v ∧
  tv σ H1 fun y H2 => rd v y H2 fun z H3 => ∃ dx' fs', H3 a = some (.ins C dx' fs') ∧ fs'.length < 1000 ∧ D.nx σ (upd H3 a (.ins C dx' (putF f z fs')))

section
variable {X : Cx} {o e value : Expr} {f : Str} {pos pos' tpos : Pos} {ta tv : TE}
theorem pe_fld (he : PE X e ta) (hb : attributeBase e f X.env (eval e X.env) = eval e X.env) : PE X (.Attribute e f pos) (tFld X.K ta f) := by
  intro pins s σ H Q I h
  refine attr_of hb (thn (he pins s σ H _ I h) fun u s1 ⟨x, H1, I1, rx, a, C, dx, fs, v, ex, ea, c, n, l, q⟩ => ?_)
  subst ex
  obtain rfl : u = Value.ref a := rx
  exact getattr_ok I1 ea c n l fun u' s2 I2 ru => ⟨v, H1, I2, ru, q⟩
theorem ps_fld (ha : PE X o ta) (hv : PE X value tv) (hs : swapsWith value (some (.Attribute o f pos')) pos.line X.env = pure false) : PS X (.Assign [.Attribute o f pos'] value pos) (sFld X.K ta tv f) := by
  intro pins s σ H D I h
  refine plainObj_wpAny_Assign_Attribute (thn (hv pins s σ H _ I h) fun u s1 ⟨y, H1, I1, ry, q⟩ => thn (ha pins s1 σ H1 _ I1 q) fun ov s2 ⟨x, H2, I2, rx, a, C, dx, fs, ex, ea, c, n, l, q2⟩ => ?_) hs
  subst ex
  obtain rfl : ov = Value.ref a := rx
  exact setattr_ok I2 ea c n l ry fun s3 I3 => ⟨σ, _, I3, q2⟩
theorem ps_fldaug {op : Operator} {rd : V → V → Hp → VK → Prop} (ha : PE X o ta) (hv : PE X value tv) (hop : InOp X op rd) : PS X (.AugAssign (.Attribute o f tpos) op value pos) (sFldAug X.K ta tv rd f) := by
  intro pins s σ H D I h
  refine wpAny_AugAssign_AttributeAny (thn (ha pins s σ H _ I h) fun ov s1 ⟨x, H1, I1, rx, a, C, dx, fs, v, ex, ea, c, n, l, q⟩ => ?_)
  subst ex
  obtain rfl : ov = Value.ref a := rx
  refine getattr_ok I1 ea c n l fun u s2 I2 ru => thn (hv pins s2 σ H1 _ I2 q) fun w3 s3 ⟨y, H2, I3, ry, q3⟩ => thn (hop pins s3 σ H2 v y u w3 _ I3 ru ry q3) fun w4 s4 ⟨z, H3, I4, rz, dx', fs', ea', l', q4⟩ => ?_
  exact setattr_ok I4 ea' c n l' rz fun s5 I5 => ⟨σ, _, I5, q4⟩
def rAdd : V → V → Hp → VK → Prop := fun x y H Q => ∃ i j, x = .int i ∧ y = .int j ∧ Q (.int (i + j)) H
theorem in_add : InOp X .Add rAdd := by
  rintro pins s σ H x y u v Q I rx ry ⟨i, j, rfl, rfl, q⟩
  obtain ⟨t, rfl⟩ := (show ∃ t, u = Value.int i t from rx)
  obtain ⟨t', rfl⟩ := (show ∃ t', v = Value.int j t' from ry)
  exact PyProof.Rows.iadd_int ⟨.int (i + j), H, I.tok _, ⟨_, rfl⟩, q⟩
end

/-! ### isinstance -/
section
variable {X : Cx} {pins : List (Addr × Obj)} {σ : St} {H : Hp} {s : Shared} {A : Around} {E : Value → Shared → Prop} {Q : Value → Shared → Prop} {c : Value} {b : Bool}
/-- the type of a value, as the fragment's deciders take it; for an instance its class -/
inductive TyOf (K : PySem.W.Frag) (H : Hp) : V → Value → Prop where
  | non : TyOf K H .non (.type "NoneType")
  | bl (x : Bool) : TyOf K H (.bl x) (.type "bool")
  | int (i : Int) : TyOf K H (.int i) (.type "int")
  | str (x : Str) : TyOf K H (.str x) (.type "str")
  | flt (x : UInt64) : TyOf K H (.flt x) (.type "float")
  | lst {a : Addr} {xs : List V} (e : H a = some (.lst xs)) : TyOf K H (.ref a) (.type "list")
  | frz {a : Addr} {o : Obj} {xs : List V} (e : H a = some (.frz o (.lst xs))) : TyOf K H (.ref a) (.type "list")
  | tup {a : Addr} {xs : List V} (e : H a = some (.tup xs)) : TyOf K H (.ref a) (.type "tuple")
  | dK {a : Addr} {kvs : List (Key × V)} (e : H a = some (.dK kvs)) : TyOf K H (.ref a) (.type "dict")
  | dT {a : Addr} {kvs : List (List Key × V)} (e : H a = some (.dT kvs)) : TyOf K H (.ref a) (.type "dict")
  | ins {a C dx : Addr} {fs : List (Str × V)} (e : H a = some (.ins C dx fs)) (cl : Cls K C) (ha : PySem.W.findIn K (.ref C) "__class__" = some (some (.builtin "object.__class__")))
      (hn : PySem.W.specialIn K (.builtin "object.__class__") "__get__" = some (some (.builtin "getset_descriptor.__get__"))) (htk : PySem.W.takesIn K (.builtin "object.__class__") = some true)
      (hm : PySem.W.mroIn K C (.type "object") = some true) : TyOf K H (.ref a) (.ref C)
/-- isinstance(x, c) for one class c, a built-in or an own one: kitOne's answer -/
theorem isinst_ok {x : V} {u t : Value} (I : Inv X pins σ H s) (rx : RelV x u) (ty : TyOf X.K H x t) (e : PySem.W.kitOne X.K t c = some b) (h : ∀ tk, Q (.bool b) { s with toks := tk }) :
    wpAny (model X.prog X.w) A (call (.builtin "isinstance") [u, c]) Q E s := by
  cases ty with
  | non => cases (show u = Value.none from rx); exact PySem.W.kia_one PySem.W.kitx_none I.kIn True.intro e (fun z => nomatch z) h
  | bl y => cases (show u = Value.bool y from rx); exact PySem.W.kia_one PySem.W.kitx_bool I.kIn True.intro e (fun z => nomatch z) h
  | int i => obtain ⟨t, q⟩ := (show ∃ t, u = Value.int i t from rx); cases q; exact PySem.W.kia_one PySem.W.kitx_int I.kIn True.intro e (fun z => nomatch z) h
  | str y => obtain ⟨t, q⟩ := (show ∃ t, u = Value.str y t from rx); cases q; exact PySem.W.kia_one PySem.W.kitx_str I.kIn True.intro e (fun z => nomatch z) h
  | flt y => obtain ⟨t, q⟩ := (show ∃ t, u = Value.float y t from rx); cases q; exact PySem.W.kia_one PySem.W.kitx_float I.kIn True.intro e (fun z => nomatch z) h
  | @lst a xs ea =>
    cases (show u = Value.ref a from rx)
    obtain ⟨_, _, n, _, h1⟩ := (show ObjOk X.prog X.w H s.heap a (.lst xs) from I.hok a _ ea)
    exact PySem.W.kia_one PySem.W.kitx_list I.kIn ⟨_, h1, rfl⟩ e (fun z => nomatch z) h
  | @frz a ob xs ea =>
    cases (show u = Value.ref a from rx)
    obtain ⟨_, _, _, n, _, h1⟩ := (show ObjOk X.prog X.w H s.heap a (.frz ob (.lst xs)) from I.hok a _ ea)
    exact PySem.W.kia_one PySem.W.kitx_list I.kIn ⟨_, h1, rfl⟩ e (fun z => nomatch z) h
  | @tup a xs ea =>
    cases (show u = Value.ref a from rx)
    obtain ⟨_, _, _, p⟩ := (show ObjOk X.prog X.w H s.heap a (.tup xs) from I.hok a _ ea)
    obtain ⟨o, h1, h2, _⟩ := p
    exact PySem.W.kia_one PySem.W.kitx_tuple I.kIn ⟨o, h1, h2⟩ e (fun z => nomatch z) h
  | @dK a kvs ea =>
    cases (show u = Value.ref a from rx)
    obtain ⟨_, _, vs, _, p⟩ := (show ObjOk X.prog X.w H s.heap a (.dK kvs) from I.hok a _ ea)
    obtain ⟨o, es, ep, h1, h2, _⟩ := p
    exact PySem.W.kia_one PySem.W.kitx_dict I.kIn ⟨o, h1, h2.1⟩ e (fun z => nomatch z) h
  | @dT a kvs ea =>
    cases (show u = Value.ref a from rx)
    obtain ⟨_, _, xs, _, o, es, ep, h1, h2, _⟩ := (show ObjOk X.prog X.w H s.heap a (.dT kvs) from I.hok a _ ea)
    exact PySem.W.kia_one PySem.W.kitx_dict I.kIn ⟨o, h1, h2.1⟩ e (fun z => nomatch z) h
  | @ins a C dx fs ea cl ha hn htk hm =>
    cases (show u = Value.ref a from rx)
    obtain ⟨mA, O, _⟩ := ins_get I.hok ea
    obtain ⟨od, J, _⟩ := O.look
    exact PySem.W.kia_one (PySem.W.kitx_own (cl.get _) cl.hd ha hn htk hm) I.kIn J e (fun z => nomatch z) h
end
end L2

namespace L2
open PySem PySem.Spec PyProof.Rows

/-! ### room -/
structure Room (k : Nat) (A : Around) : Prop where
  hd : A.handled = none
  dp : A.depth + 2 * k + 5 < recursionLimit
  un : A.units + 16 * k + 200 < cLine
  gd : A.guards = some []
theorem Room.mono {j k : Nat} {A : Around} (r : Room k A) (h : j ≤ k) : Room j A := ⟨r.hd, by have := r.dp; (first | lia | omega), by have := r.un; (first | lia | omega), r.gd⟩
theorem Room.deeper {k : Nat} {A : Around} (r : Room (k + 1) A) (env : Env) : Room k (A.deeper env) :=
  ⟨r.hd, by have := r.dp; show A.depth + 1 + 2 * k + 5 < _; (first | lia | omega), by have := r.un; show A.units + 3 + 16 * k + 200 < _; (first | lia | omega), r.gd⟩
theorem make_depth {A : Around} {C : Addr} {us : List Value} {kw : List (Str × Value)} : (A.under (.builtin "type.__call__" ⟨.ref C :: us, kw⟩)).depth = A.depth + 1 := by
  first | rfl | simp [Around.under, Code.weight, Code.isCreation, Code.isGuard, Code.isCaller, Code.frames, Code.isFrame, guardIds]
theorem make_units {A : Around} {C : Addr} {us : List Value} {kw : List (Str × Value)} : (A.under (.builtin "type.__call__" ⟨.ref C :: us, kw⟩)).units = A.units + 1 := by
  first | rfl | simp [Around.under, Code.cUnits, Code.frames, Code.isFrame]
theorem make_guards {A : Around} {C : Addr} {us : List Value} {kw : List (Str × Value)} : (A.under (.builtin "type.__call__" ⟨.ref C :: us, kw⟩)).guards = A.guards := by
  have h : (Code.builtin "type.__call__" ⟨.ref C :: us, kw⟩).guards = [] := by first | rfl | simp [Code.guards, Code.isGuard, guardIds]
  unfold Around.under
  dsimp only
  rw [h]
  cases A.guards <;> rfl
theorem Room.make {k : Nat} {A : Around} (r : Room (k + 1) A) (C : Addr) (us : List Value) (kw : List (Str × Value)) : Room k (A.under (.builtin "type.__call__" ⟨.ref C :: us, kw⟩)) :=
  ⟨r.hd, by have := r.dp; rw [make_depth]; (first | lia | omega), by have := r.un; rw [make_units]; (first | lia | omega), by rw [make_guards]; exact r.gd⟩
theorem Room.depth {k : Nat} {A : Around} (r : Room k A) : A.depth < recursionLimit := by have := r.dp; (first | lia | omega)
/-! ### argument lists and displays -/
def tNil : TA := fun _ H Q => Q [] H
def tCons (ta : TE) (tr : TA) : TA := fun σ H Q => ta σ H fun x H1 => tr σ H1 fun xs H2 => Q (x :: xs) H2
section
variable {X : Cx} {e : Expr} {es : List Expr} {te : TE} {t : TA} {pos : Pos}
theorem pa_nil : PA X [] tNil := fun _ _ _ _ H Q I h => Calls.spliced_nil ⟨[], H, I, .nil, h⟩
theorem pa_cons (ha : PE X e te) (hr : PA X es t) (hs : starEach (e :: es) X.env = (false, eval e X.env) :: starEach es X.env := by rfl) : PA X (e :: es) (tCons te t) := by
  intro pos pins s σ H Q I h
  rw [hs]
  show wpAny _ _ (spliced ((false, eval e X.env) :: backTo pos (starEach es X.env))) _ _ s
  refine Calls.spliced_cons (thn (ha pins s σ H _ I h) fun u s1 ⟨x, H1, I1, r1, q1⟩ => ?_)
  exact thn (hr pos pins s1 σ H1 _ I1 q1) fun us s2 ⟨xs, H2, I2, r2, q2⟩ => ⟨x :: xs, H2, I2, .cons r1 r2, q2⟩

/-- a tuple, a list of written items -/
def tTup (t : TA) : TE := fun σ H Q => t σ H fun xs H1 => xs.length ≤ sizeLine ∧ ∀ p, H1 p = none → Q (.ref p) (upd H1 p (.tup xs))
def tLst (t : TA) : TE := fun σ H Q => t σ H fun xs H1 => xs.length ≤ sizeLine ∧ ∀ p, H1 p = none → Q (.ref p) (upd H1 p (.lst xs))
theorem pe_tup {x1} (h : PA X es t) : PE X (.Tuple es x1 pos) (tTup t) := by
  intro pins s σ H Q I hq
  refine wpAny_Tuple_spliced (thn (h pos pins s σ H _ I hq) fun us s1 ⟨xs, H1, I1, r, z, q⟩ => ⟨by rw [← r.length]; exact z, ?_⟩)
  have hf : H1 s1.heap.objs.size = none := I1.hok.fresh (Nat.le_refl _)
  refine ⟨.ref s1.heap.objs.size, upd H1 s1.heap.objs.size (.tup xs), I1.laid (t' := s1.toks) (fun b u e => Heap.get?_push_of_some _ e) (Nat.le_refl _) ?_, rfl, q _ hf⟩
  exact ⟨z, us, r, ⟨_, Heap.get?_push_size _ rfl, rfl, _, rfl⟩⟩
theorem pe_lst (h : PA X es t) : PE X (.List es pos) (tLst t) := by
  intro pins s σ H Q I hq
  refine wpAny_List_spliced (thn (h pos pins s σ H _ I hq) fun us s1 ⟨xs, H1, I1, r, z, q⟩ => ⟨by rw [← r.length]; exact z, ?_⟩)
  have hf : H1 s1.heap.objs.size = none := I1.hok.fresh (Nat.le_refl _)
  refine ⟨.ref s1.heap.objs.size, upd H1 s1.heap.objs.size (.lst xs), I1.laid (t' := s1.toks) (fun b u e => Heap.get?_push_of_some _ e) (Nat.le_refl _) ?_, rfl, q _ hf⟩
  exact ⟨z, us, 0, r, Heap.get?_push_size _ rfl⟩
end

/-! ### what a def promises -/
/-- a def's promise: the bound arguments in the parameters' order, the heap, the wanted end, the wanted exception -/
abbrev Sp := List V → Hp → VK → XK → Prop
/-- how an exception lies behind a call (file 08 gives it): the callers' frames, abstract heap and state ahead of the call, the wish, the exception, the state -/
abbrev CXT := List Env → Hp → Shared → XK → Value → Shared → Prop

/-- the state at a call -/
structure Env0 (P : Program) (w : World) (K : PySem.W.Frag) (mg : Str → Option Value) (base : Heap) (A : Around) (outer : List Env) (s : Shared) (H : Hp) : Prop where
  frames : A.frames = some outer
  mod : Mod K mg base
  bs : ∀ b o, base.get? b = some o → s.heap.get? b = some o ∧ H b = none
  bsz : base.objs.size ≤ s.heap.objs.size
  funs : s.heap.FunFrames base outer
  frf : ∀ b ∈ frs outer, H b = none
  hok : HOk P w H s.heap
  bare : AllBare s.gens
/-- a call's end -/
def CE (outer : List Env) (P : Program) (w : World) (H : Hp) (s : Shared) (Q : VK) (u : Value) (s' : Shared) : Prop :=
  ∃ v H', s'.os = s.os ∧ AllBare s'.gens ∧ Un (frs outer) [] H H' s.heap s'.heap ∧ HOk P w H' s'.heap ∧ RelV v u ∧ Q v H'
def CR (CX : CXT) (outer : List Env) (P : Program) (w : World) (H : Hp) (s : Shared) (Q : VK) (E : XK) (r : Result) (s' : Shared) : Prop :=
  match r with
  | .ok (.ret u) => CE outer P w H s Q u s'
  | .ok _ => False
  | .error e => CX outer H s E e s'
structure FnOk (P : Program) (w : World) (K : PySem.W.Frag) (mg : Str → Option Value) (base : Heap) (CX : CXT) (k : Nat) (f : Addr) (fd : FuncData) (ps : List Str) (sp : Sp) : Prop where
  len : ∀ vs H Q E, sp vs H Q E → vs.length = ps.length
  run : ∀ (A : Around) (outer : List Env) (s : Shared) (H : Hp) (args : Args) (us : List Value) (vs : List V) (Q : VK) (E : XK), Room k A → Env0 P w K mg base A outer s H → BindsTo s fd args (ps.zip us) → Vals vs us → sp vs H Q E →
    codeAny (model P w) A (.call (.ref f) args) (CR CX outer P w H s Q E) s
theorem Env0.make {P : Program} {w : World} {K : PySem.W.Frag} {mg : Str → Option Value} {base : Heap} {A : Around} {outer : List Env} {s : Shared} {H : Hp} (e : Env0 P w K mg base A outer s H) (C : Addr) (us : List Value) (kw : List (Str × Value)) :
    Env0 P w K mg base (A.under (.builtin "type.__call__" ⟨.ref C :: us, kw⟩)) outer s H := ⟨by first | exact e.frames | (simpa [Around.under, Code.envs, Code.isFrame, pushEnvs] using e.frames), e.mod, e.bs, e.bsz, e.funs, e.frf, e.hok, e.bare⟩
section
variable {X : Cx} {pins : List (Addr × Obj)} {σ : St} {H : Hp} {s s' : Shared}
/-- from a body: what a callee wants -/
theorem Inv.env0 (I : Inv X pins σ H s) : Env0 X.prog X.w X.K X.mg X.base X.A X.stack s H :=
  ⟨I.ok.frames, I.ok.mod, I.bs, Nat.le_trans I.ok.bsz I.sz, I.stack, I.stkFree, I.hok, I.bare⟩
/-- behind a call -/
theorem Inv.after {Q : VK} {u : Value} (I : Inv X pins σ H s) (h : CE X.stack X.prog X.w H s Q u s') : EP X pins σ Q u s' := by
  obtain ⟨v, H', os, bare, un, hok, r, q⟩ := h
  obtain ⟨hh, g, d, t, os'⟩ := s'
  obtain rfl : os' = s.os := os
  exact ⟨v, H', I.call (h' := hh) (g' := g) (d' := d) (t' := t) (ch := []) un hok bare (fun b z => absurd z (by simp)), r, q⟩
end

/-! ### calls -/
/-- f(..): the written arguments, then the defaults dvs; E: what is wanted of an exception -/
def tCall (sp : Sp) (dvs : List V) (E : XK) (t : TA) : TE := fun σ H Q => t σ H fun vs H1 => sp (vs ++ dvs) H1 Q E
/-- o.m(..) of an instance of the class at C -/
def tMeth (C : Addr) (m : Str) (sp : Sp) (dvs : List V) (E : XK) (ta : TE) (t : TA) : TE := fun σ H Q => ta σ H fun x H1 => ∃ a dx fs, x = .ref a ∧ H1 a = some (.ins C dx fs) ∧ fs.lookup m = none ∧
  t σ H1 fun vs H2 => sp (x :: (vs ++ dvs)) H2 Q E
/-- C(..): a new instance and its dict, then __init__ -/
def tMake (C : Addr) (sp : Sp) (dvs : List V) (E : XK) (t : TA) : TE := fun σ H Q => t σ H fun vs H1 => ∀ x dx, H1 x = none → H1 dx = none → dx ≠ x →
  sp (.ref x :: (vs ++ dvs)) (upd (upd H1 dx (.own x)) x (.ins C dx [])) (fun v H2 => v = .non ∧ Q (.ref x) H2) E

/-- how the parameters are bound: us the positional arguments, kw the keywords' values by name, ds the defaults that fill up -/
def Binds (K : PySem.W.Frag) (fd : FuncData) (ps : List Str) (ds : List Value) : Prop :=
  ∀ (s : Shared) (us : List Value), K.In s.heap → (us ++ ds).length = ps.length → BindsTo s fd ⟨us, []⟩ (ps.zip (us ++ ds))
/-- every parameter is given -/
theorem Binds.all {K : PySem.W.Frag} {fd : FuncData} {ps : List Str} (h : ∀ us : List Value, us.length = ps.length → bindArgs fd ⟨us, []⟩ = pure (ps.zip us)) : Binds K fd ps [] := fun s us _ hl => by
  rw [List.append_nil] at hl ⊢
  exact .of_eq (h us hl)

/-- an exception of a callee reaches what this body wants of exceptions -/
def Passes (CX : CXT) (X : Cx) (E : XK) : Prop := ∀ (pins : List (Addr × Obj)) (σ : St) (H : Hp) (s : Shared) (e : Value) (s' : Shared), Inv X pins σ H s → CX X.stack H s E e s' → X.xe e s'

section
variable {X : Cx} {CX : CXT} {k : Nat} {f C : Addr} {fd : FuncData} {ps : List Str} {sp : Sp} {dvs : List V} {ds : List Value} {E : XK} {x m : Str} {p pos apos : Pos} {e o : Expr} {es : List Expr} {ta : TE} {t : TA}

/-- the callee runs -/
theorem run_fn {pins : List (Addr × Obj)} {σ : St} {H : Hp} {s : Shared} {Q : VK} {us : List Value} {vs : List V} (F : FnOk X.prog X.w X.K X.mg X.base CX k f fd ps sp) (hr : Room k X.A) (hb : Binds X.K fd ps ds) (hd : Vals dvs ds) (hx : Passes CX X E)
    (I : Inv X pins σ H s) (r : Vals vs us) (h : sp (vs ++ dvs) H Q E) : wpAny (model X.prog X.w) X.A (call (.ref f) us) (EP X pins σ Q) X.xe s := by
  have r2 : Vals (vs ++ dvs) (us ++ ds) := r.append hd
  have hl : (us ++ ds).length = ps.length := by rw [← r2.length]; exact F.len _ _ _ _ h
  refine wpAny_call (codeAny_mono (F.run X.A X.stack s H ⟨us, []⟩ (us ++ ds) (vs ++ dvs) Q E hr I.env0 (hb s us I.kIn hl) r2 h) fun r s' hq => ?_)
  cases r with
  | error e => exact hx pins σ H s e s' I hq
  | ok fl =>
    cases fl with
    | ret u => exact I.after hq
    | next => exact False.elim hq
    | brk => exact False.elim hq
    | cont => exact False.elim hq

theorem pe_call (F : FnOk X.prog X.w X.K X.mg X.base CX k f fd ps sp) (hr : Room k X.A) (hg : Gl X x) (hm : X.mg x = some (.ref f)) (hk : PySem.W.keepIn X.K (.ref f) = true) (hb : Binds X.K fd ps ds) (hd : Vals dvs ds) (hx : Passes CX X E)
    (ha : PA X (e :: es) t) (hdb : (x == ("__debug__" : Str)) = false := by decide) (he : starEach (e :: es) X.env = (false, eval e X.env) :: starEach es X.env := by rfl) (hpl : (backTo pos (starEach es X.env)).any (·.1) = false := by rfl) :
    PE X (.Call (.Name x p) (e :: es) [] pos) (tCall sp dvs E t) := by
  intro pins s σ H Q I h
  refine wpAny_Call_Name_kw (ld_glob I hg hm ?_ hdb)
  refine PySem.W.callWith_K (h₀ := X.base) I.ok.mod.kin hk (thn (ha pos pins s σ H _ I h) fun us s1 ⟨vs, H1, I1, r, q⟩ => ⟨I1.kIn, ?_⟩) he hpl
  exact run_fn F hr hb hd hx I1 r q
/-- o.m(e, ..) -/
theorem pe_meth {pl : Sem Bool} (he : PE X o ta) (c : Cls X.K C) (hm : Meth X.K C m f) (F : FnOk X.prog X.w X.K X.mg X.base CX k f fd ps sp) (hr : Room k X.A) (hb : Binds X.K fd ps ds) (hd : Vals dvs ds) (hx : Passes CX X E) (ha : PA X (e :: es) t)
    (hst : starEach (e :: es) X.env = (false, eval e X.env) :: starEach es X.env := by rfl) (hpl : (backTo pos (starEach es X.env)).any (·.1) = false := by rfl)
    (ht : eval (.Call (.Attribute o m apos) (e :: es) [] pos) X.env = (do
      let ov ← eval o X.env
      standAt apos.atName
      let (f, first) ← holding [ov] (getMethod ov m pl)
      callWith pos f first (backTo pos (starEach (e :: es) X.env)) (backToKw pos (keywordEach [] X.env))) := by rfl) :
    PE X (.Call (.Attribute o m apos) (e :: es) [] pos) (tMeth C m sp dvs E ta t) := by
  intro pins s σ H Q I h
  refine PySem.W.methodCall_KW (pl := pl) (thn (he pins s σ H _ I h) fun u s1 ⟨x, H1, I1, rx, a, dx, fs, ex, ea, l, q⟩ => ?_) ht
  subst ex
  obtain rfl : u = Value.ref a := rx
  refine getmeth_ok I1 ea c hm l ?_
  refine PySem.W.callWith_K (first := [.ref a]) (h₀ := X.base) I.ok.mod.kin hm.kp (thn (ha pos pins s1 σ H1 _ I1 q) fun us s2 ⟨vs, H2, I2, r, q2⟩ => ⟨I2.kIn, ?_⟩) hst hpl
  exact run_fn (us := .ref a :: us) (vs := .ref a :: vs) F hr hb hd hx I2 (.cons rfl r) q2
/-- o.m() -/
theorem pe_meth0 {pl : Sem Bool} (he : PE X o ta) (c : Cls X.K C) (hm : Meth X.K C m f) (F : FnOk X.prog X.w X.K X.mg X.base CX k f fd ps sp) (hr : Room k X.A) (hb : Binds X.K fd ps ds) (hd : Vals dvs ds) (hx : Passes CX X E)
    (ht : eval (.Call (.Attribute o m apos) [] [] pos) X.env = (do
      let ov ← eval o X.env
      standAt apos.atName
      let (f, first) ← holding [ov] (getMethod ov m pl)
      callWith pos f first (backTo pos (starEach [] X.env)) (backToKw pos (keywordEach [] X.env))) := by rfl) :
    PE X (.Call (.Attribute o m apos) [] [] pos) (tMeth C m sp dvs E ta tNil) := by
  intro pins s σ H Q I h
  refine PySem.W.methodCall_KW (pl := pl) (thn (he pins s σ H _ I h) fun u s1 ⟨x, H1, I1, rx, a, dx, fs, ex, ea, l, q⟩ => ?_) ht
  subst ex
  obtain rfl : u = Value.ref a := rx
  refine getmeth_ok I1 ea c hm l ?_
  exact PySem.W.callWith_K0 (first := [.ref a]) I1.kIn hm.kp (run_fn (us := [.ref a]) (vs := [.ref a]) F hr hb hd hx I1 (.cons rfl .nil) q)

/-- what a class must have to be made -/
structure Mk (K : PySem.W.Frag) (C f : Addr) : Prop where
  makes : PySem.W.makesIn K C = true
  init : PySem.W.findIn K (.ref C) "__init__" = some (some (.ref f))
  fn : PySem.W.isFn K (.ref f) = true
  kp : PySem.W.keepIn K (.ref C) = true

theorem run_make {pins : List (Addr × Obj)} {σ : St} {H : Hp} {s : Shared} {Q : VK} {us : List Value} {vs : List V} (M : Mk X.K C f) (F : FnOk X.prog X.w X.K X.mg X.base CX k f fd ps sp) (hr : Room (k + 1) X.A) (hb : Binds X.K fd ps ds) (hd : Vals dvs ds)
    (hx : Passes CX X E) (I : Inv X pins σ H s) (r : Vals vs us)
    (h : ∀ x dx, H x = none → H dx = none → dx ≠ x → sp (.ref x :: (vs ++ dvs)) (upd (upd H dx (.own x)) x (.ins C dx [])) (fun v H2 => v = .non ∧ Q (.ref x) H2) E) :
    wpAny (model X.prog X.w) X.A (call (.ref C) us) (EP X pins σ Q) X.xe s := by
  have hq := h (s.heap.objs.size + 1) s.heap.objs.size (I.hok.fresh (Nat.le_succ _)) (I.hok.fresh (Nat.le_refl _)) (Nat.ne_of_lt (Nat.lt_succ_self _))
  have I2 := Inv.made (C := C) I
  have r2 : Vals (V.ref (s.heap.objs.size + 1) :: (vs ++ dvs)) (Value.ref (s.heap.objs.size + 1) :: (us ++ ds)) := .cons rfl (r.append hd)
  have hl : (Value.ref (s.heap.objs.size + 1) :: us ++ ds).length = ps.length := by
    have e := r2.length
    rw [F.len _ _ _ _ hq] at e
    exact e.symm
  refine wpAny_call (make_map (f := f) I.kIn M.makes M.init (beq_iff_eq.mp M.fn) (codeAny_mono (F.run _ X.stack _ _ ⟨Value.ref (s.heap.objs.size + 1) :: us, []⟩ (Value.ref (s.heap.objs.size + 1) :: (us ++ ds)) _ _ E (hr.make C us [])
    (I2.env0.make C us []) (hb _ (Value.ref (s.heap.objs.size + 1) :: us) I2.kIn hl) r2 hq) fun r s' hq' => ?_))
  cases r with
  | error e => exact hx pins σ _ _ e s' I2 hq'
  | ok fl =>
    cases fl with
    | ret u =>
      obtain ⟨v, H', I3, rv, ev, q3⟩ := I2.after hq'
      subst ev
      exact ⟨rv, ⟨V.ref (s.heap.objs.size + 1), H', I3, rfl, q3⟩⟩
    | next => exact False.elim hq'
    | brk => exact False.elim hq'
    | cont => exact False.elim hq'
theorem pe_make (M : Mk X.K C f) (F : FnOk X.prog X.w X.K X.mg X.base CX k f fd ps sp) (hr : Room (k + 1) X.A) (hg : Gl X x) (hm : X.mg x = some (.ref C)) (hb : Binds X.K fd ps ds) (hd : Vals dvs ds) (hx : Passes CX X E)
    (ha : PA X (e :: es) t) (hdb : (x == ("__debug__" : Str)) = false := by decide) (he : starEach (e :: es) X.env = (false, eval e X.env) :: starEach es X.env := by rfl) (hpl : (backTo pos (starEach es X.env)).any (·.1) = false := by rfl) :
    PE X (.Call (.Name x p) (e :: es) [] pos) (tMake C sp dvs E t) := by
  intro pins s σ H Q I h
  refine wpAny_Call_Name_kw (ld_glob I hg hm ?_ hdb)
  refine PySem.W.callWith_K (h₀ := X.base) I.ok.mod.kin M.kp (thn (ha pos pins s σ H _ I h) fun us s1 ⟨vs, H1, I1, r, q⟩ => ⟨I1.kIn, ?_⟩) he hpl
  exact run_make M F hr hb hd hx I1 r q
end

/-! ### keywords -/
/-- the values of the keywords, from the left -/
def PK (X : Cx) (kws : List Keyword) (t : TA) : Prop :=
  ∀ (pos : Pos) (pins : List (Addr × Obj)) (s : Shared) (σ : St) (H : Hp) (Q : List V → Hp → Prop), Inv X pins σ H s → t σ H Q → wpAny (model X.prog X.w) X.A (evalAll ((backToKw pos (keywordEach kws X.env)).map (·.2))) (AP X pins σ Q) X.xe s
section
variable {X : Cx} {CX : CXT} {k : Nat} {f C : Addr} {fd : FuncData} {ps ks : List Str} {sp : Sp} {E : XK} {x m : Str} {p pos apos kpos : Pos} {e o : Expr} {es : List Expr} {kws : List Keyword} {te ta : TE} {t tk : TA} {nm : Option Str}
theorem pk_nil : PK X [] tNil := fun _ _ _ _ H Q I h => wpAny_evalAll_nil ⟨[], H, I, .nil, h⟩
theorem pk_cons (ha : PE X e te) (hr : PK X kws t) : PK X (⟨nm, e, kpos⟩ :: kws) (tCons te t) := by
  intro pos pins s σ H Q I h
  show wpAny _ _ (evalAll ((do let v ← eval e X.env; standAt pos; pure v) :: (backToKw pos (keywordEach kws X.env)).map (·.2))) _ _ s
  refine wpAny_evalAll_cons (wpAny_bind (thn (ha pins s σ H _ I h) fun u s1 ⟨x, H1, I1, r1, q1⟩ => wpAny_bind (wpAny_standAt (wpAny_pure ?_))))
  exact thn (hr pos pins s1 σ H1 _ I1 q1) fun us s2 ⟨xs, H2, I2, r2, q2⟩ => ⟨x :: xs, H2, I2, .cons r1 r2, q2⟩

variable {g : List Value → List Value → List Value} {gV : List V → List V → List V}
end

/-! ### a def's body keeps its promise -/
/-- names: the parameters first -/
structure FnScope (N P : List Str) (sc : Scope) : Prop where
  kind : sc.kind = .function
  co : sc.isCoroutine = false
  gen : sc.isGenerator = false
  nd : N.Nodup
  pre : N.take P.length = P
  par : ∀ x ∈ P, sc.names.lookup x = some .local ∨ sc.names.lookup x = some .cell
  nofree : ∀ y ∈ sc.names, y.2 ≠ .free

theorem bindL_out {kindOf : Str → Option NameKind} {x : Str} : ∀ {binds : List (Str × Value)} {m : Str → Option Value}, (∀ v, (x, v) ∉ binds) → bindL kindOf binds m x = m x
  | [], _, _ => rfl
  | (n, v) :: r, m, h => by
    unfold bindL
    rw [bindL_out fun w hw => h w (List.mem_cons_of_mem _ hw)]
    split
    · have : x ≠ n := by rintro rfl; exact h v List.mem_cons_self
      simp [this]
    · rfl
theorem bindC_out {kindOf : Str → Option NameKind} {x : Str} : ∀ {binds : List (Str × Value)} {m : Str → Option Value}, (∀ v, (x, v) ∉ binds) → bindC kindOf binds m x = m x
  | [], _, _ => rfl
  | (n, v) :: r, m, h => by
    unfold bindC
    rw [bindC_out fun w hw => h w (List.mem_cons_of_mem _ hw)]
    split
    · rfl
    · have : x ≠ n := by rintro rfl; exact h v List.mem_cons_self
      simp [this]
theorem bindL_get {kindOf : Str → Option NameKind} {x : Str} {v : Value} : ∀ {P : List Str} {vs : List Value} {i : Nat} {m : Str → Option Value}, P.Nodup → P[i]? = some x → vs[i]? = some v → kindOf x = some .local →
    bindL kindOf (P.zip vs) m x = some v
  | [], _, _, _, _, h, _, _ => by simp at h
  | _ :: _, [], _, _, _, _, h, _ => by simp at h
  | p :: P, w :: vs, 0, m, nd, h1, h2, hk => by
    simp at h1 h2; subst h1; subst h2
    show bindL kindOf ((p, w) :: P.zip vs) m p = _
    unfold bindL
    rw [bindL_out fun v hv => (List.nodup_cons.mp nd).1 (List.of_mem_zip hv).1, if_pos hk]
    simp
  | p :: P, w :: vs, i + 1, m, nd, h1, h2, hk => by
    show bindL kindOf ((p, w) :: P.zip vs) m x = _
    unfold bindL
    exact bindL_get (i := i) (List.nodup_cons.mp nd).2 (by simpa using h1) (by simpa using h2) hk
theorem bindC_get {kindOf : Str → Option NameKind} {x : Str} {v : Value} : ∀ {P : List Str} {vs : List Value} {i : Nat} {m : Str → Option Value}, P.Nodup → P[i]? = some x → vs[i]? = some v → kindOf x ≠ some .local →
    bindC kindOf (P.zip vs) m x = some v
  | [], _, _, _, _, h, _, _ => by simp at h
  | _ :: _, [], _, _, _, _, h, _ => by simp at h
  | p :: P, w :: vs, 0, m, nd, h1, h2, hk => by
    simp at h1 h2; subst h1; subst h2
    show bindC kindOf ((p, w) :: P.zip vs) m p = _
    unfold bindC
    rw [bindC_out fun v hv => (List.nodup_cons.mp nd).1 (List.of_mem_zip hv).1, if_neg hk]
    simp
  | p :: P, w :: vs, i + 1, m, nd, h1, h2, hk => by
    show bindC kindOf ((p, w) :: P.zip vs) m x = _
    unfold bindC
    exact bindC_get (i := i) (List.nodup_cons.mp nd).2 (by simpa using h1) (by simpa using h2) hk

/-- the names' values at the entry -/
def start (N : List Str) (vs : List V) : St := vs.map some ++ List.replicate (N.length - vs.length) none

/-- the context of a def's body, at its entry; an exception leaves the frame, then lies as CX says -/
def cxOf (CX : CXT) (P : Program) (w : World) (K : PySem.W.Frag) (mg : Str → Option Value) (base : Heap) (N : List Str) (qual : Str) (scope : Scope) (f : Addr) (cd : Value) (A : Around) (outer : List Env) (s : Shared) (H : Hp) (E : XK) : Cx where
  prog := P
  w := w
  K := K
  mg := mg
  base := base
  A := A.deeper (envOfC qual scope s.heap.objs.size f cd)
  N := N
  s₀ := s
  H₀ := H
  env := envOfC qual scope s.heap.objs.size f cd
  outer := outer
  stack := envOfC qual scope s.heap.objs.size f cd :: outer
  ex := []
  calm := true
  fn := fun _ => true
  pn := []
  xe := fun e s' => wpAny (model P w) (A.deeper (envOfC qual scope s.heap.objs.size f cd)) (leaving (envOfC qual scope s.heap.objs.size f cd) e) (fun _ s'' => CX outer H s E e s'') (fun e' s'' => CX outer H s E e' s'') s'

theorem cell_has {sc : Scope} {n : Nat} {x : Str} (h : sc.names.lookup x = some .cell) : ∃ c, (cellsFrom n sc.names []).lookup x = some c := by
  have q := PySem.W.cellsFrom_some sc.names n [] (.inl h)
  exact Option.isSome_iff_exists.mp q

theorem inv_start {CX : CXT} {P : Program} {w : World} {K : PySem.W.Frag} {mg : Str → Option Value} {base : Heap} {N ps : List Str} {qual : Str} {scope : Scope} {f : Addr} {cd : Value} {A : Around} {outer : List Env} {s s1 : Shared} {H : Hp} {E : XK} {us : List Value} {vs : List V}
    (S : FnScope N ps scope) (hd : A.handled = none) (e0 : Env0 P w K mg base A outer s H) (hl : vs.length = ps.length) (r : Vals vs us)
    (x : InCallC s s.heap.objs.size (bindL (envOfC qual scope s.heap.objs.size f cd).kindOf (ps.zip us) fun _ => none) (cellsFrom (s.heap.objs.size + 1) scope.names []) (bindC (envOfC qual scope s.heap.objs.size f cd).kindOf (ps.zip us) fun _ => none) s1) :
    Inv (cxOf CX P w K mg base N qual scope f cd A outer s H E) [] (start N vs) H s1 := by
  have hpl : ps.length ≤ N.length := by have := congrArg List.length S.pre; rw [List.length_take] at this; (first | lia | omega)
  obtain ⟨h1, tk, rfl, hk⟩ := x.done
  have noA : ∀ b : Addr, b ∉ (cxOf CX P w K mg base N qual scope f cd A outer s H E).ex := fun b z => absurd (show b ∈ ([] : List Addr) from z) (by simp)
  refine ⟨⟨e0.mod, S.kind, rfl, rfl, Nat.le_refl _, fun y z c h1 h2 => ?_, fun y hy => ?_, fun y c _ h => ?_, fun _ => hd, Around.frames_deeper e0.frames, .inr ⟨rfl, rfl⟩, fun b z => absurd z (noA b), e0.bs, e0.bsz, fun b _ _ => noA b, fun b z => absurd z (noA b), e0.funs, e0.frf⟩,
    rfl, e0.bare, Un.kept hk, ⟨_, x.toInCall.ns, fun i y v h1 h2 h3 => ?_⟩, fun y c h => ⟨_, x.cell y c h⟩, e0.hok.fresh (Nat.le_refl _), fun y c h => ?_, fun p hp => absurd (show p ∈ ([] : List (Addr × Obj)) from hp) (by simp), e0.hok.kept hk, ?_⟩
  · exact name_of_addr x.apart (PySem.mem_of_lookup h1) (PySem.mem_of_lookup h2)
  · have hy : scope.names.lookup y = some .cell ∨ scope.names.lookup y = some .free := hy
    rcases hy with hy | hy
    · exact cell_has hy
    · exact absurd rfl (S.nofree _ (PySem.mem_of_lookup hy))
  · exact Nat.le_of_lt (x.above y c (PySem.mem_of_lookup h))
  · have hi : i < vs.length := by
      unfold start at h2
      by_cases hi : i < vs.length
      · exact hi
      · rw [List.getElem?_append_right (by simpa using hi)] at h2
        rw [List.getElem?_replicate] at h2
        split at h2 <;> cases h2
    have ha : vs[i]? = some v := by
      unfold start at h2
      rw [List.getElem?_append_left (by simpa using hi), List.getElem?_map] at h2
      cases e : vs[i]? with
      | none => rw [e] at h2; cases h2
      | some a => rw [e] at h2; cases h2; rfl
    obtain ⟨u, hu, rv⟩ := r.get ha
    have hp : ps[i]? = some y := by
      rw [← S.pre, List.getElem?_take_of_lt (by (first | lia | omega))]; exact h1
    have ndP : ps.Nodup := by rw [← S.pre]; exact S.nd.sublist (List.take_sublist _ _)
    refine ⟨u, rv, ?_⟩
    rcases S.par y (List.mem_of_getElem? hp) with k | k
    · exact .inl ⟨k, bindL_get ndP hp hu k⟩
    · obtain ⟨c, e⟩ := cell_has (n := s.heap.objs.size + 1) k
      refine .inr ⟨.inl k, c, e, ?_⟩
      have q := x.cell y c e
      rw [bindC_get ndP hp hu (by show scope.names.lookup y ≠ _; rw [k]; decide)] at q
      exact q
  · exact e0.hok.fresh (Nat.le_of_lt (x.above y c (PySem.mem_of_lookup h)))
  · unfold start
    show _ = N.length
    rw [List.length_append, List.length_map, List.length_replicate]
    (first | lia | omega)

/-- THE RULE: a def (or a method) of the text, by its body. The body's reading t is chosen for each entry; it is run at the parameters' values -/
theorem fn_of {CX : CXT} {P : Program} {w : World} {K : PySem.W.Frag} {mg : Str → Option Value} {base : Heap} {k : Nat} {f : Addr} {name qual : Str} {params : Arguments} {body : List Stmt} {scope : Scope} {dV kV doc pm cdv ct oc : Value} {an od : Option Addr}
    {osl : Array (Option Value)} {N ps : List Str} {sp : Sp} (lk : K.lookup f = some ⟨oc, od, .func (PySem.W.fnOf name qual params body scope dV kV doc pm an cdv ct), osl⟩) (hcd : PySem.W.codeIn K cdv qual = true) (S : FnScope N ps scope)
    (len : ∀ vs H Q E, sp vs H Q E → vs.length = ps.length)
    (hbody : ∀ (A : Around) (outer : List Env) (s : Shared) (H : Hp) (vs : List V) (Q : VK) (E : XK), Room k (A.deeper (envOfC qual scope s.heap.objs.size f cdv)) → sp vs H Q E →
      ∃ t, PSs (cxOf CX P w K mg base N qual scope f cdv A outer s H E) body t ∧ t { nx := fun _ H' => Q .non H', rt := Q } (start N vs) H) :
    FnOk P w K mg base CX (k + 1) f (PySem.W.fnOf name qual params body scope dV kV doc pm an cdv ct) ps sp := by
  refine ⟨len, fun A outer s H args us vs Q E hr e0 hb r hsp => ?_⟩
  have hl := len _ _ _ _ hsp
  have KX : K.In s.heap := e0.mod.kin.keeps fun b o e => (e0.bs b o e).1
  have lim : s.heap.NoLimit := e0.mod.nolimit.keeps fun b o e => (e0.bs b o e).1
  have hkind : ∀ y ∈ ps.zip us, scope.names.lookup y.1 = some .local ∨ (scope.names.lookup y.1 = some .cell ∧ ((cellsFrom (s.heap.objs.size + 1) scope.names []).lookup y.1).isSome = true) := fun ⟨n, v⟩ hy => by
    rcases S.par n (List.of_mem_zip hy).1 with q | q
    · exact .inl q
    · exact .inr ⟨q, PySem.W.cellsFrom_some _ _ _ (.inl q)⟩
  refine codeAny_call_function hr.depth (KX _ _ lk) rfl S.co S.gen rfl (PySem.W.codeRec_of KX hcd) (hb _ _ _ _ ?_)
  refine wpAny_newFunctionEnv_cells S.kind hkind fun env he s1 x => ?_
  subst he
  refine ⟨lim.keeps x.toInCall.keep, codeAny_func ?_⟩
  obtain ⟨t, ht, hq⟩ := hbody A outer s H vs Q E (hr.deeper _) hsp
  have I : Inv (cxOf CX P w K mg base N qual scope f cdv A outer s H E) [] (start N vs) H s1 := inv_start S hr.hd e0 hl r x
  refine wpAny_mono (ht [] s1 (start N vs) H _ I hq) (fun fl s' hs => ?_) fun e s' hs => hs
  have fin : ∀ {σ' : St} {H' : Hp} {v : V} {u : Value}, Inv (cxOf CX P w K mg base N qual scope f cdv A outer s H E) [] σ' H' s' → RelV v u → Q v H' → CE outer P w H s Q u s' :=
    fun {σ' H' v u} J rv q => ⟨v, H', J.os, J.bare, J.base, J.hok, rv, q⟩
  cases fl with
  | ret u =>
    obtain ⟨v, σ', H', J, rv, q⟩ := hs
    exact fin J rv q
  | next =>
    obtain ⟨σ', H', J, q⟩ := hs
    exact fin (v := V.non) (u := Value.none) J rfl q
  | brk =>
    obtain ⟨_, _, _, q⟩ := hs
    exact False.elim q
  | cont =>
    obtain ⟨_, _, _, q⟩ := hs
    exact False.elim q
end L2

namespace L2
open PySem PySem.Spec PyProof.Rows
section
variable {X : Cx} {x : Str} {p pos : Pos} {e : Expr} {es : List Expr} {t : TA} {id T : String} {r : List V → Hp → VK → Prop}

def tCB (r : List V → Hp → VK → Prop) (t : TA) : TE := fun σ H Q => t σ H fun vs H1 => r vs H1 Q
/-- f(e, ..), f a built-in function -/
theorem pe_callB (hc : CallR X (.builtin id) r) (hg : Gl X x) (hm : X.mg x = none) (hv : bootBuiltins x = some (.builtin id)) (ha : PA X (e :: es) t) (hn : x ≠ "__name__" := by decide) (hdb : (x == ("__debug__" : Str)) = false := by decide)
    (he : starEach (e :: es) X.env = (false, eval e X.env) :: starEach es X.env := by rfl) (hpl : (backTo pos (starEach es X.env)).any (·.1) = false := by rfl) : PE X (.Call (.Name x p) (e :: es) [] pos) (tCB r t) := by
  intro pins s σ H Q I h
  refine wpAny_Call_Name_kw (ld_blt I hg hm hv ?_ hn hdb)
  exact PyProof.Rows.callWith_builtin1 (thn (ha pos pins s σ H _ I h) fun us s1 ⟨vs, H1, I1, r1, q1⟩ => hc pins s1 σ H1 vs us Q I1 r1 q1) he hpl
/-- T(e, ..), T a built-in type -/
theorem pe_callTy (hc : CallR X (.type T) r) (hg : Gl X x) (hm : X.mg x = none) (hv : bootBuiltins x = some (.type T)) (ha : PA X (e :: es) t) (hn : x ≠ "__name__" := by decide) (hdb : (x == ("__debug__" : Str)) = false := by decide)
    (he : starEach (e :: es) X.env = (false, eval e X.env) :: starEach es X.env := by rfl) (hpl : (backTo pos (starEach es X.env)).any (·.1) = false := by rfl) : PE X (.Call (.Name x p) (e :: es) [] pos) (tCB r t) := by
  intro pins s σ H Q I h
  refine wpAny_Call_Name_kw (ld_blt I hg hm hv ?_ hn hdb)
  exact PyProof.Rows.callWith_type1 (thn (ha pos pins s σ H _ I h) fun us s1 ⟨vs, H1, I1, r1, q1⟩ => hc pins s1 σ H1 vs us Q I1 r1 q1) he hpl
end
end L2

namespace HT
open PySem PyProof.Rows


end HT

namespace L2
open PySem PySem.Spec PyProof.Rows

/-! ### the parts of a slice -/
abbrev TO := St → Hp → (Option Int → Hp → Prop) → Prop
/-- a slice's part (left out, or an int) -/
def PO (X : Cx) (e : Option Expr) (t : TO) : Prop :=
  ∀ (pins : List (Addr × Obj)) (s : Shared) (σ : St) (H : Hp) (Q : Option Int → Hp → Prop), Inv X pins σ H s → t σ H Q →
    wpAny (model X.prog X.w) X.A (evalPart e X.env) (fun u s' => ∃ o H', Inv X pins σ H' s' ∧ IsPart u o ∧ Q o H') X.xe s
def tNoPart : TO := fun _ H Q => Q none H
def tPart (t : TE) : TO := fun σ H Q => t σ H fun x H1 => ∃ i, x = .int i ∧ Q (some i) H1

section
variable {X : Cx} {e : Expr} {te : TE} {lo hi : Option Expr} {tl th : TO} {pos p2 : Pos}

theorem po_none : PO X none tNoPart := by
  intro pins s σ H Q I h
  rw [evalPart_none]
  exact wpAny_pure ⟨none, H, I, .none, h⟩
theorem po_some (h : PE X e te) : PO X (some e) (tPart te) := by
  intro pins s σ H Q I hw
  rw [evalPart_some]
  refine thn (h pins s σ H _ I hw) fun u s1 ⟨x, H1, I1, r1, q1⟩ => ?_
  obtain ⟨i, rfl, q⟩ := q1
  obtain ⟨t, rfl⟩ := r1
  exact ⟨some i, H1, I1, .int i t, q⟩

/-- what a slice of a value is, by values: the slice object stands at sl -/
def SlR (X : Cx) (r : V → Option Int → Option Int → Hp → VK → Prop) : Prop :=
  ∀ (pins : List (Addr × Obj)) (s : Shared) (σ : St) (H : Hp) (x : V) (v vl vu : Value) (lo hi : Option Int) (sl : Addr) (Q : VK), Inv X pins σ H s → RelV x v → s.heap.IsSliceOf sl vl vu .none → IsPart vl lo → IsPart vu hi → r x lo hi H Q →
    ∃ T id, typeLookup (.type T) "__getitem__" = pure (some (.builtin id)) ∧ s.TypeIs v T ∧ wpAny (model X.prog X.w) X.A (getItem v (.ref sl)) (EP X pins σ Q) X.xe s
def tSl (r : V → Option Int → Option Int → Hp → VK → Prop) (te : TE) (tl th : TO) : TE := fun σ H Q => te σ H fun x H1 => tl σ H1 fun l H2 => th σ H2 fun u H3 => r x l u H3 Q
/-- a[lo:hi], any a -/
theorem pe_slice {r : V → Option Int → Option Int → Hp → VK → Prop} (hr : SlR X r) (he : PE X e te) (hl : PO X lo tl) (hu : PO X hi th) : PE X (.Subscript e (.Slice lo hi none p2) pos) (tSl r te tl th) := by
  intro pins s σ H Q I h
  refine Subscript_ (thn (he pins s σ H _ I h) fun v s1 ⟨x, H1, I1, r1, q1⟩ => ?_)
  refine wpAny_Slice (thn (hl pins s1 σ H1 _ I1 q1) fun vl s2 ⟨l, H2, I2, pl, q2⟩ => thn (hu pins s2 σ H2 _ I2 q2) fun vu s3 ⟨u, H3, I3, pu, q3⟩ => ?_)
  rw [evalPart_none]
  refine wpAny_pure ?_
  have I4 : Inv X pins σ H3 { s3 with heap := s3.heap.push { cls := .type "slice", data := .fields #[vl, vu, .none] } } := I3.kept (t' := s3.toks) fun b ob q => Heap.get?_push_of_some _ q
  obtain ⟨T, id, hT, ht, hg⟩ := hr pins { s3 with heap := s3.heap.push { cls := .type "slice", data := .fields #[vl, vu, .none] } } σ H3 x v vl vu l u s3.heap.objs.size Q I4 r1 (Heap.IsSliceOf.new ..) pl pu q3
  show wpAny (model X.prog X.w) X.A (subscriptTail e (.Slice lo hi none p2) v (.ref s3.heap.objs.size)) (EP X pins σ Q) X.xe { s3 with heap := s3.heap.push { cls := .type "slice", data := .fields #[vl, vu, .none] } }
  exact tail_any (ops := [.ref s3.heap.objs.size, v]) ht hT hg (by with_unfolding_all rfl)

/-! ### t < u, t + u -/
end
end L2

namespace L2
open PySem PySem.Spec PyProof.Rows

/-! ### places -/
/-- the place that an index of any sign means -/
def ixN (n : Nat) (i : Int) : Option Nat := if 0 ≤ i then (if i < n then some i.toNat else none) else if -(n : Int) ≤ i then some (i + n).toNat else none
def atI {α : Type} (xs : List α) (i : Int) : Option α := (ixN xs.length i).bind fun j => xs[j]?
theorem ixN_seq {n : Nat} {i : Int} {j : Nat} (h : ixN n i = some j) : seqIndex? i n = some j ∧ j < n ∧ -(n : Int) ≤ i ∧ i < n := by
  unfold ixN at h
  by_cases h0 : 0 ≤ i
  · rw [if_pos h0] at h
    by_cases h1 : i < n
    · rw [if_pos h1] at h
      have e : i.toNat = j := Option.some.inj h
      exact ⟨by rw [seqIndex_of h0 h1, e], by (first | lia | omega), by (first | lia | omega), h1⟩
    · rw [if_neg h1] at h; cases h
  · rw [if_neg h0] at h
    by_cases h1 : -(n : Int) ≤ i
    · rw [if_pos h1] at h
      have e : (i + n).toNat = j := Option.some.inj h
      exact ⟨by rw [seqIndex_neg (by (first | lia | omega)) h1, e], by (first | lia | omega), h1, by (first | lia | omega)⟩
    · rw [if_neg h1] at h; cases h
theorem atI_get {α : Type} {xs : List α} {i : Int} {v : α} (h : atI xs i = some v) : ∃ j, seqIndex? i xs.length = some j ∧ xs[j]? = some v ∧ j < xs.length ∧ -(xs.length : Int) ≤ i ∧ i < xs.length := by
  unfold atI at h
  cases e : ixN xs.length i with
  | none => rw [e] at h; cases h
  | some j =>
    rw [e] at h
    obtain ⟨h1, h2, h3, h4⟩ := ixN_seq e
    exact ⟨j, h1, h, h2, h3, h4⟩
theorem atI_nat {α : Type} {xs : List α} {j : Nat} {v : α} (h : xs[j]? = some v) : atI xs (j : Int) = some v := by
  have hj : j < xs.length := (List.getElem?_eq_some_iff.mp h).1
  have e : ixN xs.length (j : Int) = some j := by
    unfold ixN
    rw [if_pos (by (first | lia | omega)), if_pos (by (first | lia | omega))]; simp
  unfold atI; rw [e]; exact h
/-! ### what may be subscripted -/
/-- what stands as an index of a plain subscript -/
def PlainIx (b : Expr) : Prop := ∀ o i, subscripted b false o i = operate [o, i] (getItem o i)
/-- a subscript by values -/
def IxR (X : Cx) (r : R2) : Prop :=
  ∀ (value slice : Expr) (pins : List (Addr × Obj)) (s : Shared) (σ : St) (H : Hp) (x y : V) (v u : Value) (Q : VK), Inv X pins σ H s → RelV x v → RelV y u → r x y H Q →
    subscripted slice false v u = operate [v, u] (getItem v u) → wpAny (model X.prog X.w) X.A (subscriptTail value slice v u) (EP X pins σ Q) X.xe s
/-- a call of a builtin's method by values: the receiver, the arguments -/
def MtR (X : Cx) (id : String) (r : V → List V → Hp → VK → Prop) : Prop :=
  ∀ (pins : List (Addr × Obj)) (s : Shared) (σ : St) (H : Hp) (x : V) (xs : List V) (v : Value) (us : List Value) (Q : VK), Inv X pins σ H s → RelV x v → Vals xs us → r x xs H Q →
    wpAny (model X.prog X.w) X.A (call (.builtin id) (v :: us)) (EP X pins σ Q) X.xe s
section
variable {X : Cx} {a b : Expr} {ta tb : TE} {pos : Pos}
/-- a[b] -/
theorem pe_ix {r : R2} (hr : IxR X r) (ha : PE X a ta) (hb : PE X b tb) (hs : PlainIx b) : PE X (.Subscript a b pos) (tOp r ta tb) := by
  intro pins s σ H Q I h
  exact Subscript_ (binT ha hb I h fun v u s2 x y H2 I2 rx ry q => hr a b pins s2 σ H2 x y v u Q I2 rx ry q (hs _ _))

def rIxL (K : PySem.W.Frag) : R2 := fun x y H Q => ∃ p xs i v, x = .ref p ∧ y = .int i ∧ SqL K H p xs ∧ atI xs i = some v ∧ Q v H
def rIxT (K : PySem.W.Frag) : R2 := fun x y H Q => ∃ p xs i v, x = .ref p ∧ y = .int i ∧ SqT K H p xs ∧ atI xs i = some v ∧ Q v H
def rIxS : R2 := fun x y H Q => ∃ z i c, x = .str z ∧ y = .int i ∧ z.length ≤ sizeLine ∧ atI z.cps.toList i = some c ∧ Q (.str ⟨#[c]⟩) H
theorem ix_list : IxR X (rIxL X.K) := by
  intro value slice pins s σ H x y v u Q I rx ry h hs
  obtain ⟨p, xs, i, z, rfl, rfl, hq, he, q⟩ := h
  cases rx
  obtain ⟨t, rfl⟩ := ry
  obtain ⟨its, r, pl, hz⟩ := I.list hq
  obtain ⟨j, h1, h2, h3, h4, h5⟩ := atI_get he
  obtain ⟨w, ew, rw'⟩ := r.get h2
  have hl := r.length
  have hn := line63
  have fin : EP X pins σ Q w s := ⟨z, H, I, rw', q⟩
  by_cases h0 : 0 ≤ i
  · have hj : i.toNat = j := by
      rw [seqIndex_of h0 h5] at h1
      exact Option.some.inj h1
    exact item_listR pl.isList h0 (by (first | lia | omega)) (by rw [hj]; simpa using ew) fin hs
  · have hj : (i + (its.toArray.size : Int)).toNat = j := by
      rw [seqIndex_neg (by (first | lia | omega)) h4] at h1
      rw [List.size_toArray, ← hl]
      exact Option.some.inj h1
    exact subscriptTail_builtinR (x := w) pl.isList.typeIs slot_list_getitem.lookup
      (wpAny_getItem_list_neg (Q := fun r s' => r = w ∧ EP X pins σ Q r s') pl.isList (by (first | lia | omega)) (by rw [List.size_toArray] <;> (first | lia | omega)) (by (first | lia | omega)) (by rw [hj]; simpa using ew) ⟨rfl, fin⟩) hs
theorem ix_tup : IxR X (rIxT X.K) := by
  intro value slice pins s σ H x y v u Q I rx ry h hs
  obtain ⟨p, xs, i, z, rfl, rfl, hq, he, q⟩ := h
  cases rx
  obtain ⟨t, rfl⟩ := ry
  obtain ⟨its, r, pl, hz⟩ := I.tuple hq
  obtain ⟨j, h1, h2, h3, h4, h5⟩ := atI_get he
  obtain ⟨w, ew, rw'⟩ := r.get h2
  have hl := r.length
  have hn := line63
  have fin : EP X pins σ Q w s := ⟨z, H, I, rw', q⟩
  exact subscriptTail_builtinR (x := w) pl.typeIs slot_tuple_getitem.lookup
    (getItem_tuple (j := j) (Q := fun r s' => r = w ∧ EP X pins σ Q r s') pl (by (first | lia | omega)) (by (first | lia | omega)) (by rw [List.size_toArray, ← hl]; exact h1) (by simpa using ew) ⟨rfl, fin⟩) hs
theorem ix_str : IxR X rIxS := by
  intro value slice pins s σ H x y v u Q I rx ry h hs
  obtain ⟨z, i, c, rfl, rfl, hz, he, q⟩ := h
  obtain ⟨t, rfl⟩ := rx
  obtain ⟨t', rfl⟩ := ry
  obtain ⟨j, h1, h2, h3, h4, h5⟩ := atI_get he
  have hl : z.cps.toList.length = z.length := by simp [Str.length]
  rw [hl] at h1 h4 h5
  have hn := line63
  exact tail_any (typeIs_str s z t) slot_str_getitem.lookup (getItem_str (c := c) (by
    have e1 : decide (i < -(2 ^ 63 : Int)) = false := decide_eq_false (by (first | lia | omega))
    have e2 : decide (i ≥ 2 ^ 63) = false := decide_eq_false (by (first | lia | omega))
    rw [e1, e2, Bool.or_false]) (by rw [h1]; simpa using h2) ⟨.str ⟨#[c]⟩, H, I.tok _, ⟨_, rfl⟩, q⟩) hs
/-! ### xs[i] = v, any sign -/
/-- the list's object behind a store -/
theorem mapSeq_set (its : List Value) (n j : Nat) (u : Value) : Obj.mapSeq (·.setIfInBounds j u) { cls := .type "list", data := .seq its.toArray n } = { cls := .type "list", data := .seq (its.set j u).toArray n } := by
  simp [Obj.mapSeq]
theorem Inv.lst {pins : List (Addr × Obj)} {σ : St} {H : Hp} {s : Shared} {p : Addr} {xs : List V} (I : Inv X pins σ H s) (h : H p = some (.lst xs)) :
    ∃ (its : List Value) (n : Nat), Vals xs its ∧ s.heap.get? p = some { cls := .type "list", data := .seq its.toArray n } ∧ xs.length ≤ sizeLine := by
  obtain ⟨z, its, n, r, e⟩ := I.hok p _ h
  exact ⟨its, n, r, e, z⟩
/-- the list at p is written by an update of its object -/
theorem Inv.lstUpd {pins : List (Addr × Obj)} {σ : St} {H : Hp} {s : Shared} {p : Addr} {xs ys : List V} {its its' : List Value} {n n' : Nat} {f : Obj → Obj} (I : Inv X pins σ H s) (h : H p = some (.lst xs))
    (ho : s.heap.get? p = some { cls := .type "list", data := .seq its.toArray n }) (hf : f { cls := .type "list", data := .seq its.toArray n } = { cls := .type "list", data := .seq its'.toArray n' }) (r : Vals ys its') (hz : ys.length ≤ sizeLine) (t : Nat) :
    Inv X pins σ (upd H p (.lst ys)) { s with heap := s.heap.update p f, toks := t } := by
  have e : (s.heap.update p f).get? p = some { cls := .type "list", data := .seq its'.toArray n' } := by
    rw [Heap.get?_update_self f ho (by rw [hf] <;> rfl), hf]
  refine I.write (x := p) (e := p) (by rw [h]; trivial) (.inl rfl) (fun b u hb q => (Heap.get?_update_other _ _ (Ne.symm hb)).trans q) ⟨_, e⟩ ?_
  exact ⟨hz, its', n', r, e⟩
def rSetL : V → V → V → Hp → (Hp → Prop) → Prop := fun o i v H Q => ∃ p xs k j, o = .ref p ∧ i = .int k ∧ H p = some (.lst xs) ∧ ixN xs.length k = some j ∧ Q (upd H p (.lst (xs.set j v)))
theorem set_list : PSet X rSetL := by
  intro pins s σ H o i v ov iv u Q I ro ri rv h
  obtain ⟨p, xs, k, j, rfl, rfl, hp, hj, q⟩ := h
  cases ro
  obtain ⟨t, rfl⟩ := ri
  obtain ⟨its, n, r, ho, hz⟩ := I.lst hp
  obtain ⟨h1, h2, h3, h4⟩ := ixN_seq hj
  have hl := r.length
  have hn := line63
  have I' : Inv X pins σ (upd H p (.lst (xs.set j v))) { s with heap := s.heap.update p (Obj.mapSeq (·.setIfInBounds j u)) } :=
    I.lstUpd hp ho (mapSeq_set its n j u) (r.set rv j) (by rw [List.length_set]; exact hz) s.toks
  by_cases h0 : 0 ≤ k
  · have hk : k.toNat = j := by
      rw [seqIndex_of h0 h4] at h1
      exact Option.some.inj h1
    exact PySem.W.ki_setAt ho h0 (by (first | lia | omega)) (by rw [List.size_toArray, ← hl]; exact h4) (by rw [hk]; exact ⟨_, I', q⟩)
  · have hk : (k + (its.toArray.size : Int)).toNat = j := by
      rw [seqIndex_neg (by (first | lia | omega)) h3] at h1
      rw [List.size_toArray, ← hl]
      exact Option.some.inj h1
    exact PySem.W.ki_setBack ho (by (first | lia | omega)) (by rw [List.size_toArray, ← hl]; exact h3) (by (first | lia | omega)) (by rw [hk]; exact ⟨_, I', q⟩)

/-! ### slices -/
/-! ### in, not in: flat items -/
def flatV : V → Bool
  | .non => true
  | .bl _ => true
  | .int _ => true
  | .str _ => true
  | _ => false
/-- == of flat values -/
def eqV : V → V → Bool
  | .non, .non => true
  | .bl a, .bl b => a == b
  | .bl a, .int b => (if a then 1 else 0) == b
  | .int a, .bl b => a == (if b then 1 else 0)
  | .int a, .int b => a == b
  | .str a, .str b => a == b
  | _, _ => false
theorem eqAt_V {A : Around} {s : Shared} {y x : V} {u v : Value} (ry : RelV y u) (rx : RelV x v) (fy : flatV y = true) (fx : flatV x = true) : SeqAt.EqAt A s u v (eqV y x) := by
  cases y with
  | non =>
    cases ry
    cases x with
    | non => cases rx; exact SeqAt.EqAt.same _
    | bl b => cases rx; exact SeqAt.EqAt.none_bool b
    | int b => obtain ⟨t, rfl⟩ := rx; exact SeqAt.EqAt.none_int b t
    | str b => obtain ⟨t, rfl⟩ := rx; exact SeqAt.EqAt.none_str b t
    | _ => exact absurd (show false = true from fx) Bool.false_ne_true
  | bl a =>
    cases ry
    cases x with
    | non => cases rx; exact SeqAt.EqAt.bool_none a
    | bl b => cases rx; exact SeqAt.EqAt.bool_bool a b
    | int b => obtain ⟨t, rfl⟩ := rx; exact SeqAt.EqAt.bool_int a b t
    | str b => obtain ⟨t, rfl⟩ := rx; exact SeqAt.EqAt.bool_str a b t
    | _ => exact absurd (show false = true from fx) Bool.false_ne_true
  | int a =>
    obtain ⟨t', rfl⟩ := ry
    cases x with
    | non => cases rx; exact SeqAt.EqAt.int_none a t'
    | bl b => cases rx; exact SeqAt.EqAt.int_bool a t' b
    | int b => obtain ⟨t, rfl⟩ := rx; exact SeqAt.EqAt.int_int a t' b t
    | str b => obtain ⟨t, rfl⟩ := rx; exact SeqAt.EqAt.int_str a t' b t
    | _ => exact absurd (show false = true from fx) Bool.false_ne_true
  | str a =>
    obtain ⟨t', rfl⟩ := ry
    cases x with
    | non => cases rx; exact SeqAt.EqAt.str_none a t'
    | bl b => cases rx; exact SeqAt.EqAt.str_bool a t' b
    | int b => obtain ⟨t, rfl⟩ := rx; exact SeqAt.EqAt.str_int a t' b t
    | str b => obtain ⟨t, rfl⟩ := rx; exact SeqAt.EqAt.str_str a t' b t
    | _ => exact absurd (show false = true from fx) Bool.false_ne_true
  | _ => exact absurd (show false = true from fy) Bool.false_ne_true
/-- the items' answers, read off the values (a value's own answer does not lean on its token) -/
def eqU (x : V) (u : Value) : Bool := match u with
  | .none => eqV .non x
  | .bool b => eqV (.bl b) x
  | .int i _ => eqV (.int i) x
  | .str z _ => eqV (.str z) x
  | _ => false
theorem eqU_of {x y : V} {u : Value} (r : RelV y u) (f : flatV y = true) : eqU x u = eqV y x := by
  cases y with
  | non => cases r; rfl
  | bl b => cases r; rfl
  | int i => obtain ⟨t, rfl⟩ := r; rfl
  | str z => obtain ⟨t, rfl⟩ := r; rfl
  | _ => exact absurd (show false = true from f) Bool.false_ne_true
theorem any_eqU {x : V} : ∀ {xs : List V} {us : List Value}, Vals xs us → xs.all flatV = true → us.any (eqU x) = xs.any fun y => eqV y x
  | _, _, .nil, _ => rfl
  | y :: xs, u :: us, .cons r t, f => by
    rw [List.all_cons, Bool.and_eq_true] at f
    rw [List.any_cons, List.any_cons, eqU_of r f.1, any_eqU t f.2]
theorem mem_eqAt {A : Around} {s : Shared} {x : V} {v : Value} (rx : RelV x v) (fx : flatV x = true) : ∀ {xs : List V} {us : List Value}, Vals xs us → xs.all flatV = true → ∀ u ∈ us, SeqAt.EqAt A s u v (eqU x u)
  | _, _, .nil, _ => fun u hu => by cases hu
  | y :: xs, u :: us, .cons r t, f => fun u' hu => by
    rw [List.all_cons, Bool.and_eq_true] at f
    rcases List.mem_cons.mp hu with rfl | hu
    · rw [eqU_of r f.1]; exact eqAt_V r rx f.1 fx
    · exact mem_eqAt rx fx t f.2 u' hu
def inV (x : V) (xs : List V) : Bool := xs.any fun y => eqV y x
/-- x in a list or tuple of flat items -/
def rIn (K : PySem.W.Frag) (neg : Bool) : R2 := fun x y H Q => ∃ p xs, y = .ref p ∧ (SqL K H p xs ∨ SqT K H p xs) ∧ flatV x = true ∧ xs.all flatV = true ∧ Q (.bl (if neg then !inV x xs else inV x xs)) H
theorem op_in_seq : OpR X (compareOp .In) (rIn X.K false) := by
  intro pins s σ H x y v u Q I rx ry h
  obtain ⟨p, xs, rfl, hq, fx, fs, q⟩ := h
  cases ry
  rcases hq with hq | hq
  · obtain ⟨its, r, pl, hz⟩ := I.list hq
    refine SeqAt.in_listAt (eqU x) pl.isList (fun w hw => mem_eqAt rx fx r fs w (by simpa using hw)) ⟨.bl _, H, I, rfl, ?_⟩
    rw [show its.toArray.any (eqU x) = its.any (eqU x) by simp, any_eqU r fs]
    exact q
  · obtain ⟨its, r, pl, hz⟩ := I.tuple hq
    refine SeqAt.in_tupleAt (eqU x) pl (fun w hw => mem_eqAt rx fx r fs w (by simpa using hw)) ⟨.bl _, H, I, rfl, ?_⟩
    rw [show its.toArray.any (eqU x) = its.any (eqU x) by simp, any_eqU r fs]
    exact q
/-! ### len, list(x), tuple(x) of any list or tuple that is read -/
theorem call_len_seq : CallR X (.builtin "len") (fun xs H Q => ∃ p ys, xs = [.ref p] ∧ (SqL X.K H p ys ∨ SqT X.K H p ys) ∧ Q (.int ys.length) H) := by
  intro pins s σ H xs us Q I r h
  obtain ⟨p, ys, rfl, hq, q⟩ := h
  obtain ⟨u, rfl, rx⟩ := vals1 r
  cases rx
  have hn := line63
  rcases hq with hq | hq
  · obtain ⟨its, r', pl, hz⟩ := I.list hq
    have hlen := r'.length
    exact Calls.call_len_list pl.isList (by simp only [List.size_toArray] <;> (first | lia | omega)) ⟨.int ys.length, H, I.tok _, ⟨s.toks + 1, by rw [List.size_toArray, hlen]⟩, q⟩
  · obtain ⟨its, r', pl, hz⟩ := I.tuple hq
    have hlen := r'.length
    exact len_tuple pl (by simp only [List.size_toArray] <;> (first | lia | omega)) ⟨.int ys.length, H, I.tok _, ⟨s.toks + 1, by rw [List.size_toArray, hlen]⟩, q⟩
theorem call_len_str : CallR X (.builtin "len") (fun xs H Q => ∃ z, xs = [.str z] ∧ z.length ≤ sizeLine ∧ Q (.int z.length) H) := by
  intro pins s σ H xs us Q I r h
  obtain ⟨z, rfl, hz, q⟩ := h
  obtain ⟨u, rfl, t, rfl⟩ := vals1 r
  have hn := line63
  exact len_str (by (first | lia | omega)) ⟨.int z.length, H, I.tok _, ⟨_, rfl⟩, q⟩
theorem call_tuple_of : CallR X (.type "tuple") (fun xs H Q => ∃ p ys, xs = [.ref p] ∧ ((SqL X.K H p ys ∧ ∀ l, H l = none → Q (.ref l) (upd H l (.tup ys))) ∨ (SqT X.K H p ys ∧ Q (.ref p) H))) := by
  intro pins s σ H xs us Q I r h
  obtain ⟨p, ys, rfl, h⟩ := h
  obtain ⟨u, rfl, rx⟩ := vals1 r
  cases rx
  rcases h with ⟨hq, q⟩ | ⟨hq, q⟩
  · obtain ⟨its, r', pl, hz⟩ := I.list hq
    have hlen := r'.length
    refine call_tuple_list pl.isList (fun h' kp => ?_) (by simp only [List.size_toArray] <;> (first | lia | omega))
    have I1 : Inv X pins σ H { s with heap := h' } := I.kept (t' := s.toks) kp
    have I2 : Inv X pins σ (upd H h'.objs.size (.tup ys)) { s with heap := h'.push { cls := .type "tuple", data := .seq its.toArray } } :=
      I1.laid (t' := s.toks) (fun b o e => Heap.get?_push_of_some _ e) (Nat.le_refl _) (show ObjOk X.prog X.w _ _ _ (.tup ys) from ⟨hz, its, r', IsTup.new _ _⟩)
    exact ⟨.ref h'.objs.size, _, I2, rfl, q _ (I1.hok.fresh (Nat.le_refl _))⟩
  · obtain ⟨its, r', pl, hz⟩ := I.tuple hq
    exact call_tuple_same pl ⟨.ref p, H, I, rfl, q⟩

/-! ### the call of a builtin's method: o.m(..) -/
/-- the value is of that builtin type -/
def tyV (K : PySem.W.Frag) (T : String) (x : V) (H : Hp) : Prop := match x with
  | .str _ => T = "str"
  | .int _ => T = "int"
  | .ref p => (T = "list" ∧ ∃ xs, SqL K H p xs) ∨ (T = "tuple" ∧ ∃ o, K.lookup p = some o ∧ o.cls = .type "tuple" ∧ o.dict = none) ∨
      (T = "dict" ∧ ((∃ kvs, H p = some (.dK kvs)) ∨ ∃ kvs, H p = some (.dT kvs))) ∨ (T = "set" ∧ ∃ S n, H p = some (.set S n))
  | _ => False
theorem tyV_is {pins : List (Addr × Obj)} {σ : St} {H : Hp} {s : Shared} {T : String} {x : V} {v : Value} (I : Inv X pins σ H s) (r : RelV x v) (ty : tyV X.K T x H) :
    s.TypeIs v T ∧ ∀ a, v = .ref a → ∃ ob, s.heap.get? a = some ob ∧ ob.dict = none := by
  cases x with
  | str z =>
    obtain ⟨t, rfl⟩ := r
    cases (show T = "str" from ty)
    exact ⟨typeIs_str s z t, fun _ e => nomatch e⟩
  | int i =>
    obtain ⟨t, rfl⟩ := r
    cases (show T = "int" from ty)
    exact ⟨typeIs_int s i t, fun _ e => nomatch e⟩
  | ref p =>
    cases r
    rcases ty with ⟨rfl, xs, hq⟩ | ⟨rfl, o, hk, hc, hd⟩ | ⟨rfl, hk⟩ | ⟨rfl, S, n, hk⟩
    · obtain ⟨its, _, pl, _⟩ := I.list hq
      refine ⟨pl.isList.typeIs, fun a e => ?_⟩
      cases e
      obtain ⟨o, n, e, c, hd, _⟩ := pl
      exact ⟨o, e, hd⟩
    · refine ⟨⟨o, I.kIn p o hk, hc⟩, fun a e => ?_⟩
      cases e
      exact ⟨o, I.kIn _ o hk, hd⟩
    · have z : ∃ o, s.heap.get? p = some o ∧ o.ExactDict := by
        rcases hk with ⟨kvs, hk⟩ | ⟨kvs, hk⟩
        · obtain ⟨_, _, _, _, o, _, _, e, ex, _⟩ := I.hok p _ hk
          exact ⟨o, e, ex⟩
        · obtain ⟨_, _, _, _, o, _, _, e, ex, _⟩ := I.hok p _ hk
          exact ⟨o, e, ex⟩
      obtain ⟨o, e, ex⟩ := z
      refine ⟨⟨o, e, ex.1⟩, fun a e2 => ?_⟩
      cases e2
      exact ⟨o, e, ex.2.1⟩
    · obtain ⟨o, _, _, _, e, ex, _⟩ := I.hok p _ hk
      refine ⟨⟨o, e, ex.1⟩, fun a e2 => ?_⟩
      cases e2
      exact ⟨o, e, ex.2.1⟩
  | _ => exact False.elim ty
def tBM (K : PySem.W.Frag) (T : String) (r : V → List V → Hp → VK → Prop) (to : TE) (t : TA) : TE := fun σ H Q => to σ H fun x H1 => tyV K T x H1 ∧ t σ H1 fun xs H2 => r x xs H2 Q
variable {o e : Expr} {es : List Expr} {to : TE} {t : TA} {name : Str} {apos cpos : Pos} {T id : String} {r : V → List V → Hp → VK → Prop}
theorem pe_bm (pa : PlainAttrs T) (slot : Slot T name id) (hty : typeOf (.builtin id) = pure (.type "method_descriptor")) (hm : MtR X id r) (ho : PE X o to) (ha : PA X (e :: es) t)
    (hbase : attributeBase o name X.env (eval o X.env) = eval o X.env := by rfl)
    (hfew : ((backTo cpos (starEach (e :: es) X.env)).all (fun x => !x.1) && (backToKw cpos (keywordEach [] X.env)).all (fun x => x.1.isSome)
      && decide ((e :: es).length + ([] : List Keyword).length + (if ([] : List Keyword).isEmpty then 0 else 1) < 30)) = true := by rfl)
    (hline : (apos.endLine == cpos.line) = true := by rfl) (hs : starEach (e :: es) X.env = (false, eval e X.env) :: starEach es X.env := by rfl) (hplain : (backTo cpos (starEach es X.env)).any (·.1) = false := by rfl) :
    PE X (.Call (.Attribute o name apos) (e :: es) [] cpos) (tBM X.K T r to t) := by
  intro pins s σ H Q I h
  refine wpAny_Call_method_late hbase hfew hline rfl (thn (ho pins s σ H _ I h) fun v s1 ⟨x, H1, I1, r1, ty, q1⟩ => ?_)
  obtain ⟨h1, h2⟩ := tyV_is I1 r1 ty
  refine ⟨T, id, pa, slot, hty, h1, h2, ?_⟩
  have hA := ha cpos pins s1 σ H1 _ I1 q1
  rw [hs] at hA ⊢
  refine Calls.callWith_builtin (by show (false || (backTo cpos (starEach es X.env)).any (·.1)) = false; rw [hplain] <;> rfl) (Calls.evalArgs_plain ?_)
  exact thn hA fun us s2 ⟨vs, H2, I2, r2, q2⟩ => hm pins s2 σ H2 x vs v us Q I2 r1 r2 q2
/- xs.append(e), list.index on a module's tuple .. are MtR facts of 06m -/
end
end L2

namespace L2
open PySem PySem.Spec PyProof.Rows

def MtM (X : Cx) (id : String) (r : V → List V → Hp → VK → Prop) : Prop :=
  ∀ (pins : List (Addr × Obj)) (s : Shared) (σ : St) (H : Hp) (x : V) (xs : List V) (v : Value) (us : List Value) (Q : VK), Inv X pins σ H s → RelV x v → Vals xs us → r x xs H Q →
    wpAny (model X.prog X.w) X.A (call (.builtin id) (v :: us)) (EP X pins σ Q) X.xe s

/-! ### lists of values -/
theorem Vals.one : ∀ {x : V} {us : List Value}, Vals [x] us → ∃ u, us = [u] ∧ RelV x u
  | _, _, .cons r .nil => ⟨_, rfl, r⟩
theorem Vals.two : ∀ {x y : V} {us : List Value}, Vals [x, y] us → ∃ u v, us = [u, v] ∧ RelV x u ∧ RelV y v
  | _, _, _, .cons r (.cons q .nil) => ⟨_, _, rfl, r, q⟩
section
variable {X : Cx} {pins : List (Addr × Obj)} {σ : St} {H : Hp} {s : Shared} {l b : Addr} {xs ys zs : List V}

/-! ### the two steps: a tracked list is rewritten, a new list is laid -/
theorem Inv.lset {its its' : List Value} {n : Nat} {f : Array Value → Array Value} {t' : Nat} (I : Inv X pins σ H s) (hH : H l = some (.lst xs))
    (e : s.heap.get? l = some { cls := .type "list", data := .seq its.toArray n }) (hf : f its.toArray = its'.toArray) (hv : Vals ys its') (hz : ys.length ≤ sizeLine) :
    Inv X pins σ (upd H l (.lst ys)) { s with heap := s.heap.update l (Obj.mapSeq f), toks := t' } := by
  have q := PySem.IsL.update e f
  rw [hf] at q
  refine I.write (x := l) (e := l) (by rw [hH]; exact trivial) (.inl rfl) (fun b' u hb hu => (Heap.get?_update_other s.heap (Obj.mapSeq f) (Ne.symm hb)).trans hu) ⟨_, q⟩ ?_
  exact ⟨hz, its', _, hv, q⟩
theorem Inv.lnew {its : List Value} {t' : Nat} (I : Inv X pins σ H s) (hv : Vals ys its) (hz : ys.length ≤ sizeLine) :
    Inv X pins σ (upd H s.heap.objs.size (.lst ys)) { s with heap := s.heap.push { cls := .type "list", data := .seq its.toArray }, toks := t' } :=
  I.laid (fun _ _ q => Heap.get?_push_of_some _ q) (Nat.le_refl _) ⟨hz, its, 0, hv, Heap.get?_push_size _ rfl⟩
theorem Inv.fresh (I : Inv X pins σ H s) : H s.heap.objs.size = none := I.hok.fresh (Nat.le_refl _)
theorem Inv.lstM (I : Inv X pins σ H s) (hH : H l = some (.lst xs)) : xs.length ≤ sizeLine ∧ ∃ (its : List Value) (n : Nat), Vals xs its ∧ xs.length = its.length ∧ s.heap.get? l = some { cls := .type "list", data := .seq its.toArray n } := by
  obtain ⟨z, its, n, r, e⟩ := I.hok l _ hH
  exact ⟨z, its, n, r, r.length, e⟩

theorem notLongL {n : Nat} (h : n ≤ sizeLine) : Builtin.List.listTooLong n = false := by
  unfold Builtin.List.listTooLong
  exact decide_eq_false (by (first | lia | omega))
end

section
variable {X : Cx}

/-! ### methods -/
def rAppend : V → List V → Hp → VK → Prop := fun x vs H Q => ∃ l xs y, x = .ref l ∧ vs = [y] ∧ H l = some (.lst xs) ∧ xs.length < sizeLine ∧ Q .non (upd H l (.lst (xs ++ [y])))
theorem mt_append : MtM X "list.append" rAppend := by
  intro pins s σ H x vs v us Q I rx rv h
  obtain ⟨l, xs, y, rfl, rfl, hH, hz, q⟩ := h
  cases rx
  obtain ⟨u, rfl, ru⟩ := rv.one
  obtain ⟨z, its, n, r, hl, e⟩ := I.lstM hH
  refine call_meets F.slot_list_append ⟨_, e, rfl⟩ F.entry_list_append (F.args_list_append_2 _ _) (PySem.list_append l its.toArray n u (by rw [List.size_toArray]; (first | lia | omega))) ⟨e, ?_⟩
  refine ⟨.non, _, I.lset (its' := its ++ [u]) hH e (by simp) (r.append (.cons ru .nil)) ?_, rfl, q⟩
  rw [List.length_append, List.length_singleton]
  (first | lia | omega)

def rExtend : V → List V → Hp → VK → Prop := fun x vs H Q => ∃ l b xs zs, x = .ref l ∧ vs = [.ref b] ∧ H l = some (.lst xs) ∧ H b = some (.lst zs) ∧ xs.length + zs.length ≤ sizeLine ∧ Q .non (upd H l (.lst (xs ++ zs)))
theorem mt_extend : MtM X "list.extend" rExtend := by
  intro pins s σ H x vs v us Q I rx rv h
  obtain ⟨l, b, xs, zs, rfl, rfl, hH, hB, hz, q⟩ := h
  cases rx
  obtain ⟨u, rfl, ru⟩ := rv.one
  cases ru
  obtain ⟨z, its, n, r, hl, e⟩ := I.lstM hH
  obtain ⟨z2, its2, n2, r2, hl2, e2⟩ := I.lstM hB
  have hsz : its.toArray.size + its2.toArray.size ≤ sizeLine := by rw [List.size_toArray, List.size_toArray]; (first | lia | omega)
  have hlong : ¬ (!its.toArray.isEmpty && Builtin.List.listTooLong (its.toArray.size + its2.toArray.size)) = true := by
    rw [notLongL hsz, Bool.and_false]
    exact Bool.false_ne_true
  refine call_meets F.slot_list_extend ⟨_, e, rfl⟩ F.entry_list_extend (F.args_list_extend_2 _ _)
    (AutoSeq1.list_extend_list_list_0 l its.toArray n b its2.toArray n2 hlong (by rw [List.size_toArray]; (first | lia | omega)) (by (first | lia | omega))) ⟨e, e2, ?_⟩
  refine ⟨.non, _, I.lset (its' := its ++ its2) hH e (by simp) (r.append r2) ?_, rfl, q⟩
  rw [List.length_append]
  (first | lia | omega)

/-! ### list + list, list += list, list * int -/
/-! ### del xs[i] -/
end

/-! ### xs[a:b] = ys -/

end L2

namespace Att
open PySem PySem.W PySem.Calls PyProof.Rows

/-! ### the script -/
theorem ints_of_wellAll {P : Params} {h : Heap} : ∀ (ns : List Int) (vs : List Value), WellAll P h vs (ns.map WData.int) → IntsAre vs ns := by
  intro ns
  induction ns with
  | nil =>
    intro vs w
    rw [List.map_nil] at w
    cases w
    exact .nil
  | cons n ns ih =>
    intro vs w
    rw [List.map_cons] at w
    cases w with
    | cons a b =>
      cases a
      exact .cons _ _ (ih _ b)

theorem script_of {l : OpenLaw} {n : Nat} (hn : l.most = some n) {P : Params} {h : Heap} {args : List WData} {vals : List Value}
    (hpre : l.row.toRowW.claim.pre args = true) (hwl : WellAll P h vals args) :
    ∃ a vs ns, vals = [Value.ref a] ∧ args = [WData.list (ns.map WData.int)] ∧ h.get? a = some { cls := .type "list", data := .seq vs.toArray } ∧ IntsAre vs ns ∧ ns.length ≤ n := by
  have hsh : WShape.hasAll [] args [.list .int] = true := (pre_splitW hpre).1
  have hc : l.pre.holds [] { args := args } = true := (pre_splitW hpre).2
  obtain ⟨d, r, rfl, h1, h2⟩ := hasAllW_cons hsh
  obtain rfl := hasAllW_nil h2
  obtain ⟨xs, rfl, h3⟩ := hasW_list h1
  obtain ⟨ns, rfl⟩ := items_int h3
  have hlen : ns.length ≤ n := by
    unfold OpenLaw.pre at hc
    have h4 : (WTm.not (.lt (.lit (.int (n : Int))) (.len (.arg 0)))).holds [] { args := [.list (ns.map .int)] } = true := by
      have h4 := (holds_andW hc).1
      rw [hn] at h4
      exact h4
    have h5 := condW_of h4 (w_not (w_lt w_lit (w_len_list (w_arg rfl))))
    rw [List.length_map] at h5
    refine Nat.le_of_not_lt fun q => ?_
    have q' : (n : Int) < ((ns.length : Nat) : Int) := by (first | lia | omega)
    first
      | (rw [decide_eq_true q'] at h5; exact absurd h5 (by decide))
      | (simp at h5; (first | lia | omega))
  cases hwl with
  | cons w1 w2 =>
    cases w2
    cases w1 with
    | list ho hall => exact ⟨_, _, ns, rfl, rfl, ho, ints_of_wellAll ns _ hall, hlen⟩

theorem post_true (l : OpenLaw) (args : List WData) : l.row.toRowW.claim.post args (.bool true) args = true :=
  postW_of (r := l.row.toRowW) (X := (true == true))
    (show WShape.has [] (.bool true) .bool = true by first | rfl | decide | simp [WShape.has, WShape.arms, WShape.armsAll])
    (show (WTm.eq .res (.lit (.bool true))).value [] { args := args, res := some (.bool true), after := args } = some (.bool (true == true)) from w_eq_bool (w_res rfl) w_lit) rfl

/-! ### the attachment: holds_open's last premise (the goal 'hc' behind k_head) from a wpAny of the law's body -/
/-- the same from a codeAny of the CALL (for a layer whose function contracts speak of calls) -/
theorem attach_call {l : OpenLaw} {n : Nat} {q : Program} {loose : List Str} {XP : (Str → Option Value) → Heap → Prop} {YP : World → Heap → Prop} {d : DefRec}
    (hn : l.most = some n) (hdf : d.params.defaults = [])
    (call : ∀ (w : World) (s₀ s₁ : Shared) (mg mb : Str → Option Value) (fa : Addr) (o : Obj) (pm cd doc : Value) (a : Addr) (vs : List Value) (ns : List Int),
      Ground q loose [] XP w s₀ mg mb s₁.heap → YP w s₁.heap →
      s₁.heap.get? fa = some o → o.data = .func (docDef d.name d.params d.body d.scope pm cd doc) → s₁.heap.CodeRec cd d.name → mg d.name = some (.ref fa) →
      s₁.heap.get? a = some { cls := .type "list", data := .seq vs.toArray } → IntsAre vs ns → ns.length ≤ n → s₁.gens = #[] →
      codeAny (model l.prog w) callerA (.call (.ref fa) ⟨[.ref a], []⟩) (fun r s' => r = .ok (.ret (.bool true)) ∧ OldK s₁.heap s'.heap ∧ s'.os = s₁.os ∧ AllBare s'.gens) s₁) :
    WalkO q loose XP YP l.row.toRowW d [] (fun f vs => PySem.call f vs) := by
  intro w s₀ s₁ mg mb G Y fa o pm cd doc dV kV ho hd hcd hD hmg hg args vals as hpre hlay hrd hwl hlo
  obtain rfl : dV = .none := Dflts.none hD hdf
  obtain rfl : kV = .none := Dflts.noKw hD
  obtain ⟨a, vs, ns, rfl, rfl, hobj, hints, hlen⟩ := script_of hn hpre hwl
  refine enter_call (codeAny_mono (call w s₀ s₁ mg mb fa o pm cd doc a vs ns G Y ho (fd_plain hd) hcd hmg hobj hints hlen hg) fun r s' hq => ?_)
  obtain ⟨rfl, h2, h3, h4⟩ := hq
  exact ⟨.inl ⟨.bool true, .bool true, [], rfl, fun _ => rfl, .bool true, post_true l _, fun _ => ⟨List.Pairwise.nil, fun _ hm => (nomatch hm)⟩⟩, h2, h3, h4⟩

/-! ### rules over ANY heap (no ledger) from facts about the written part K: the library's own take a ledger (News) for what they write -/
end Att

namespace L2
open PySem PySem.Spec PyProof.Rows

theorem vals_ints : ∀ {vs : List Value} {ns : List Int}, IntsAre vs ns → Vals (ns.map V.int) vs
  | _, _, .nil => .nil
  | _, _, .cons n t h => .cons ⟨t, rfl⟩ (vals_ints h)

/-- nothing is tracked but the script, known to the object (or it is an object of the module) -/
def Only (H : Hp) : Prop := ∀ b, H b = none ∨ ∃ o xs, H b = some (.frz o (.lst xs))

/-- THE HEAD: the law's promise, at the heap behind the top. F, the promise of the law's def, may use that base is part of the heap (so K.In base, base.Ns mainGlobals mg stand in Mod) -/
theorem law_call {P : Program} {w : World} {K : PySem.W.Frag} {mg mb : Str → Option Value} {CX : CXT} {k : Nat} {fa a : Addr} {fd : FuncData} {x : Str} {sp : Sp} {s₁ : Shared} {vs : List Value} {ns : List Int}
    (KX : K.In s₁.heap) (hns : s₁.heap.Ns mainGlobals mg) (hb : s₁.heap.Ns builtinsNs mb) (hbb : ∀ x : Str, x ≠ "__name__" → mb x = bootBuiltins x) (hlim : s₁.heap.NoLimit) (hg : s₁.gens = #[])
    (ha : s₁.heap.get? a = some { cls := .type "list", data := .seq vs.toArray }) (hi : IntsAre vs ns) (hl : ns.length ≤ sizeLine) (hr : Room k callerA)
    (F : ∀ base : Heap, K.In base → base.Ns mainGlobals mg → FnOk P w K mg base CX k fa fd [x] sp) (hbind : ∀ (s : Shared) (u : Value), BindsTo s fd ⟨[u], []⟩ [(x, u)])
    (hsp : ∀ H : Hp, Only H → SqL K H a (ns.map V.int) → sp [.ref a] H (fun v _ => v = .bl true) fun _ _ _ => False)
    (hCX : ∀ H e s', CX [] H s₁ (fun _ _ _ => False) e s' → False) :
    codeAny (model P w) callerA (.call (.ref fa) ⟨[.ref a], []⟩) (fun r s' => r = .ok (.ret (.bool true)) ∧ OldK s₁.heap s'.heap ∧ s'.os = s₁.os ∧ AllBare s'.gens) s₁ := by
  have rv := vals_ints hi
  have lenV := hi.length
  -- from an abstract heap in which nothing but the script may be tracked
  have core : ∀ H : Hp, Only H → SqL K H a (ns.map V.int) → HOk P w H s₁.heap → (∀ b, H b ≠ none → b = a) → (H a ≠ none → K.lookup a = none) →
      codeAny (model P w) callerA (.call (.ref fa) ⟨[.ref a], []⟩) (fun r s' => r = .ok (.ret (.bool true)) ∧ OldK s₁.heap s'.heap ∧ s'.os = s₁.os ∧ AllBare s'.gens) s₁ := by
    intro H hO hS hok hA hK
    have base_of : ∀ {b : Addr} {o : Obj}, s₁.heap.get? b = some o → H b = none → (hidT s₁.heap H).get? b = some o := fun e n => hidT_get e n
    have noA : ∀ {b : Addr} {o : Obj} {es : Array DictEntry} {ep : Nat}, s₁.heap.get? b = some o → o.data = .dict es ep → H b = none := fun {b o es ep} e d => by
      cases q : H b with
      | none => rfl
      | some u =>
        have e' : b = a := hA b (by rw [q]; simp)
        subst e'
        rw [ha] at e; cases e
        have d' : Data.seq vs.toArray _ = Data.dict es ep := d
        cases d'
    have nsK : ∀ {b : Addr} {m : Str → Option Value}, s₁.heap.Ns b m → (hidT s₁.heap H).Ns b m := fun {b m} ⟨o, es, ep, e, d, r⟩ => ⟨o, es, ep, base_of e (noA e d), d, r⟩
    have hKb : K.In (hidT s₁.heap H) := fun b o e => base_of (KX b o e) (by
      cases q : H b with
      | none => rfl
      | some u =>
        have e' : b = a := hA b (by rw [q]; simp)
        subst e'
        rw [hK (by rw [q]; simp)] at e; cases e)
    have hM : Mod K mg (hidT s₁.heap H) := ⟨hKb, nsK hns, ⟨mb, nsK hb, hbb⟩, let ⟨mc, h1, h2⟩ := hlim; ⟨mc, nsK h1, h2⟩⟩
    have e0 : Env0 P w K mg (hidT s₁.heap H) callerA [] s₁ H := ⟨rfl, hM, fun b o e => of_hidT e, Nat.le_of_eq (hidT_size _ _), trivial, fun b hb => absurd (show b ∈ ([] : List Addr) from hb) (by simp), hok, .of_eq hg⟩
    refine codeAny_mono ((F _ hKb (nsK hns)).run callerA [] s₁ H ⟨[.ref a], []⟩ [.ref a] [.ref a] _ _ hr e0 (hbind s₁ (.ref a)) (.cons rfl .nil) (hsp H hO hS)) fun r s' h => ?_
    cases r with
    | error e => exact (hCX H e s' h).elim
    | ok fl =>
      cases fl with
      | next => exact False.elim h
      | brk => exact False.elim h
      | cont => exact False.elim h
      | ret u =>
        obtain ⟨v, H', os, bare, un, hok', r', q⟩ := h
        have q' : v = .bl true := q
        subst q'
        obtain rfl : u = Value.bool true := r'
        refine ⟨rfl, OldK.of_keep fun b o e => ?_, os, bare⟩
        cases q : H b with
        | none => exact un.keep b o e q (by intro z; exact absurd (show b ∈ ([] : List Addr) from z) (by simp)) (by simp)
        | some u =>
          rcases hO b with z | ⟨ob, xs, z⟩
          · rw [q] at z; cases z
          · have z2 := un.frzs b ob _ z
            obtain ⟨e1, _⟩ := hok b _ z
            obtain ⟨e2, _⟩ := hok' b _ z2
            rw [e] at e1; cases e1
            exact e2
  cases hk : K.lookup a with
  | some o =>
    -- the script is one of the module's own objects
    have e := KX a o hk
    rw [ha] at e
    cases e
    refine core (fun _ => none) (fun _ => .inl rfl) (.inr ⟨_, vs.toArray, _, hk, rfl, rfl, rfl, by rw [List.size_toArray, lenV]; exact hl, by simpa using rv⟩) (fun b u z => by have z' : (none : Option HO) = some u := z; cases z') (fun b z => absurd rfl z) fun z => absurd rfl z
  | none =>
    refine core (fun b => if b = a then some (.frz { cls := .type "list", data := .seq vs.toArray } (.lst (ns.map V.int))) else none) (fun b => ?_) (.inl (.inr ⟨{ cls := .type "list", data := .seq vs.toArray }, if_pos rfl⟩)) (fun b u z => ?_) (fun b z => ?_) fun _ => hk
    · by_cases hb : b = a
      · exact .inr ⟨_, _, if_pos hb⟩
      · exact .inl (if_neg hb)
    · by_cases hb : b = a
      · have z' := (if_pos hb).symm.trans z
        cases z'
        subst hb
        exact ⟨ha, by rw [List.length_map]; exact hl, vs, _, rv, ha⟩
      · have z' := (if_neg hb).symm.trans z
        cases z'
    · by_cases hb : b = a
      · exact hb
      · exact absurd (if_neg hb) z
end L2

namespace L2
open PySem PySem.Spec PyProof.Rows

/-- the goal that k_head leaves (case hc), from the law's promise. F gives the function object fd (K's own) once, then the promise over every base -/
theorem walk_of {l : PySem.W.OpenLaw} {n k : Nat} {q : Program} {loose : List Str} {XP : (Str → Option Value) → Heap → Prop} {YP : World → Heap → Prop} {d : DefRec} {K : Params → PySem.W.Frag} {CX : World → CXT} {sp : World → Sp} {x : Str}
    (hn : l.most = some n) (hn2 : n ≤ sizeLine) (hdf : d.params.defaults = []) (hr : Room k callerA)
    (hY : ∀ (w : World) (h : Heap), YP w h → (K w.params).In h)
    (F : ∀ (w : World) (mg : Str → Option Value) (fa : Addr) (h : Heap), (K w.params).In h → h.Ns mainGlobals mg → mg d.name = some (.ref fa) →
      ∃ fd : FuncData, (∀ (s : Shared) (u : Value), BindsTo s fd ⟨[u], []⟩ [(x, u)]) ∧
        ∀ base : Heap, (K w.params).In base → base.Ns mainGlobals mg → FnOk l.prog w (K w.params) mg base (CX w) k fa fd [x] (sp w))
    (hsp : ∀ (w : World) (H : Hp) (a : Addr) (ns : List Int), ns.length ≤ n → Only H → SqL (K w.params) H a (ns.map V.int) → sp w [.ref a] H (fun v _ => v = .bl true) fun _ _ _ => False)
    (hCX : ∀ (w : World) (H : Hp) (s : Shared) (e : Value) (s' : Shared), CX w [] H s (fun _ _ _ => False) e s' → False) :
    PySem.W.WalkO q loose XP YP l.row.toRowW d [] (fun f vs => PySem.call f vs) := by
  refine Att.attach_call hn hdf fun w s₀ s₁ mg mb fa o pm cd doc a vs ns G Y ho hd hcd hmg hobj hints hlen hg => ?_
  have KX := hY w _ Y
  obtain ⟨fd, hb, hF⟩ := F w mg fa _ KX G.T.g hmg
  exact law_call KX G.T.g G.T.b G.T.builtins G.T.nolimit hg hobj hints (Nat.le_trans hlen hn2) hr hF hb (fun H hO hS => hsp w H a ns hlen hO hS) fun H e s' => hCX w H s₁ e s'
end L2

/- THE LAST THEOREM (shape; LID, My.* are yours):
   My.Adr: a structure of the addresses that your layer names (classes, functions); My.Txt K t: a structure (Prop) of the equations over K;
   My.txt_mk : {K} {implicit addresses ..} (e1 : nsIn K mainGlobals "law" = some (some (.ref f))) (e2 : K.lookup f = some ⟨oc, od, .func (fnOf "law" "law" params body scope dV kV doc pm an cdv ct), sl⟩) (e3 : codeIn K cdv "law" = true) .. : ∃ t, My.Txt K t

set_option maxRecDepth 100000 in
set_option maxHeartbeats 0 in
theorem PySem.Challenge.cw_LID_holds : PySem.Challenge.rw_LID.Holds := by
  w_on; o_law; k_head; (case hw => w_witness2)
  k_fill
  refine L2.walk_of (l := PySem.Challenge.rw_LID) (n := 63) (k := 40) (x := "script") (CX := fun w => ..) (sp := fun _ => My.sp_law) rfl (by decide) rfl ⟨rfl, by decide, by decide⟩ (fun w h Y => PySem.W.kIn_of Y) ?F ?S ?C
  case F =>
    intro w mg fa h KX G hmg
    have T : ∃ t, My.Txt (L2.KOf KX) t := by
      dsimp only [L2.KOf]                          -- K must stand as «<heap const> w.params» for k_is
      refine' My.txt_mk ?e1 ?e2 ?e3 ..
      (case e1 => PySem.W.k_is)                    -- in the order: a name -> its address -> its object -> its parts
      (case e2 => PySem.W.k_is)
      ..
    obtain ⟨t, T⟩ := T
    have e0 := hmg.symm.trans (PySem.W.mg_of KX G T.law)
    cases e0                                       -- fa is the law's own address
    exact ⟨_, fun s u => .of_eq rfl, fun base kb nb => My.law_fn T kb nb⟩     -- if «.of_eq rfl» comes too early: refine' ⟨_, ?b, fun base kb nb => My.law_fn T kb nb⟩; exact fun s u => .of_eq rfl
  case S => exact fun w H a ns hl hO hS => ..
  case C => exact ..
(the tactic k_is has no namespace: write k_is) -/

/-! SHORT WORDS over the layer: a def of the text, its body, what a loop and a test want. -/
namespace L2
open PySem PySem.Spec PyProof.Rows

/-! ### the text by places -/
/-- the j-th statement of a class's body -/
def inClass (s : Stmt) (j : Nat) : Stmt := match s with
  | .ClassDef _ _ _ body _ _ _ _ _ _ _ => body.getD j (.Pass ⟨0, 0, 0, 0⟩)
  | _ => .Pass ⟨0, 0, 0, 0⟩
def defArgs (s : Stmt) : Arguments := match s with
  | .FunctionDef _ a _ _ _ _ _ _ _ _ => a
  | _ => { posonlyargs := [], args := [], vararg := none, kwonlyargs := [], kw_defaults := [], kwarg := none, defaults := [] }
def defBody (s : Stmt) : List Stmt := match s with
  | .FunctionDef _ _ b _ _ _ _ _ _ _ => b
  | _ => []
def defScope (s : Stmt) : Scope := match s with
  | .FunctionDef _ _ _ _ _ _ sc _ _ _ => sc
  | _ => { kind := .function, names := [], isGenerator := false, isCoroutine := false }

/-! ### no exception leaves a def -/
abbrev CX0 : CXT := fun _ _ _ _ _ _ => False
abbrev E0 : XK := fun _ _ _ => False
theorem pass0 {X : Cx} : Passes CX0 X E0 := fun _ _ _ _ _ _ _ h => h.elim

/-! ### a def (or method) of the text as it stands behind the top -/
structure Fun (K : PySem.W.Frag) (x qual : Str) (st : Stmt) (f : Addr) (fd : FuncData) : Prop where
  ex : ∃ (oc : Value) (od : Option Addr) (kV doc pm : Value) (an : Option Addr) (cdv ct : Value) (osl : Array (Option Value)),
    fd = PySem.W.fnOf x qual (defArgs st) (defBody st) (defScope st) .none kV doc pm an cdv ct ∧ K.lookup f = some ⟨oc, od, .func fd, osl⟩ ∧ PySem.W.codeIn K cdv qual = true
  kp : PySem.W.keepIn K (.ref f) = true
section
variable {P : Program} {w : World} {K : PySem.W.Frag} {mg : Str → Option Value} {base : Heap}
/-- THE RULE for a def: its body as a term of rules, and the reading of that term -/
theorem Fun.ok {x qual : Str} {st : Stmt} {f : Addr} {fd : FuncData} {N ps : List Str} {k : Nat} {sp : Sp} (F : Fun K x qual st f fd) (S : FnScope N ps (defScope st)) (len : ∀ vs H Q E, sp vs H Q E → vs.length = ps.length)
    (hbody : ∀ (cdv : Value) (A : Around) (outer : List Env) (s : Shared) (H : Hp) (vs : List V) (Q : VK) (E : XK), Room k (A.deeper (envOfC qual (defScope st) s.heap.objs.size f cdv)) → sp vs H Q E →
      ∃ t, PSs (cxOf CX0 P w K mg base N qual (defScope st) f cdv A outer s H E).nox (defBody st) t ∧ t { nx := fun _ H' => Q .non H', rt := Q } (start N vs) H) : FnOk P w K mg base CX0 (k + 1) f fd ps sp := by
  obtain ⟨oc, od, kV, doc, pm, an, cdv, ct, osl, rfl, lk, hcd⟩ := F.ex
  refine fn_of lk hcd S len fun A outer s H vs Q E hr hsp => ?_
  obtain ⟨t, h, q⟩ := hbody cdv A outer s H vs Q E hr hsp
  exact ⟨t, h.nox, q⟩
/-- how its arguments bind (no defaults): h is «fun _ _ _ _ _ _ us hl => match us, hl with | [_, _], _ => rfl», one _ a parameter -/
theorem Fun.binds {x qual : Str} {st : Stmt} {f : Addr} {fd : FuncData} {ps : List Str} (F : Fun K x qual st f fd)
    (h : ∀ (kV doc pm : Value) (an : Option Addr) (cdv ct : Value) (us : List Value), us.length = ps.length → bindArgs (PySem.W.fnOf x qual (defArgs st) (defBody st) (defScope st) .none kV doc pm an cdv ct) ⟨us, []⟩ = pure (ps.zip us)) : Binds K fd ps [] := by
  obtain ⟨oc, od, kV, doc, pm, an, cdv, ct, osl, rfl, lk, hcd⟩ := F.ex
  exact .all (h kV doc pm an cdv ct)
theorem fun_mk {x qual : Str} {st : Stmt} {f : Addr} {oc : Value} {od an : Option Addr} {osl : Array (Option Value)} {kV doc pm cdv ct : Value} (l : K.lookup f = some ⟨oc, od, .func (PySem.W.fnOf x qual (defArgs st) (defBody st) (defScope st) .none kV doc pm an cdv ct), osl⟩)
    (c : PySem.W.codeIn K cdv qual = true) (k : PySem.W.keepIn K (.ref f) = true) : Fun K x qual st f (PySem.W.fnOf x qual (defArgs st) (defBody st) (defScope st) .none kV doc pm an cdv ct) := ⟨⟨oc, od, kV, doc, pm, an, cdv, ct, osl, rfl, l, c⟩, k⟩
end
/-! ### expressions in short: the name that stands in the i-th slot -/
section
variable {X : Cx}
theorem pv (i : Nat) {x : Str} {pos : Pos} (hN : X.N[i]? = some x := by rfl) (hv : Vis X.env.scope x := by first | exact Or.inl rfl | exact Or.inr (Or.inl rfl) | exact Or.inr (Or.inr rfl)) (hd : (x == ("__debug__" : Str)) = false := by decide)
    (hcd : (x == ("__classdict__" : Str)) = false := by decide) : PE X (.Name x pos) (tVar i) := pe_var hN hv hd hcd
end

/-! ### tests -/
theorem iteF {A B : Prop} (h : B) : if false = true then A else B := by
  rw [if_neg Bool.false_ne_true]
  exact h
theorem iteT {A B : Prop} (h : A) : if true = true then A else B := by
  rw [if_pos rfl]
  exact h
theorem ite2 {c A B : Prop} [Decidable c] (h1 : c → A) (h2 : ¬ c → B) : if c then A else B := by
  by_cases h : c
  · rw [if_pos h]
    exact h1 h
  · rw [if_neg h]
    exact h2 h
/-! ### heaps -/
/-- all that was tracked is as it was -/
def Same (H H' : Hp) : Prop := ∀ b o, H b = some o → H' b = some o
theorem Same.refl (H : Hp) : Same H H := fun _ _ h => h
theorem Same.trans {H H1 H2 : Hp} (a : Same H H1) (b : Same H1 H2) : Same H H2 := fun c o h => b c o (a c o h)
theorem Same.free {H H' : Hp} (e : Same H H') {l : Addr} (h : H' l = Option.none) : H l = Option.none := by
  cases q : H l with
  | none => rfl
  | some o =>
    rw [e l o q] at h
    cases h
theorem Same.seq {K : PySem.W.Frag} {H H' : Hp} {a : Addr} {xs : List V} (e : Same H H') (h : SqL K H a xs) : SqL K H' a xs := by
  rcases h with (h | ⟨o, h⟩) | h
  · exact .inl (.inl (e _ _ h))
  · exact .inl (.inr ⟨o, e _ _ h⟩)
  · exact .inr h

end L2

/-! Groves as data: a grove is nil, or a first tree (tag, what is within) and the others. Words with an end sl. -/
namespace FgM
end FgM

/-! RULES OF OUR OWN over the layer: isinstance, t[::-1], whole slices of tuples, extend by a tuple, text * int, == of data at any depth, calls of own defs in short. -/
namespace L2
open PySem PySem.Spec PyProof.Rows
theorem bt_list : bootBuiltins "list" = some (.type "list") := by decide +kernel
theorem bt_tuple : bootBuiltins "tuple" = some (.type "tuple") := by decide +kernel
theorem bt_str : bootBuiltins "str" = some (.type "str") := by decide +kernel
theorem bt_dict : bootBuiltins "dict" = some (.type "dict") := by decide +kernel
theorem bt_max : bootBuiltins "max" = some (.builtin "max") := by decide +kernel
theorem bt_min : bootBuiltins "min" = some (.builtin "min") := by decide +kernel
theorem bt_isinstance : bootBuiltins "isinstance" = some (.builtin "isinstance") := by decide +kernel
section
variable {X : Cx}
/-- the name of a built-in type -/
theorem pe_ty {x : Str} {n : String} {pos : Pos} (hg : Gl X x) (hm : X.mg x = none) (hv : bootBuiltins x = some (.type n)) (hn : x ≠ "__name__" := by decide) (hd : (x == ("__debug__" : Str)) = false := by decide) : PE X (.Name x pos) (tC (.ty n)) :=
  pe_bltn (v := .ty n) hg hm hv rfl hn hd
/-- isinstance(x, T), T a built-in type -/
theorem call_isinst : CallR X (.builtin "isinstance") (fun xs H Q => ∃ x n t b, xs = [x, .ty n] ∧ TyOf X.K H x t ∧ PySem.W.kitOne X.K t (.type n) = some b ∧ Q (.bl b) H) := by
  intro pins s σ H xs us Q I r h
  obtain ⟨x, n, t, b, rfl, ty, e, q⟩ := h
  obtain ⟨u, v, rfl, rx, ry⟩ := Vals.two r
  obtain rfl : v = Value.type n := ry
  exact isinst_ok I rx ty e fun tk => ⟨.bl b, H, I.tok tk, rfl, q⟩
end
/-! ### calls of own defs -/
structure Has (P : Program) (w : World) (K : PySem.W.Frag) (mg : Str → Option Value) (base : Heap) (x : Str) (ps : List Str) (k : Nat) (sp : Sp) : Prop where
  ex : ∃ (f : Addr) (fd : FuncData), FnOk P w K mg base CX0 k f fd ps sp ∧ Binds K fd ps [] ∧ PySem.W.keepIn K (.ref f) = true ∧ mg x = some (.ref f)
section
variable {X : Cx} {x : Str} {ps : List Str} {j k : Nat} {sp : Sp} {e : Expr} {es : List Expr} {t : TA} {p pos : Pos}
theorem FnOk.room {P : Program} {w : World} {K : PySem.W.Frag} {mg : Str → Option Value} {base : Heap} {CX : CXT} {f : Addr} {fd : FuncData} (F : FnOk P w K mg base CX j f fd ps sp) (h : j ≤ k) : FnOk P w K mg base CX k f fd ps sp :=
  ⟨F.len, fun A outer s H args us vs Q E hr => F.run A outer s H args us vs Q E (hr.mono h)⟩
theorem pe_has (G : Has X.prog X.w X.K X.mg X.base x ps j sp) (hr : Room k X.A) (hg : Gl X x) (ha : PA X (e :: es) t) (hk : j ≤ k := by decide) (hdb : (x == ("__debug__" : Str)) = false := by decide)
    (he : starEach (e :: es) X.env = (false, eval e X.env) :: starEach es X.env := by rfl) (hpl : (backTo pos (starEach es X.env)).any (·.1) = false := by rfl) :
    PE X (.Call (.Name x p) (e :: es) [] pos) (tCall sp [] E0 t) := by
  obtain ⟨f, fd, F, b, kp, m⟩ := G.ex
  exact pe_call (F.room hk) hr hg m kp b .nil pass0 ha hdb he hpl
end
/-! ### extend by a tuple -/
/-! ### text * int -/
section
variable {X : Cx}
def repS (z : Str) (n : Nat) : Str := ⟨(List.replicate n z.cps).foldl (· ++ ·) #[]⟩
theorem repS_zero (z : Str) : repS z 0 = Str.empty := rfl
theorem foldl_app {α : Type} : ∀ (l : List (Array α)) (a : Array α), (l.foldl (· ++ ·) a).toList = a.toList ++ l.flatMap (·.toList)
  | [], a => by simp
  | x :: l, a => by rw [List.foldl_cons, foldl_app l]; simp
theorem repS_cps (z : Str) (n : Nat) : (repS z n).cps.toList = (List.replicate n z.cps.toList).flatten := by
  unfold repS
  rw [foldl_app]
  induction n with
  | zero => rfl
  | succ n ih =>
    rw [List.replicate_succ, List.replicate_succ, List.flatMap_cons, List.flatten_cons]
    simp at ih ⊢
    exact ih
theorem repS_one (z : Str) : repS z 1 = z := by
  cases z with
  | mk c => unfold repS; simp
theorem repS_len (z : Str) (n : Nat) : (repS z n).length = n * z.length := by
  show (repS z n).cps.size = n * z.cps.size
  rw [← Array.length_toList, repS_cps]
  simp
theorem op_mul_str : OpR X (binaryOp .Mult) (fun x y H Q => ∃ z k, x = .str z ∧ y = .int k ∧ -(2 ^ 63) ≤ k ∧ k < 2 ^ 63 ∧ k.toNat * z.length ≤ sizeLine ∧ Q (.str (repS z k.toNat)) H) := by
  intro pins s σ H x y v u Q I rx ry h
  obtain ⟨z, k, rfl, rfl, h1, h2, hz, q⟩ := h
  obtain ⟨t, rfl⟩ := rx
  obtain ⟨t', rfl⟩ := ry
  have hline := sizeLine_eq
  refine PySem.P.mul_str ?_ (fun hk hc => ?_) (fun hk hc => ?_) ?_
  · rw [decide_eq_false (by (first | lia | omega)), decide_eq_false (by (first | lia | omega))]
    rfl
  · intro hgt
    have hzk : (z.length : Int) * k ≤ (2 ^ 63 - 1) := by
      have : ((k.toNat * z.length : Nat) : Int) ≤ sizeLine := by exact_mod_cast hz
      rw [Int.natCast_mul, show ((k.toNat : Nat) : Int) = k by (first | lia | omega), Int.mul_comm] at this
      (first | lia | omega)
    have := (Int.le_ediv_iff_mul_le (by (first | lia | omega) : 0 < k)).mpr hzk
    (first | lia | omega)
  · unfold Builtin.Str.tooLong
    refine decide_eq_false ?_
    rw [Nat.mul_comm]
    (first | lia | omega)
  · by_cases c1 : k < 1
    · rw [if_pos c1]
      have e : k.toNat = 0 := by (first | lia | omega)
      rw [e, repS_zero] at q
      exact ⟨by decide, .str Str.empty, H, I.tok _, ⟨_, rfl⟩, q⟩
    · rw [if_neg c1]
      by_cases c2 : (k == 1 || z.length == 0) = true
      · rw [if_pos c2]
        have e : repS z k.toNat = z := by
          rw [Bool.or_eq_true] at c2
          rcases c2 with c2 | c2
          · have : k = 1 := eq_of_beq c2
            subst this
            exact repS_one z
          · have hz0 : z.length = 0 := eq_of_beq c2
            have a : (repS z k.toNat).cps.toList = z.cps.toList := by
              have l1 : (repS z k.toNat).cps.toList.length = 0 := by
                rw [Array.length_toList]
                have := repS_len z k.toNat
                rw [hz0, Nat.mul_zero] at this
                exact this
              have l2 : z.cps.toList.length = 0 := by
                rw [Array.length_toList]
                exact hz0
              rw [List.eq_nil_of_length_eq_zero l1, List.eq_nil_of_length_eq_zero l2]
            cases z with
            | mk c =>
              have b : (repS ⟨c⟩ k.toNat).cps = c := Array.toList_inj.mp a
              cases hr : repS ⟨c⟩ k.toNat with
              | mk d => rw [hr] at b; exact congrArg Str.mk b
        rw [e] at q
        exact ⟨.str z, H, I, ⟨_, rfl⟩, q⟩
      · rw [if_neg c2]
        refine ⟨?_, .str (repS z k.toNat), H, I.tok _, ⟨_, rfl⟩, q⟩
        have := repS_len z k.toNat
        show (repS z k.toNat).length ≤ sizeLine
        rw [this]
        exact hz
end
end L2
namespace HT
open PySem PyProof.Rows
end HT

namespace L2
open PySem PySem.Spec PyProof.Rows
/-! ### == and != of data at any depth -/
mutual
inductive Dp (K : PySem.W.Frag) (H : Hp) : V → PyData → Prop
  | non : Dp K H .non .none
  | bl (b : Bool) : Dp K H (.bl b) (.bool b)
  | int (i : Int) : Dp K H (.int i) (.int i)
  | str (x : Str) : Dp K H (.str x) (.str x)
  | lst {a : Addr} {xs : List V} {ds : List PyData} : SqL K H a xs → DpAll K H xs ds → Dp K H (.ref a) (.list ds)
  | tup {a : Addr} {xs : List V} {ds : List PyData} : SqT K H a xs → DpAll K H xs ds → Dp K H (.ref a) (.tuple ds)
inductive DpAll (K : PySem.W.Frag) (H : Hp) : List V → List PyData → Prop
  | nil : DpAll K H [] []
  | cons {v : V} {vs : List V} {d : PyData} {ds : List PyData} : Dp K H v d → DpAll K H vs ds → DpAll K H (v :: vs) (d :: ds)
end
section
variable {X : Cx} {pins : List (Addr × Obj)} {σ : St} {H : Hp} {s : Shared}
mutual
theorem Dp.reads (I : Inv X pins σ H s) : ∀ {v : V} {d : PyData} {u : Value}, Dp X.K H v d → RelV v u → ∃ as, Reads s.heap u d as
  | _, _, u, .non, r => by
    obtain rfl : u = Value.none := r
    exact ⟨_, .none⟩
  | _, _, u, .bl b, r => by
    obtain rfl : u = Value.bool b := r
    exact ⟨_, .bool b⟩
  | _, _, _, .int i, ⟨t, e⟩ => by
    subst e
    exact ⟨_, .int i t⟩
  | _, _, _, .str x, ⟨t, e⟩ => by
    subst e
    exact ⟨_, .str x t⟩
  | _, _, u, @Dp.lst _ _ a xs ds hq hall, r => by
    obtain rfl : u = Value.ref a := r
    obtain ⟨its, rv, ⟨o, n, e, hc, _, hd⟩, _⟩ := I.list hq
    obtain ⟨as, ha⟩ := DpAll.reads I hall rv
    exact ⟨_, .list e hc hd (by simpa using ha)⟩
  | _, _, u, @Dp.tup _ _ a xs ds hq hall, r => by
    obtain rfl : u = Value.ref a := r
    obtain ⟨its, rv, ⟨o, e, hc, n, hd⟩, _⟩ := I.tuple hq
    obtain ⟨as, ha⟩ := DpAll.reads I hall rv
    exact ⟨_, .tuple e hc hd (by simpa using ha)⟩
theorem DpAll.reads (I : Inv X pins σ H s) : ∀ {vs : List V} {ds : List PyData} {us : List Value}, DpAll X.K H vs ds → Vals vs us → ∃ as, ReadsAll s.heap us ds as
  | _, _, _, .nil, .nil => ⟨_, .nil⟩
  | _, _, _, .cons h t, .cons r rs => by
    obtain ⟨as, ha⟩ := Dp.reads I h r
    obtain ⟨bs, hb⟩ := DpAll.reads I t rs
    exact ⟨_, .cons ha hb⟩
end
end
section
variable {X : Cx}
def rEqD (K : PySem.W.Frag) (neg : Bool) : R2 := fun x y H Q => ∃ d e, Dp K H x d ∧ Dp K H y e ∧ d.canLay0 = true ∧ e.canLay0 = true ∧ min d.depth e.depth ≤ 200 ∧ Q (.bl (if neg then !PyData.eqv d e else PyData.eqv d e)) H
theorem op_eqD (hu : X.A.units + 200 < cLine) : OpR X (compareOp .Eq) (rEqD X.K false) := by
  intro pins s σ H x y v u Q I rx ry h
  obtain ⟨d, e, hx, hy, h1, h2, hd, q⟩ := h
  obtain ⟨as, ra⟩ := hx.reads I rx
  obtain ⟨bs, rb⟩ := hy.reads I ry
  exact PySem.SeqAt.compareEq_reads ra rb h1 h2 (by (first | lia | omega)) ⟨.bl _, H, I, rfl, q⟩
theorem hu_room {A : Around} {k : Nat} (hr : Room k A) : A.units + 200 < cLine := by
  have := hr.un
  (first | lia | omega)
end
/-! ### t[::-1], slices of tuples whole or not -/
/-! ### heaps: tuples are kept -/
/-- what is no list that may change: the tuples stay -/
def TK (H H' : Hp) : Prop := ∀ b xs, H b = some (.tup xs) → H' b = some (.tup xs)
theorem TK.trans {H H1 H2 : Hp} (a : TK H H1) (b : TK H1 H2) : TK H H2 := fun c xs h => b c xs (a c xs h)
theorem TK.lst {H : Hp} {p : Addr} {xs : List V} {o : HO} (h : H p = some (.lst xs)) : TK H (upd H p o) := fun b ys q => by
  by_cases e : b = p
  · subst e
    rw [h] at q
    cases q
  · rw [upd_ne e]
    exact q
theorem Same.tk {H H' : Hp} (h : Same H H') : TK H H' := fun b xs q => h b _ q
theorem Same.new {H : Hp} {p : Addr} {o : HO} (h : H p = none) : Same H (upd H p o) := fun b u q => by
  rw [upd_ne (ne_of_none q h)]
  exact q
theorem Same.upd_new {H H' : Hp} {p : Addr} {o : HO} (h : Same H H') (hp : H p = none) : Same H (upd H' p o) := fun b u q => by
  rw [upd_ne (ne_of_none q hp)]
  exact h b u q
end L2
namespace L2
open PySem PySem.Spec PyProof.Rows
theorem upd_none {H : Hp} {p b : Addr} {o : HO} (h : upd H p o b = none) : b ≠ p ∧ H b = none := by
  by_cases e : b = p
  · subst e
    rw [upd_same] at h
    cases h
  · rw [upd_ne e] at h
    exact ⟨e, h⟩
end L2
namespace L2
open PySem PySem.Spec PyProof.Rows
/-- a body cut behind its n-th statement: R holds there -/
theorem cut {X : Cx} {body : List Stmt} {D : Ends} {σ : St} {H : Hp} (n : Nat) (R : St → Hp → Prop) (h2 : ∃ u, PSs X (body.drop n) u ∧ ∀ σ' H', R σ' H' → u D σ' H')
    (h1 : ∀ u, PSs X (body.drop n) u → (∀ σ' H', R σ' H' → u D σ' H') → ∃ t, PSs X body t ∧ t D σ H) : ∃ t, PSs X body t ∧ t D σ H :=
  let ⟨u, a, b⟩ := h2
  h1 u a b
end L2
namespace L2
open PySem PySem.Spec PyProof.Rows
end L2
namespace L2
end L2

namespace L2
open PySem PySem.Spec PyProof.Rows
theorem Paired.app {α β : Type} {F : α → β → Prop} : ∀ {l₁ k₁ : List α} {l₂ k₂ : List β}, Paired F l₁ l₂ → Paired F k₁ k₂ → Paired F (l₁ ++ k₁) (l₂ ++ k₂)
  | _, _, _, _, .nil, s => s
  | _, _, _, _, .cons r t, s => .cons r (Paired.app t s)
end L2
namespace Fg
open PySem L2 FgM
/-- small letters, one or more -/
def Lets (t : Str) : Prop := t.cps.toList ≠ [] ∧ ∀ c ∈ t.cps.toList, 97 ≤ c ∧ c ≤ 122
theorem app_cps (x y : Str) : (x ++ y).cps.toList = x.cps.toList ++ y.cps.toList := by
  show (x.cps ++ y.cps).toList = _
  simp
theorem ints_at {ns : List Int} {k : Int} (h0 : 0 ≤ k) (h : k < (ns.length : Int)) : ∃ v : Int, atI (ns.map V.int) k = some (.int v) := by
  obtain ⟨n, rfl⟩ := Int.eq_ofNat_of_zero_le h0
  have hn : n < ns.length := by (first | lia | omega)
  exact ⟨ns[n], atI_nat (by rw [List.getElem?_map, List.getElem?_eq_getElem hn]; rfl)⟩
end Fg

namespace Fg
open PySem L2 FgM
/-! ### what the laws' own helpers promise -/
def spLaw (K : PySem.W.Frag) : Sp := fun vs H Q _ => ∃ (a : Addr) (ns : List Int), vs = [.ref a] ∧ SqL K H a (ns.map V.int) ∧ ns.length ≤ 63 ∧ ∀ H', Q (.bl true) H'
theorem len1000 {n : Nat} (h : n ≤ 100000) : n ≤ sizeLine := Nat.le_trans h (by decide)
theorem len1000' {n : Nat} (h : n ≤ 100000) : n < sizeLine := Nat.lt_of_le_of_lt h (by decide)
end Fg
namespace Fg
open PySem L2 FgM
theorem app_len (x y : Str) : (x ++ y).length = x.length + y.length := by
  show (x.cps ++ y.cps).size = _
  rw [Array.size_append]
  rfl
end Fg
namespace Fg
open PySem L2 FgM
end Fg
namespace Fg
open PySem L2 FgM
end Fg
namespace Fg
open PySem L2 FgM
end Fg

namespace L2
open PySem PySem.Spec PyProof.Rows
theorem strsAre_of : ∀ {ys : List Str} {us : List Value}, Vals (ys.map V.str) us → StrsAre us ys
  | [], _, .nil => .nil
  | y :: ys, _, .cons r t => by
    obtain ⟨tk, e⟩ := r
    subst e
    exact .cons y tk (strsAre_of t)
section
variable {X : Cx}
/-- sep.join(xs), a list of texts -/
def rJoin (K : PySem.W.Frag) : V → List V → Hp → VK → Prop := fun x vs H Q => ∃ z a ys, x = .str z ∧ vs = [.ref a] ∧ SqL K H a (ys.map V.str) ∧ (ys.map (·.length)).sum + ys.length * z.length ≤ 16777216 ∧ Q (.str (Txt.join z ys)) H
theorem mt_join : MtM X "str.join" (rJoin X.K) := by
  intro pins s σ H x vs v us Q I rx rv h
  obtain ⟨z, a, ys, rfl, rfl, hS, hz, q⟩ := h
  obtain ⟨t, rfl⟩ := rx
  obtain ⟨u, rfl, ru⟩ := rv.one
  cases ru
  obtain ⟨its, r, pl, _⟩ := I.list hS
  exact join_list pl.isList (by simpa using strsAre_of r) hz fun t' k => ⟨.str _, H, I.tok _, ⟨_, rfl⟩, q⟩
/-- xs == [] -/
theorem op_eq_nil (hu : X.A.units + 200 < cLine) : OpR X (compareOp .Eq) (fun x y H Q => ∃ a b xs, x = .ref a ∧ y = .ref b ∧ SqL X.K H a xs ∧ SqL X.K H b [] ∧ Q (.bl xs.isEmpty) H) := by
  intro pins s σ H x y v u Q I rx ry h
  obtain ⟨a, b, xs, rfl, rfl, ha, hb, q⟩ := h
  cases xs with
  | nil => exact op_eqD hu pins s σ H _ _ v u Q I rx ry ⟨.list [], .list [], .lst ha .nil, .lst hb .nil, rfl, rfl, by decide, q⟩
  | cons x xs =>
    cases rx
    cases ry
    obtain ⟨its, r, pl, _⟩ := I.list ha
    obtain ⟨its2, r2, pl2, _⟩ := I.list hb
    have l1 := r.length
    have l2 := r2.length
    refine PySem.SeqAt.RcAt.lists_lengths pl.isList pl2.isList ?_ (by (first | lia | omega)) X.prog X.w X.xe _ ⟨.bl _, H, I, rfl, q⟩
    rw [List.size_toArray, List.size_toArray, ← l1, ← l2]
    rfl
end
end L2
namespace Fg
open PySem L2 FgM
/-! ### groves as texts -/
def cs (x : Str) : List Nat := x.cps.toList
theorem cs_inj {x y : Str} (h : cs x = cs y) : x = y := by
  cases x with
  | mk a =>
    cases y with
    | mk b => exact congrArg Str.mk (Array.toList_inj.mp h)
theorem cs_app (x y : Str) : cs (x ++ y) = cs x ++ cs y := app_cps x y
def jn (sep : Str) : List Str → List Nat
  | [] => []
  | [x] => cs x
  | x :: y :: r => cs x ++ (cs sep ++ jn sep (y :: r))
theorem cs_strJoin (sep : Str) : ∀ ys : List Str, cs (Str.join sep ys) = jn sep ys
  | [] => rfl
  | [x] => rfl
  | x :: y :: r => by
    show cs (x ++ sep ++ Str.join sep (y :: r)) = _
    rw [cs_app, cs_app, cs_strJoin sep (y :: r), List.append_assoc]
    rfl
theorem cs_join (sep : Str) (ys : List Str) : cs (Txt.join sep ys) = jn sep ys := by
  have e : Txt.join sep ys = Str.join sep ys := PySem.StrLaws.glued_eq_join sep ys
  rw [e, cs_strJoin]
theorem len_le_sum (sep : Str) (ys : List Str) : (Txt.join sep ys).length ≤ (ys.map (·.length)).sum + ys.length * sep.length := by
  have e : Txt.join sep ys = Str.join sep ys := PySem.StrLaws.glued_eq_join sep ys
  rw [e]
  exact PySem.StrLaws.join_length_le sep ys
/-! ### what the laws want of texts -/
end Fg

/-! Texts: their signs walked, cut and compared; all(..) of truths; the comprehension of a tag's test. -/
namespace L2
open PySem PySem.Spec PyProof.Rows
section
variable {P : Program} {w : World} {H : Hp} {h h' : Heap} {a : Addr} {o : HO}
theorem ObjOk.there (x : ObjOk P w H h a o) : ∃ ob, h.get? a = some ob := by
  cases o with
  | lst xs => obtain ⟨_, _, _, _, e⟩ := x; exact ⟨_, e⟩
  | tup xs => obtain ⟨_, _, _, ob, e, _⟩ := x; exact ⟨_, e⟩
  | dK kvs => obtain ⟨_, _, _, _, ob, _, _, e, _⟩ := x; exact ⟨_, e⟩
  | dT kvs => obtain ⟨_, _, _, _, ob, _, _, e, _⟩ := x; exact ⟨_, e⟩
  | set S n => obtain ⟨ob, _, _, _, e, _⟩ := x; exact ⟨_, e⟩
  | ins C dx fs => obtain ⟨_, _, _, e, _⟩ := x; exact ⟨_, e⟩
  | own y => obtain ⟨_, e⟩ := x; exact ⟨_, e⟩
  | xd fs => obtain ⟨_, ⟨_, _, _, e, _⟩, _⟩ := x; exact ⟨_, e⟩
  | rng lo hi => obtain ⟨_, _, _, e⟩ := x; exact ⟨_, e⟩
  | frz ob u => obtain ⟨e, _⟩ := x; exact ⟨_, e⟩
  | tbl ps => exact ⟨_, (show h.get? a = some _ from x)⟩
  | met f y => exact ⟨_, (show h.get? a = some _ from x)⟩
  | ext φ => obtain ⟨_, ⟨_, e⟩, _⟩ := x; exact ⟨_, e⟩
theorem HOk.freshN (x : HOk P w H h) (e : h.get? a = none) : H a = none := by
  cases q : H a with
  | none => rfl
  | some u =>
    obtain ⟨ob, e'⟩ := (x a u q).there
    rw [e] at e'
    cases e'
end
section
variable {X : Cx} {pins : List (Addr × Obj)} {σ : St} {H : Hp} {s : Shared} {h' : Heap}
/-- a new object laid at an address where none stood -/
theorem Inv.laidN {a : Addr} {o : HO} {t' : Nat} (I : Inv X pins σ H s) (k : ∀ b u, s.heap.get? b = some u → h'.get? b = some u) (hp : s.heap.get? a = none) (new : ObjOk X.prog X.w (upd H a o) h' a o) :
    Inv X pins σ (upd H a o) { s with heap := h', toks := t' } := by
  have hn := I.hok.freshN hp
  have ne : ∀ b u, s.heap.get? b = some u → b ≠ a := fun b u e z => by
    rw [z, hp] at e
    cases e
  refine I.un ⟨fun b u q _ _ _ => k b u q, fun b u q _ _ _ => ⟨u.slots, k b u q⟩, fun b u q n _ => by rw [upd_ne (ne b u q)]; exact n, fun b u q _ => ⟨u, k b u q⟩,
    fun b xs q => by rw [upd_ne (ne_of_none q hn)]; exact q, fun b u xs q => by rw [upd_ne (ne_of_none q hn)]; exact q, fun b ps q => ⟨#[], by rw [upd_ne (ne_of_none q hn), q]; simp⟩⟩ fun b u e => ?_
  by_cases hb : b = a
  · subst hb
    rw [upd_same] at e
    cases e
    exact new
  · rw [upd_ne hb] at e
    exact (I.hok b u e).stay (fun c v _ q => k c v q) (fun c q => by rw [upd_ne (ne_of_none q hn)]; exact q) fun c xs q => by rw [upd_ne (ne_of_none q hn)]; exact q
end
/-! ### for x in text -/
/-! ### all(..), texts compared and cut -/
section
variable {X : Cx}
theorem boolsGet : ∀ {bs : List Bool} {us : List Value}, Vals (bs.map V.bl) us → ∀ (i : Nat) (v : Value), us[i]? = some v → ∃ b, bs[i]? = some b ∧ v = .bool b
  | [], _, .nil, i, v, e => by simp at e
  | b :: bs, _, .cons r t, 0, v, e => by
    obtain rfl : _ = Value.bool b := r
    simp at e
    exact ⟨b, rfl, e.symm⟩
  | b :: bs, _, .cons r t, i + 1, v, e => by
    obtain ⟨c, h1, h2⟩ := boolsGet t i v (by simpa using e)
    exact ⟨c, by simpa using h1, h2⟩
theorem all_range : ∀ (bs : List Bool), ((List.range bs.length).all fun i => (bs[i]?).getD true) = bs.all id := by
  intro bs
  rw [Bool.eq_iff_iff, List.all_eq_true, List.all_eq_true]
  constructor
  · intro h b hb
    obtain ⟨i, hi, rfl⟩ := List.getElem_of_mem hb
    have := h i (List.mem_range.mpr hi)
    rw [List.getElem?_eq_getElem hi] at this
    exact this
  · intro h i hi
    have hi' := List.mem_range.mp hi
    rw [List.getElem?_eq_getElem hi']
    exact h _ (List.getElem_mem hi')
theorem call_all (hc : X.calm = true) : CallR X (.builtin "all") (fun xs H Q => ∃ (p : Addr) (bs : List Bool), xs = [.ref p] ∧ SqL X.K H p (bs.map V.bl) ∧ Q (.bl (bs.all id)) H) := by
  intro pins s σ H xs us Q I r h
  obtain ⟨p, bs, rfl, hS, q⟩ := h
  obtain ⟨u, rfl, ru⟩ := Vals.one r
  cases ru
  obtain ⟨its, rv, pl, hz⟩ := I.list hS
  have hl := pl.isList
  have hlen : bs.length = its.length := by
    have := rv.length
    rw [List.length_map] at this
    exact this
  refine call_all_walk (wpAny_pyIter_list hl ⟨s.heap.objs.size, [s.heap.objs.size, p], [s.heap.objs.size], its.toArray.size, _, _, fun i => (bs[i]?).getD true, rfl,
    Walks.list (A := X.A.in1) (I.ok.hd hc) _ p (Nat.ne_of_lt pl.lt) its.toArray, ⟨⟨_, Heap.get?_push_size _ rfl, rfl, rfl⟩, hl.push _⟩, fun i v s' Q' E' hP hQ => ?_, fun h' tk hk => ?_⟩)
  · obtain ⟨b, e, e2⟩ := boolsGet rv i v (by simpa using hP)
    subst e2
    simp only [e, Option.getD_some] at hQ
    exact wpAny_truthy_bool hQ
  · rw [List.size_toArray, ← hlen, all_range]
    refine ⟨.bl _, H, I.kept (t' := tk) fun b o e => hk b o (fun hm => ?_) (Heap.get?_push_of_some _ e), rfl, q⟩
    rw [List.mem_singleton.mp hm] at e
    exact Nat.lt_irrefl _ (Heap.lt_size e)
theorem sl_str : SlR X (fun x lo hi H Q => ∃ z, x = .str z ∧ z.length ≤ sizeLine ∧ Q (.str (PySem.StrLaws.sliceText z lo hi)) H) := by
  intro pins s σ H x v vl vu lo hi sl Q I rx hs pl pu h
  obtain ⟨z, rfl, hz, q⟩ := h
  obtain ⟨t, rfl⟩ := rx
  refine ⟨"str", _, F.slot_str_getitem.lookup, typeIs_str s z t, ?_⟩
  have key : ∀ l u : Option (Int × Tok), s.heap.IsSlice sl l u none → l.map (·.1) = lo → u.map (·.1) = hi → wpAny (model X.prog X.w) X.A (getItem (.str z t) (.ref sl)) (EP X pins σ Q) X.xe s := by
    intro l u hsl el eu
    refine wpAny_getItem_str_slice hsl rfl ?_
    unfold sliceMade slicePicked
    rw [el, eu]
    unfold PySem.StrLaws.sliceText at q
    by_cases c : ((1 : Int) == 1 && (Builtin.Str.strSliceIndices lo hi 1 z.length).length == z.length) = true
    · rw [if_pos c] at q
      rw [if_pos (show ((((none : Option (Int × Tok)).map (·.1)).getD 1 == 1) && (Builtin.Str.strSliceIndices lo hi (((none : Option (Int × Tok)).map (·.1)).getD 1) z.length).length == z.length) = true from c)]
      exact ⟨.str z, H, I, ⟨_, rfl⟩, q⟩
    · rw [if_neg c] at q
      rw [if_neg (show ¬ ((((none : Option (Int × Tok)).map (·.1)).getD 1 == 1) && (Builtin.Str.strSliceIndices lo hi (((none : Option (Int × Tok)).map (·.1)).getD 1) z.length).length == z.length) = true from c)]
      refine ⟨?_, .str _, H, I.tok _, ⟨_, rfl⟩, q⟩
      show (((Builtin.Str.strSliceIndices lo hi 1 z.length).filterMap (z.cps[·]?)).toArray).size ≤ sizeLine
      rw [List.size_toArray]
      refine Nat.le_trans (List.length_filterMap_le _ _) (Nat.le_trans ?_ hz)
      refine sliceRange_length_le _ _ _ _ (fun _ => ?_) (fun z => absurd (by decide) z)
      cases lo with
      | none =>
        cases hi with
        | none => exact ⟨Int.le_refl 0, Int.le_refl _⟩
        | some j => exact ⟨Int.le_refl 0, by simp only [show (1 : Int) > 0 by decide, if_true]; (first | lia | omega)⟩
      | some i =>
        cases hi with
        | none => exact ⟨by simp only [show (1 : Int) > 0 by decide, if_true]; (first | lia | omega), Int.le_refl _⟩
        | some j => exact ⟨by simp only [show (1 : Int) > 0 by decide, if_true]; (first | lia | omega), by simp only [show (1 : Int) > 0 by decide, if_true]; (first | lia | omega)⟩
  cases pl with
  | none =>
    cases pu with
    | none => exact key none none hs rfl rfl
    | int j tj => exact key none (some (j, tj)) hs rfl rfl
  | int i ti =>
    cases pu with
    | none => exact key (some (i, ti)) none hs rfl rfl
    | int j tj => exact key (some (i, ti)) (some (j, tj)) hs rfl rfl
end
/-! ### ['a' <= x <= 'z' for x in text] -/
def azB (c : Nat) : Bool := decide (97 ≤ c) && decide (c ≤ 122)
theorem lt_one (a b : Nat) : decide (([a] : List Nat) < [b]) = decide (a < b) := by
  have h : (([a] : List Nat) < [b]) ↔ a < b := by
    constructor
    · intro h
      cases h with
      | rel h => exact h
      | cons h => cases h
    · intro h
      exact List.Lex.rel h
  exact decide_eq_decide.mpr h
section
variable {prog : Program} {w : World} {A : Around} {E : Value → Shared → Prop} {s : Shared}
theorem le_az {x y : Str} {t u : Tok} {Q : Value → Shared → Prop} (h : Q (.bool (!decide (y.cps.toList < x.cps.toList))) s) : wpAny (model prog w) A (compareOp .LtE (.str x t) (.str y u)) Q E s := PySem.P.le_str h
theorem ld_az {s₂ : Shared} {C : Addr} {m : Str → Option Value} {sc : Scope} {env : Env} {n : Str} {pos : Pos} {v : Value} {Q : Value → Shared → Prop} (x : InComp s₂ C m s) (hk : sc.kind = .function) (hl : sc.names.lookup n = some .local)
    (hv : m n = some v) (hd : (n == ("__debug__" : Str)) = false) (h : Q v s) : wpAny (model prog w) A (eval (.Name n pos) (compEnv sc C env)) Q E s := PySem.ldK x hk hl hv h hd
theorem elt_az {scope : Scope} {C : Addr} {env : Env} {m : Str → Option Value} {x : Str} {c : Nat} {u : Tok} {j j2 : Nat} {p1 p2 p3 pos : Pos} (hk : scope.kind = .function) (hx : scope.names.lookup x = some .local) (hd : (x == ("__debug__" : Str)) = false)
    (hn : s.heap.Ns C m) (hm : m x = some (.str ⟨#[c]⟩ u)) :
    wpAny (model prog w) A (eval (.Compare (.Constant (.str "a") j p1) [.LtE, .LtE] [.Name x p2, .Constant (.str "z") j2 p3] pos) (compEnv scope C env)) (fun r s' => r = .bool (azB c) ∧ Keeps s s') E s := by
  have I0 := (InComp.start hn).tok (s.toks + 1)
  have ea : ("a" : Str).cps.toList = [97] := by decide +kernel
  have ez : ("z" : Str).cps.toList = [122] := by decide +kernel
  have e1 : decide (([c] : List Nat) < [97]) = decide (c < 97) := lt_one c 97
  have e2 : decide (([122] : List Nat) < [c]) = decide (122 < c) := lt_one 122 c
  refine Compare_chain (Calls.Constant_str ?_)
  refine chain_link ?_
  refine ld_az I0 hk hx hm hd ?_
  refine le_az ?_
  rw [ea]
  show wpAny (model prog w) A (truthy (.bool (!decide (([c] : List Nat) < [97])))) _ _ _
  rw [e1]
  refine wpAny_truthy_bool ?_
  by_cases h1 : c < 97
  · rw [decide_eq_true h1]
    refine ite_ff ⟨?_, I0.done⟩
    unfold azB
    rw [decide_eq_false (by (first | lia | omega) : ¬ 97 ≤ c)]
    rfl
  · rw [decide_eq_false h1]
    refine ite_tt ?_
    refine chain_last ?_
    refine Calls.Constant_str ?_
    refine le_az ?_
    rw [ez]
    refine ⟨?_, (I0.tok _).done⟩
    show Value.bool (!decide (([122] : List Nat) < [c])) = _
    rw [e2]
    unfold azB
    rw [decide_eq_true (by (first | lia | omega) : 97 ≤ c)]
    by_cases h2 : c ≤ 122
    · rw [decide_eq_true h2, decide_eq_false (by (first | lia | omega))]
      rfl
    · rw [decide_eq_false h2, decide_eq_true (by (first | lia | omega))]
      rfl
end
theorem azVals : ∀ {cs : List Nat} {vs us : List Value}, (∀ (j : Nat) (v : Value), vs[j]? = some v → ∃ (c : Nat) (u : Tok), cs[j]? = some c ∧ v = Value.str ⟨#[c]⟩ u) → vs.length = cs.length → Paired (fun v r => ∃ c u, v = Value.str ⟨#[c]⟩ u ∧ r = Value.bool (azB c)) vs us →
    Vals (cs.map fun c => .bl (azB c)) us
  | [], [], _, _, _, .nil => .nil
  | [], v :: vs, _, _, h, _ => by simp at h
  | c :: cs, [], _, _, h, _ => by simp at h
  | c :: cs, v :: vs, _, hP, hl, .cons hr t => by
    obtain ⟨c', u', e1, e2⟩ := hP 0 v rfl
    obtain ⟨c2, u2, e3, e4⟩ := hr
    simp at e1
    subst e1
    rw [e2] at e3
    injection e3 with e5 _
    injection e5 with e6
    simp at e6
    subst e6
    refine .cons e4 (azVals (fun j v hv => ?_) (by simpa using hl) t)
    obtain ⟨c3, u3, f1, f2⟩ := hP (j + 1) v (by simpa using hv)
    exact ⟨c3, u3, by simpa using f1, f2⟩
section
variable {X : Cx} {iter : Expr} {te : TE} {scope : Scope} {x : Str} {px p1 p2 p3 p4 pos : Pos} {j j2 : Nat}
theorem pe_comp_az (hi : PE X iter te) (hc : X.calm = true) (hfree : ∀ y ∈ scope.names, y.2 ≠ .free) (hcell : ∀ y ∈ scope.names, y.2 ≠ .cell) (hk : scope.kind = .function)
    (hnames : ∀ y ∈ scope.names, y.2 = .local → scope.names.lookup y.1 = some .local) (hx : scope.names.lookup x = some .local) (hd : (x == ("__debug__" : Str)) = false) (hs : ∀ v, foldedSetIterable iter X.env v = pure v) :
    PE X (.ListComp (.Compare (.Constant (.str "a") j p1) [.LtE, .LtE] [.Name x p2, .Constant (.str "z") j2 p3] p4) [⟨.Name x px, iter, [], 0⟩] scope pos)
      (fun σ H Q => te σ H fun v H1 => ∃ z, v = .str z ∧ z.length ≤ sizeLine ∧ ∀ p, H1 p = none → Q (.ref p) (upd H1 p (.lst (z.cps.toList.map fun c => .bl (azB c))))) := by
  intro pins s σ H Q I h
  refine wpAny_ListComp_walk (fun _ => true) (fun v r => ∃ c u, v = Value.str ⟨#[c]⟩ u ∧ r = Value.bool (azB c)) hfree hcell hk hnames hx (thn (hi pins s σ H _ I h) fun v s1 ⟨xv, H1, I1, r1, q1⟩ => ?_) hs
  obtain ⟨z, rfl, hz, q⟩ := q1
  obtain ⟨t, rfl⟩ := r1
  refine wpAny_pyIter_str fun o St W hst => ⟨s1.heap.objs.size, [s1.heap.objs.size], [s1.heap.objs.size], z.cps.size, SignAt z, St, rfl, W X.A (I1.ok.hd hc), hz, hst, fun b hb => ?_, ⟨?_, ?_⟩, ?_⟩
  · show b < (s1.heap.push o).objs.size
    rw [Heap.size_push, List.mem_singleton.mp hb]
    exact Nat.lt_succ_self _
  · intro C i v s3 m3 E' hP hn hm _ _
    exact wpAny_pure ⟨rfl, (InComp.start hn).done⟩
  · intro C i v s3 m3 E' hP hp hn hm _ _
    obtain ⟨c, u, _, e⟩ := hP
    subst e
    exact wpAny_mono (elt_az hk hx hd hn hm) (fun r s4 h4 => ⟨⟨c, u, rfl, h4.1⟩, h4.2⟩) fun _ _ e => e
  · intro D h' tk ys vs hnew hlD hplD hlen hP hF hkp
    have hF' : Paired (fun v r => ∃ c u, v = Value.str ⟨#[c]⟩ u ∧ r = Value.bool (azB c)) vs ys.toList := by
      rw [List.filter_eq_self.mpr (fun _ _ => rfl)] at hF
      exact hF
    have hV := azVals (cs := z.cps.toList) (fun j v hv => by
      obtain ⟨c, u, e1, e2⟩ := hP j v hv
      exact ⟨c, u, by rw [Array.getElem?_toList]; exact e1, e2⟩) (by rw [hlen, Array.length_toList]) hF'
    have up : ∀ b ob, s1.heap.get? b = some ob → h'.get? b = some ob := fun b ob e => hkp b ob (fun hm => by
      rw [List.mem_singleton.mp hm] at e
      exact Nat.lt_irrefl _ (Heap.lt_size e)) (Heap.get?_push_of_some _ e)
    have hD : s1.heap.get? D = none := by
      cases e : s1.heap.get? D with
      | none => rfl
      | some ob =>
        rw [Heap.get?_push_of_some _ e] at hnew
        cases hnew
    obtain ⟨nD, eD⟩ := hplD
    refine ⟨.ref D, _, I1.laidN (a := D) (o := .lst (z.cps.toList.map fun c => .bl (azB c))) (t' := tk) up hD ⟨?_, ys.toList, nD, hV, by rw [Array.toArray_toList]; exact eD⟩, rfl, q D (I1.hok.freshN hD)⟩
    rw [List.length_map, Array.length_toList]
    exact hz
end
end L2

namespace L2
open PySem
theorem bt_all : bootBuiltins "all" = some (.builtin "all") := by decide +kernel
end L2
namespace Fg
open PySem L2 FgM
def tagB (z : Str) : Bool := decide (1 ≤ z.length) && decide (z.length ≤ 8) && z.cps.toList.all azB
def spIsTag : Sp := fun vs H Q _ => ∃ z : Str, vs = [.str z] ∧ z.length ≤ 100000 ∧ ∀ H', Same H H' → Q (.bl (tagB z)) H'
end Fg

/-! for i, x in enumerate(xs) -/
namespace L2
open PySem PySem.Spec PyProof.Rows
end L2

/-! [elt for tg in iter]: the block as a context of its own -/
namespace L2
open PySem PySem.Spec PyProof.Rows
section
variable {prog : Program} {w : World} {A : Around} {s : Shared} {R : Result → Shared → Prop}
abbrev no0 : Value → Shared → Prop := fun _ _ => False
theorem comp_loop0 {elt target iter : Expr} {scope : Scope} {pos : Pos} {it acc : Value} {env : Env} (I : Nat → Shared → Prop)
    (turn : ∀ n s, I n s → wpAny (model prog w) A (pyNext it) (fun r s1 => match r with
      | none => R (.ok .next) s1
      | some v => wpAny (model prog w) A (letOwnedTupleGo target it v) (fun _ s2 => wpAny (model prog w) A (assign target env v) (fun _ s3 => wpAny (model prog w) A (eval elt env) (fun x s4 =>
          wpAny (model prog w) A (call (.builtin "list.append") [acc, x]) (fun _ s5 => ∃ m, m < n ∧ I m s5) no0 s4) no0 s3) no0 s2) no0 s1) no0 s)
    (n : Nat) (h : I n s) : codeAny (model prog w) A (.compLoop (.ListComp elt [⟨target, iter, [], 0⟩] scope pos) 0 it acc env) R s := by
  refine codeAny_loop rfl I (fun n s hI => ?_) n h
  show wpAny _ _ ((compTurn (.ListComp elt [⟨target, iter, [], 0⟩] scope pos) 0 it acc env).onRaise (fun x => do noteFrame x env; theTreesLotGoes x)) _ _ s
  refine wpAny_noted ?_
  rw [compTurn_list1]
  refine wpAny_bind (wpAny_standAt (wpAny_bind (wpAny_mono (turn n s hI) (fun r s1 h1 => ?_) fun _ _ h' => h'.elim)))
  cases r with
  | none => exact wpAny_pure h1
  | some v =>
    refine wpAny_bind (wpAny_mono h1 (fun _ s2 h2 => ?_) fun _ _ h' => h'.elim)
    refine wpAny_bind (wpAny_mono h2 (fun _ s3 h3 => ?_) fun _ _ h' => h'.elim)
    refine wpAny_bind (wpAny_bind (wpAny_mono h3 (fun x s4 h4 => ?_) fun _ _ h' => h'.elim))
    exact wpAny_bind (wpAny_mono h4 (fun _ s5 h5 => wpAny_pure (wpAny_pure ⟨rfl, h5⟩)) fun _ _ h' => h'.elim)
end
/-- the context of a comprehension's block: its frame at C, the cells cl of captured names, the iterator's records fp -/
def cxComp (X : Cx) (N : List Str) (scope : Scope) (cl : List (Str × Addr)) (C : Addr) (fp : List Addr) (s : Shared) (H : Hp) : Cx where
  prog := X.prog
  w := X.w
  K := X.K
  mg := X.mg
  base := X.base
  A := X.A
  N := N
  s₀ := s
  H₀ := H
  env := compEnvC scope cl C X.env
  outer := X.stack
  stack := X.stack
  ex := fp
  fn := fun _ => false
  calm := X.calm
  pn := []
  xe := no0
section
variable {X : Cx} {pins : List (Addr × Obj)} {σ : St} {H : Hp} {s : Shared}
theorem cxComp_ok {N : List Str} {scope : Scope} {cl : List (Str × Addr)} {C : Addr} {fp : List Addr} (I : Inv X pins σ H s) (hk : scope.kind = .function) (hC : s.heap.objs.size ≤ C) (hcl : ∀ x c, cl.lookup x = some c → X.env.cells.lookup x = some c)
    (hhas : ∀ x, ((compEnvC scope cl C X.env).kindOf x = some .cell ∨ (compEnvC scope cl C X.env).kindOf x = some .free) → ∃ c, cl.lookup x = some c)
    (hf : ∀ b ∈ fp, FpOk X pins H b) (hlt : ∀ b ∈ fp, b < s.heap.objs.size) : (cxComp X N scope cl C fp s H).Ok where
  mod := I.ok.mod
  kind := hk
  glob := I.ok.glob
  blt := I.ok.blt
  above := hC
  inj := fun x y c e1 e2 => I.ok.inj x y c (hcl x c e1) (hcl y c e2)
  has := hhas
  cab := fun x c e => by cases e
  hd := I.ok.hd
  frames := I.ok.frames
  stk := .inl rfl
  exf := fun b hb => ⟨fun z => absurd (Nat.lt_of_lt_of_le (hlt b hb) hC) (by rw [show b = C from z]; exact Nat.lt_irrefl _), fun x c e => (hf b hb).2.2.2.2.1 x c (hcl x c e)⟩
  bs := fun b o e => ⟨(I.bs b o e).1, (I.bs b o e).2⟩
  bsz := Nat.le_trans I.ok.bsz I.sz
  noex := fun b o e hb => by
    rcases (hf b hb).2.2.2.1 with z | z
    · exact I.ok.noex b o e z
    · exact absurd (Nat.lt_of_lt_of_le (Heap.lt_size e) (Nat.le_trans I.ok.bsz z)) (Nat.lt_irrefl _)
  exfs := fun b hb hm => by
    rcases List.mem_cons.mp (I.stkSub b hm) with z | z
    · exact (hf b hb).2.1 z
    · exact (hf b hb).2.2.1 z
  funs := I.stack
  frf := I.stkFree
/-- the values of the block's names at its start: the targets' none, the captured ones' as they stand -/
def capσ (σ : St) (k : Nat) (cap : List (Str × Nat)) : St := List.replicate k none ++ cap.map fun p => (σ[p.2]?).getD none
theorem cxComp_start {scope : Scope} {cl : List (Str × Addr)} {fp : List Addr} {tn : List Str} {cap : List (Str × Nat)} {h1 : Heap} (I : Inv X pins σ H s) (hk : scope.kind = .function) (hcl : ∀ x c, cl.lookup x = some c → X.env.cells.lookup x = some c)
    (hhas : ∀ x, ((compEnvC scope cl s.heap.objs.size X.env).kindOf x = some .cell ∨ (compEnvC scope cl s.heap.objs.size X.env).kindOf x = some .free) → ∃ c, cl.lookup x = some c)
    (hf : ∀ b ∈ fp, FpOk X pins H b) (hlt : ∀ b ∈ fp, b < s.heap.objs.size)
    (hcap : ∀ p ∈ cap, X.N[p.2]? = some p.1 ∧ X.env.scope.names.lookup p.1 = some .cell ∧ ((compEnvC scope cl s.heap.objs.size X.env).kindOf p.1 = some .cell ∨ (compEnvC scope cl s.heap.objs.size X.env).kindOf p.1 = some .free))
    (hns : h1.Ns s.heap.objs.size (fun _ => none)) (hkp : ∀ b o, s.heap.get? b = some o → h1.get? b = some o) :
    Inv (cxComp X (tn ++ cap.map (·.1)) scope cl s.heap.objs.size fp s H) [] (capσ σ tn.length cap) H { s with heap := h1 } where
  ok := cxComp_ok I hk (Nat.le_refl _) hcl hhas hf hlt
  os := rfl
  bare := I.bare
  base := Un.kept hkp
  loc := by
    refine ⟨fun _ => none, hns, fun i x v e1 e2 hv => ?_⟩
    unfold capσ at e2
    by_cases hi : i < tn.length
    · rw [List.getElem?_append_left (by rw [List.length_replicate]; exact hi), List.getElem?_replicate, if_pos hi] at e2
      cases e2
    · have hN : (cap.map (·.1))[i - tn.length]? = some x := by
        have : (tn ++ cap.map (·.1))[i]? = some x := e1
        rw [List.getElem?_append_right (by (first | lia | omega))] at this
        exact this
      rw [List.getElem?_append_right (by rw [List.length_replicate]; (first | lia | omega)), List.length_replicate, List.getElem?_map] at e2
      rw [List.getElem?_map] at hN
      cases hp : cap[i - tn.length]? with
      | none => rw [hp] at hN; cases hN
      | some p =>
        rw [hp] at hN e2
        have hx : p.1 = x := Option.some.inj hN
        have he : (σ[p.2]?).getD none = some v := Option.some.inj e2
        obtain ⟨c1, c2, c3⟩ := hcap p (List.mem_of_getElem? hp)
        subst hx
        have hs : σ[p.2]? = some (some v) := by
          cases q : σ[p.2]? with
          | none => rw [q] at he; cases he
          | some z => rw [q] at he; rw [show z = some v from he]
        obtain ⟨m, hn, hl⟩ := I.loc
        obtain ⟨u, r, l⟩ := hl p.2 p.1 v c1 hs (.inr (.inl c2))
        refine ⟨u, r, .inr ⟨c3, ?_⟩⟩
        obtain ⟨c, hc⟩ := hhas p.1 c3
        refine ⟨c, hc, ?_⟩
        rcases l with ⟨l1, _⟩ | ⟨_, c', l2, o, ho, hd⟩
        · have : X.env.kindOf p.1 = some .cell := c2
          rw [this] at l1
          cases l1
        · have : c = c' := Option.some.inj ((hcl p.1 c hc).symm.trans l2)
          subst this
          exact ⟨o, hkp _ _ ho, hd⟩
  cell := fun x c e => by
    obtain ⟨v, o, ho, hd⟩ := I.cell x c (hcl x c e)
    exact ⟨v, o, hkp _ _ ho, hd⟩
  free := I.hok.fresh (Nat.le_refl _)
  freeC := fun x c e => I.freeC x c (hcl x c e)
  pin := fun p hp => by cases hp
  hok := I.hok.kept hkp
  len := by
    unfold capσ
    show _ = (tn ++ cap.map (·.1)).length
    rw [List.length_append, List.length_append, List.length_replicate, List.length_map, List.length_map]
end
end L2

namespace L2
open PySem PySem.Spec PyProof.Rows
/-- a comprehension's reading: W by the turn, a measure, the items so far, the block's names, the heap; p: the list under way -/
def tComp (wi : TI) (k : Nat) (cap : List (Str × Nat)) (g : TG) (te : TE) : TE := fun σ H Q => wi σ H fun J H1 => ∀ p, H1 p = none → ∃ W : Nat → Nat → List V → St → Hp → Prop, (∃ m, W 0 m [] (capσ σ k cap) (upd H1 p (.lst []))) ∧
  ∀ i m ys σc H2, W i m ys σc H2 → H2 p = some (.lst ys) ∧ ((J.stop i H2 ∧ Q (.ref p) H2) ∨ (J.go i H2 ∧ ∀ x H3, J.yld i H2 x H3 → g x σc H3 fun σ3 H4 => te σ3 H4 fun v H5 =>
    H5 p = some (.lst ys) ∧ ys.length < sizeLine ∧ ∃ m', m' < m ∧ W (i + 1) m' (ys ++ [v]) σ3 (upd H5 p (.lst (ys ++ [v])))))
section
variable {X : Cx} {elt iter tg : Expr} {scope : Scope} {pos : Pos} {wi : TI} {g : TG} {te : TE} {cl : List (Str × Addr)}
theorem comp_core0 {pins : List (Addr × Obj)} {σ : St} {H2 : Hp} {s2 : Shared} {it : Addr} {fp : List Addr} {tnn : Nat → Heap → Prop} {J : It} {R : Addr → Hp → Prop} {use : Option (Value → Sem Unit)} {Qp : Value → Shared → Prop} (tn : List Str) (cap : List (Str × Nat)) (hg : ∀ C fp s H, PG (cxComp X (tn ++ cap.map (·.1)) scope cl C fp s H) tg g) (he : ∀ C fp s H, PE (cxComp X (tn ++ cap.map (·.1)) scope cl C fp s H) elt te) (hc : X.calm = true) (hcell : ∀ y ∈ scope.names, y.2 ≠ .cell) (hk : scope.kind = .function) (hcl : ∀ x c, cl.lookup x = some c → X.env.cells.lookup x = some c) (hhas : ∀ C x, ((compEnvC scope cl C X.env).kindOf x = some .cell ∨ (compEnvC scope cl C X.env).kindOf x = some .free) → ∃ c, cl.lookup x = some c) (hcap : ∀ C, ∀ p ∈ cap, X.N[p.2]? = some p.1 ∧ X.env.scope.names.lookup p.1 = some .cell ∧ ((compEnvC scope cl C X.env).kindOf p.1 = some .cell ∨ (compEnvC scope cl C X.env).kindOf p.1 = some .free))
    (I2 : Inv X pins σ H2 s2) (T : Turn X.prog X.w X.K tg J fp it tnn) (st2 : tnn 0 s2.heap) (f2 : ∀ b ∈ fp, FpOk X pins H2 b) (q2 : ∀ p, H2 p = none → ∃ W : Nat → Nat → List V → St → Hp → Prop, (∃ m, W 0 m [] (capσ σ tn.length cap) (upd H2 p (.lst []))) ∧
  ∀ i m ys σc H2, W i m ys σc H2 → H2 p = some (.lst ys) ∧ ((J.stop i H2 ∧ R p H2) ∨ (J.go i H2 ∧ ∀ x H3, J.yld i H2 x H3 → g x σc H3 fun σ3 H4 => te σ3 H4 fun v H5 => H5 p = some (.lst ys) ∧ ys.length < sizeLine ∧ ∃ m', m' < m ∧ W (i + 1) m' (ys ++ [v]) σ3 (upd H5 p (.lst (ys ++ [v]))))))
    (hfin : ∀ (s3 : Shared) (H3 : Hp), Inv X pins σ H3 s3 → (∀ b ∈ fp, FpOk X pins H3 b) → ∀ (acc : Addr) (σ6 : St) (H6 : Hp) (s6 : Shared), Inv (cxComp X (tn ++ cap.map (·.1)) scope cl s3.heap.objs.size fp s3 H3) [] σ6 H6 s6 → R acc H6 → compPost (model X.prog X.w) X.A X.xe use Qp (.ref acc) s3.heap.objs.size (.ok .next) s6) :
    wpAny (model X.prog X.w) X.A (newList []) (fun acc s₃ => wpAny (model X.prog X.w) X.A (newFunctionEnv scope X.env.globals cl [] X.env.qual none Value.none (some X.env)) (fun cenv s₄ => codeAny (model X.prog X.w) X.A (Code.compStart (.ListComp elt [⟨tg, iter, [], 0⟩] scope pos) 0 (Value.ref it) acc { cenv with scope := relabel scope X.env }) (compPost (model X.prog X.w) X.A X.xe use Qp acc cenv.locals) s₄) X.xe s₃) X.xe s2 := by
  have fresh : H2 s2.heap.objs.size = none := I2.fresh
  obtain ⟨W, ⟨m0, w0⟩, turn⟩ := q2 s2.heap.objs.size fresh
  have lt2 : ∀ b ∈ fp, b < s2.heap.objs.size := fun b hb => by
    obtain ⟨o, ho, _⟩ := T.obj _ _ st2 b hb
    exact Heap.lt_size ho
  have I3 : Inv X pins σ (upd H2 s2.heap.objs.size (.lst [])) { s2 with heap := s2.heap.push { cls := .type "list", data := .seq ([] : List Value).toArray } } := I2.lnew (its := []) (t' := s2.toks) .nil (Nat.zero_le _)
  refine wpAny_newObj_type (wpAny_newFunctionEnv hcell (by intro y hy; simp at hy) (fun h1 hns1 hsb1 => ?_) hk)
  dsimp only at hns1 hsb1 ⊢
  generalize hS3 : ({ s2 with heap := s2.heap.push { cls := .type "list", dict := none, data := .seq ([] : List Value).toArray } } : Shared) = s3 at I3
  have hh3 : s2.heap.push { cls := .type "list", dict := none, data := .seq ([] : List Value).toArray } = s3.heap := by rw [← hS3]
  rw [hh3] at hns1 hsb1 ⊢
  have sz3 : s3.heap.objs.size = s2.heap.objs.size + 1 := by rw [← hh3, Heap.size_push]
  have lt3 : ∀ b ∈ fp, b < s3.heap.objs.size := fun b hb => Nat.lt_of_lt_of_le (lt2 b hb) (by rw [sz3]; exact Nat.le_succ _)
  have f3 : ∀ b ∈ fp, FpOk X pins (upd H2 s2.heap.objs.size (.lst [])) b := fun b hb => ⟨by rw [upd_ne (Nat.ne_of_lt (lt2 b hb))]; exact (f2 b hb).1, (f2 b hb).2⟩
  have keep3 : ∀ b o, s3.heap.get? b = some o → h1.get? b = some o := fun b o q => hsb1.extBut b o (Nat.ne_of_lt (Heap.lt_size q)) (Heap.get?_push_of_some _ q)
  have st3 : tnn 0 h1 := T.keep _ _ _ st2 fun b hb o q => keep3 b o (by rw [← hh3]; exact Heap.get?_push_of_some _ q)
  have I4 := (cxComp_start (tn := tn) I3 hk hcl (hhas _) f3 lt3 (hcap _) hns1 keep3).tok (s2.toks + ([] : List (Str × Value)).length)
  have loop : codeAny (model X.prog X.w) X.A (.compLoop (.ListComp elt [⟨tg, iter, [], 0⟩] scope pos) 0 (.ref it) (.ref s2.heap.objs.size) (compEnvC scope cl s3.heap.objs.size X.env))
      (compPost (model X.prog X.w) X.A X.xe use Qp (.ref s2.heap.objs.size) s3.heap.objs.size) { s3 with heap := h1, toks := s2.toks + ([] : List (Str × Value)).length } := by
    refine comp_loop0 (fun n s' => ∃ i ys σ' H', Inv (cxComp X (tn ++ cap.map (·.1)) scope cl s3.heap.objs.size fp s3 (upd H2 s2.heap.objs.size (.lst []))) [] σ' H' s' ∧ tnn i s'.heap ∧ (∀ b ∈ fp, H' b = none) ∧ W i n ys σ' H') ?_ m0
      ⟨0, [], _, _, I4, st3, fun b hb => (f3 b hb).1, w0⟩
    rintro n s5 ⟨i, ys, σ5, H5, I5, st5, fr5, w5⟩
    obtain ⟨hD, alt⟩ := turn i n ys σ5 H5 w5
    have stat : ∀ {H' : Hp}, (∀ b ∈ fp, H' b = none) → ∀ b ∈ fp, FpOk (cxComp X (tn ++ cap.map (·.1)) scope cl s3.heap.objs.size fp s3 (upd H2 s2.heap.objs.size (.lst []))) [] H' b :=
      fun hn b hb => ⟨hn b hb, (I4.ok.exf b hb).1, I4.ok.exfs b hb, .inl hb, (I4.ok.exf b hb).2, fun p hp => by cases hp⟩
    rcases alt with ⟨stop, qn⟩ | ⟨go, step⟩
    · refine thn (T.done (cxComp X (tn ++ cap.map (·.1)) scope cl s3.heap.objs.size fp s3 (upd H2 s2.heap.objs.size (.lst []))) rfl rfl rfl hc i [] s5 σ5 H5 no0 I5 (stat fr5) st5 stop) fun r s6 ⟨hr, I6⟩ => ?_
      subst hr
      exact hfin s3 _ I3 f3 _ σ5 H5 s6 I6 qn
    · refine thn (T.item (cxComp X (tn ++ cap.map (·.1)) scope cl s3.heap.objs.size fp s3 (upd H2 s2.heap.objs.size (.lst []))) rfl rfl rfl hc i [] s5 σ5 H5 no0 I5 (stat fr5) st5 go) fun r s6 ⟨u, hr, h6⟩ => ?_
      subst hr
      refine thn h6 fun _ s7 ⟨x, H7, I7, r7, y7, st7, fr7⟩ => ?_
      have I7' := I7.pinned (stat fr7) (T.obj _ _ st7)
      refine thn (hg _ _ _ _ _ s7 σ5 H7 x u _ I7' r7 (step x H7 y7)) fun _ s8 ⟨σ8, H8, I8, q8⟩ => ?_
      refine thn (he _ _ _ _ _ s8 σ8 H8 _ I8 q8) fun xv s9 ⟨v9, H9, I9, r9, q9⟩ => ?_
      obtain ⟨hD9, hl9, m', hm', w9⟩ := q9
      refine thn (mt_append _ s9 σ8 H9 (.ref s2.heap.objs.size) [v9] (.ref s2.heap.objs.size) [xv] (fun z H' => z = .non ∧ H' = upd H9 s2.heap.objs.size (.lst (ys ++ [v9]))) I9 rfl (.cons r9 .nil)
        ⟨s2.heap.objs.size, ys, v9, rfl, rfl, hD9, hl9, rfl, rfl⟩) fun z s10 ⟨zv, H10, I10, _, _, eH⟩ => ?_
      subst eH
      refine ⟨m', hm', i + 1, ys ++ [v9], σ8, _, I10.unpinned, T.keep _ _ _ st7 fun b hb o q => (I10.pin (b, o) (List.mem_append_right _ (List.mem_append_right _ (mem_pinsAt hb q)))).1, fun b hb => ?_, w9⟩
      obtain ⟨o, q, d⟩ := T.obj _ _ st7 b hb
      exact (I10.pin (b, o) (List.mem_append_right _ (List.mem_append_right _ (mem_pinsAt hb q)))).2.1
  subst hS3
  exact codeAny_compStart_list loop (T.self X.A 0 _ _ _ st3 loop)
theorem pe_comp (tn : List Str) (cap : List (Str × Nat)) (hi : PI X tg iter wi) (hg : ∀ C fp s H, PG (cxComp X (tn ++ cap.map (·.1)) scope cl C fp s H) tg g) (he : ∀ C fp s H, PE (cxComp X (tn ++ cap.map (·.1)) scope cl C fp s H) elt te)
    (hc : X.calm = true) (hclos : closureFor scope X.env = pure cl) (hcell : ∀ y ∈ scope.names, y.2 ≠ .cell) (hk : scope.kind = .function) (hnames : ∀ y ∈ scope.names, y.2 = .local → scope.names.lookup y.1 = some .local)
    (hcl : ∀ x c, cl.lookup x = some c → X.env.cells.lookup x = some c)
    (hhas : ∀ C x, ((compEnvC scope cl C X.env).kindOf x = some .cell ∨ (compEnvC scope cl C X.env).kindOf x = some .free) → ∃ c, cl.lookup x = some c)
    (hcap : ∀ C, ∀ p ∈ cap, X.N[p.2]? = some p.1 ∧ X.env.scope.names.lookup p.1 = some .cell ∧ ((compEnvC scope cl C X.env).kindOf p.1 = some .cell ∨ (compEnvC scope cl C X.env).kindOf p.1 = some .free))
    (hs : ∀ v, foldedSetIterable iter X.env v = pure v) : PE X (.ListComp elt [⟨tg, iter, [], 0⟩] scope pos) (tComp wi tn.length cap g te) := by
  intro pins s σ H Q I h
  rw [eval_ListComp]
  refine wpAny_comprehension_free (use := none) rfl hs hclos hk hnames (thn (hi pins s σ H _ I h) fun v s1 h1 => thn h1 fun itv s2 h2 => ?_)
  obtain ⟨it, fp, tnn, J, H2, e, I2, T, st2, f2, q2⟩ := h2
  subst e
  refine comp_core0 (R := fun p H6 => Q (.ref p) H6) tn cap hg he hc hcell hk hcl hhas hcap I2 T st2 f2 q2 fun s3 H3 I3 f3 acc σ6 H6 s6 I6 q6 => ?_
  obtain ⟨m, hn, _⟩ := I6.loc
  refine ⟨m, hn, fun h' sb => ?_⟩
  have nC : ∀ b o, s3.heap.get? b = some o → b ≠ s3.heap.objs.size := fun b o q => Nat.ne_of_lt (Heap.lt_size q)
  have u : Un (frs X.stack) fp H3 H6 s3.heap h' := by
    have u0 := I6.base
    refine ⟨fun b o q n hb hx => (sb.2 b (nC b o q)).trans (u0.keep b o q n hb hx), fun b o q n hb hx => ?_, u0.free, fun b o q hx => ?_, u0.tups, u0.frzs, u0.tbls⟩
    · obtain ⟨sl, e⟩ := u0.slot b o q n hb hx
      exact ⟨sl, (sb.2 b (nC b o q)).trans e⟩
    · obtain ⟨o', e⟩ := u0.there b o q hx
      exact ⟨o', (sb.2 b (nC b o q)).trans e⟩
  have free6 : H6 s3.heap.objs.size = none := I6.free
  have ok6 : HOk X.prog X.w H6 h' := fun b o q => (I6.hok b o q).stay (fun c v hcv r => (sb.2 c (by
    rcases hcv with z | z
    · rw [z]
      exact ne_of_none q free6
    · exact ne_of_none z free6)).trans r) (fun _ q => q) fun _ _ q => q
  have I' := I3.call (g' := s6.gens) (d' := s6.drawn) (t' := s6.toks) (ch := fp) u ok6 I6.bare fun b hb => ⟨(f3 b hb).2.2.2.1, (f3 b hb).2.1, (f3 b hb).2.2.2.2.1, (f3 b hb).2.2.2.2.2⟩
  have e : ({ s6 with heap := h' } : Shared) = { s3 with heap := h', gens := s6.gens, drawn := s6.drawn, toks := s6.toks } := by
    have ho : s6.os = s3.os := I6.os
    obtain ⟨a1, a2, a3, a4, a5⟩ := s6
    obtain ⟨b1, b2, b3, b4, b5⟩ := s3
    simp only at ho
    subst ho
    rfl
  rw [e]
  exact ⟨.ref _, H6, I', rfl, q6⟩
end
end L2

/-! [elt for tg in iter if ct] -/
namespace L2
open PySem PySem.Spec PyProof.Rows
section
variable {prog : Program} {w : World} {A : Around} {s : Shared} {R : Result → Shared → Prop}
theorem comp_loop1 {elt ct target iter : Expr} {scope : Scope} {pos : Pos} {it acc : Value} {env : Env} (I : Nat → Shared → Prop)
    (turn : ∀ n s, I n s → wpAny (model prog w) A (pyNext it) (fun r s1 => match r with
      | none => R (.ok .next) s1
      | some v => wpAny (model prog w) A (letOwnedTupleGo target it v) (fun _ s2 => wpAny (model prog w) A (assign target env v) (fun _ s3 => wpAny (model prog w) A (isTrue ct env (eval ct env)) (fun ok s3' =>
          if ok = true then wpAny (model prog w) A (eval elt env) (fun x s4 =>
          wpAny (model prog w) A (call (.builtin "list.append") [acc, x]) (fun _ s5 => ∃ m, m < n ∧ I m s5) no0 s4) no0 s3' else ∃ m, m < n ∧ I m s3') no0 s3) no0 s2) no0 s1) no0 s)
    (n : Nat) (h : I n s) : codeAny (model prog w) A (.compLoop (.ListComp elt [⟨target, iter, [ct], 0⟩] scope pos) 0 it acc env) R s := by
  refine codeAny_loop rfl I (fun n s hI => ?_) n h
  show wpAny _ _ ((compTurn (.ListComp elt [⟨target, iter, [ct], 0⟩] scope pos) 0 it acc env).onRaise (fun x => do noteFrame x env; theTreesLotGoes x)) _ _ s
  refine wpAny_noted ?_
  rw [compTurn_list]
  refine wpAny_bind (wpAny_standAt (wpAny_bind (wpAny_mono (turn n s hI) (fun r s1 h1 => ?_) fun _ _ h' => h'.elim)))
  cases r with
  | none => exact wpAny_pure h1
  | some v =>
    refine wpAny_bind (wpAny_mono h1 (fun _ s2 h2 => ?_) fun _ _ h' => h'.elim)
    refine wpAny_bind (wpAny_mono h2 (fun _ s3 h3 => ?_) fun _ _ h' => h'.elim)
    refine wpAny_bind (wpAny_tests_one (wpAny_mono h3 (fun ok s3' h3' => ?_) fun _ _ h' => h'.elim))
    cases ok with
    | true =>
      simp only [if_true] at h3' ⊢
      refine wpAny_bind (wpAny_bind (wpAny_mono h3' (fun x s4 h4 => ?_) fun _ _ h' => h'.elim))
      exact wpAny_bind (wpAny_mono h4 (fun _ s5 h5 => wpAny_pure (wpAny_pure ⟨rfl, h5⟩)) fun _ _ h' => h'.elim)
    | false =>
      simp only [Bool.false_eq_true, if_false] at h3' ⊢
      exact wpAny_pure ⟨rfl, h3'⟩
end
/-- a comprehension's reading with a test: W by the turn, a measure, the items so far, the block's names, the heap; p: the list under way -/
def tCompT (wi : TI) (k : Nat) (cap : List (Str × Nat)) (g : TG) (tt : TT) (te : TE) : TE := fun σ H Q => wi σ H fun J H1 => ∀ p, H1 p = none → ∃ W : Nat → Nat → List V → St → Hp → Prop, (∃ m, W 0 m [] (capσ σ k cap) (upd H1 p (.lst []))) ∧
  ∀ i m ys σc H2, W i m ys σc H2 → H2 p = some (.lst ys) ∧ ((J.stop i H2 ∧ Q (.ref p) H2) ∨ (J.go i H2 ∧ ∀ x H3, J.yld i H2 x H3 → g x σc H3 fun σ3 H4 => tt σ3 H4 fun b H4' => if b = true then te σ3 H4' fun v H5 =>
    H5 p = some (.lst ys) ∧ ys.length < sizeLine ∧ ∃ m', m' < m ∧ W (i + 1) m' (ys ++ [v]) σ3 (upd H5 p (.lst (ys ++ [v])))
    else ∃ m', m' < m ∧ W (i + 1) m' ys σ3 H4'))
section
variable {X : Cx} {elt ct iter tg : Expr} {scope : Scope} {pos : Pos} {wi : TI} {g : TG} {tt : TT} {te : TE} {cl : List (Str × Addr)}
theorem comp_core1 {pins : List (Addr × Obj)} {σ : St} {H2 : Hp} {s2 : Shared} {it : Addr} {fp : List Addr} {tnn : Nat → Heap → Prop} {J : It} {R : Addr → Hp → Prop} {use : Option (Value → Sem Unit)} {Qp : Value → Shared → Prop} (tn : List Str) (cap : List (Str × Nat)) (hg : ∀ C fp s H, PG (cxComp X (tn ++ cap.map (·.1)) scope cl C fp s H) tg g) (ht : ∀ C fp s H, PT (cxComp X (tn ++ cap.map (·.1)) scope cl C fp s H) ct tt) (he : ∀ C fp s H, PE (cxComp X (tn ++ cap.map (·.1)) scope cl C fp s H) elt te) (hc : X.calm = true) (hcell : ∀ y ∈ scope.names, y.2 ≠ .cell) (hk : scope.kind = .function) (hcl : ∀ x c, cl.lookup x = some c → X.env.cells.lookup x = some c) (hhas : ∀ C x, ((compEnvC scope cl C X.env).kindOf x = some .cell ∨ (compEnvC scope cl C X.env).kindOf x = some .free) → ∃ c, cl.lookup x = some c) (hcap : ∀ C, ∀ p ∈ cap, X.N[p.2]? = some p.1 ∧ X.env.scope.names.lookup p.1 = some .cell ∧ ((compEnvC scope cl C X.env).kindOf p.1 = some .cell ∨ (compEnvC scope cl C X.env).kindOf p.1 = some .free))
    (I2 : Inv X pins σ H2 s2) (T : Turn X.prog X.w X.K tg J fp it tnn) (st2 : tnn 0 s2.heap) (f2 : ∀ b ∈ fp, FpOk X pins H2 b) (q2 : ∀ p, H2 p = none → ∃ W : Nat → Nat → List V → St → Hp → Prop, (∃ m, W 0 m [] (capσ σ tn.length cap) (upd H2 p (.lst []))) ∧
  ∀ i m ys σc H2, W i m ys σc H2 → H2 p = some (.lst ys) ∧ ((J.stop i H2 ∧ R p H2) ∨ (J.go i H2 ∧ ∀ x H3, J.yld i H2 x H3 → g x σc H3 fun σ3 H4 => tt σ3 H4 fun b H4' => if b = true then te σ3 H4' fun v H5 => H5 p = some (.lst ys) ∧ ys.length < sizeLine ∧ ∃ m', m' < m ∧ W (i + 1) m' (ys ++ [v]) σ3 (upd H5 p (.lst (ys ++ [v]))) else ∃ m', m' < m ∧ W (i + 1) m' ys σ3 H4')))
    (hfin : ∀ (s3 : Shared) (H3 : Hp), Inv X pins σ H3 s3 → (∀ b ∈ fp, FpOk X pins H3 b) → ∀ (acc : Addr) (σ6 : St) (H6 : Hp) (s6 : Shared), Inv (cxComp X (tn ++ cap.map (·.1)) scope cl s3.heap.objs.size fp s3 H3) [] σ6 H6 s6 → R acc H6 → compPost (model X.prog X.w) X.A X.xe use Qp (.ref acc) s3.heap.objs.size (.ok .next) s6) :
    wpAny (model X.prog X.w) X.A (newList []) (fun acc s₃ => wpAny (model X.prog X.w) X.A (newFunctionEnv scope X.env.globals cl [] X.env.qual none Value.none (some X.env)) (fun cenv s₄ => codeAny (model X.prog X.w) X.A (Code.compStart (.ListComp elt [⟨tg, iter, [ct], 0⟩] scope pos) 0 (Value.ref it) acc { cenv with scope := relabel scope X.env }) (compPost (model X.prog X.w) X.A X.xe use Qp acc cenv.locals) s₄) X.xe s₃) X.xe s2 := by
  have fresh : H2 s2.heap.objs.size = none := I2.fresh
  obtain ⟨W, ⟨m0, w0⟩, turn⟩ := q2 s2.heap.objs.size fresh
  have lt2 : ∀ b ∈ fp, b < s2.heap.objs.size := fun b hb => by
    obtain ⟨o, ho, _⟩ := T.obj _ _ st2 b hb
    exact Heap.lt_size ho
  have I3 : Inv X pins σ (upd H2 s2.heap.objs.size (.lst [])) { s2 with heap := s2.heap.push { cls := .type "list", data := .seq ([] : List Value).toArray } } := I2.lnew (its := []) (t' := s2.toks) .nil (Nat.zero_le _)
  refine wpAny_newObj_type (wpAny_newFunctionEnv hcell (by intro y hy; simp at hy) (fun h1 hns1 hsb1 => ?_) hk)
  dsimp only at hns1 hsb1 ⊢
  generalize hS3 : ({ s2 with heap := s2.heap.push { cls := .type "list", dict := none, data := .seq ([] : List Value).toArray } } : Shared) = s3 at I3
  have hh3 : s2.heap.push { cls := .type "list", dict := none, data := .seq ([] : List Value).toArray } = s3.heap := by rw [← hS3]
  rw [hh3] at hns1 hsb1 ⊢
  have sz3 : s3.heap.objs.size = s2.heap.objs.size + 1 := by rw [← hh3, Heap.size_push]
  have lt3 : ∀ b ∈ fp, b < s3.heap.objs.size := fun b hb => Nat.lt_of_lt_of_le (lt2 b hb) (by rw [sz3]; exact Nat.le_succ _)
  have f3 : ∀ b ∈ fp, FpOk X pins (upd H2 s2.heap.objs.size (.lst [])) b := fun b hb => ⟨by rw [upd_ne (Nat.ne_of_lt (lt2 b hb))]; exact (f2 b hb).1, (f2 b hb).2⟩
  have keep3 : ∀ b o, s3.heap.get? b = some o → h1.get? b = some o := fun b o q => hsb1.extBut b o (Nat.ne_of_lt (Heap.lt_size q)) (Heap.get?_push_of_some _ q)
  have st3 : tnn 0 h1 := T.keep _ _ _ st2 fun b hb o q => keep3 b o (by rw [← hh3]; exact Heap.get?_push_of_some _ q)
  have I4 := (cxComp_start (tn := tn) I3 hk hcl (hhas _) f3 lt3 (hcap _) hns1 keep3).tok (s2.toks + ([] : List (Str × Value)).length)
  have loop : codeAny (model X.prog X.w) X.A (.compLoop (.ListComp elt [⟨tg, iter, [ct], 0⟩] scope pos) 0 (.ref it) (.ref s2.heap.objs.size) (compEnvC scope cl s3.heap.objs.size X.env))
      (compPost (model X.prog X.w) X.A X.xe use Qp (.ref s2.heap.objs.size) s3.heap.objs.size) { s3 with heap := h1, toks := s2.toks + ([] : List (Str × Value)).length } := by
    refine comp_loop1 (fun n s' => ∃ i ys σ' H', Inv (cxComp X (tn ++ cap.map (·.1)) scope cl s3.heap.objs.size fp s3 (upd H2 s2.heap.objs.size (.lst []))) [] σ' H' s' ∧ tnn i s'.heap ∧ (∀ b ∈ fp, H' b = none) ∧ W i n ys σ' H') ?_ m0
      ⟨0, [], _, _, I4, st3, fun b hb => (f3 b hb).1, w0⟩
    rintro n s5 ⟨i, ys, σ5, H5, I5, st5, fr5, w5⟩
    obtain ⟨hD, alt⟩ := turn i n ys σ5 H5 w5
    have stat : ∀ {H' : Hp}, (∀ b ∈ fp, H' b = none) → ∀ b ∈ fp, FpOk (cxComp X (tn ++ cap.map (·.1)) scope cl s3.heap.objs.size fp s3 (upd H2 s2.heap.objs.size (.lst []))) [] H' b :=
      fun hn b hb => ⟨hn b hb, (I4.ok.exf b hb).1, I4.ok.exfs b hb, .inl hb, (I4.ok.exf b hb).2, fun p hp => by cases hp⟩
    rcases alt with ⟨stop, qn⟩ | ⟨go, step⟩
    · refine thn (T.done (cxComp X (tn ++ cap.map (·.1)) scope cl s3.heap.objs.size fp s3 (upd H2 s2.heap.objs.size (.lst []))) rfl rfl rfl hc i [] s5 σ5 H5 no0 I5 (stat fr5) st5 stop) fun r s6 ⟨hr, I6⟩ => ?_
      subst hr
      exact hfin s3 _ I3 f3 _ σ5 H5 s6 I6 qn
    · refine thn (T.item (cxComp X (tn ++ cap.map (·.1)) scope cl s3.heap.objs.size fp s3 (upd H2 s2.heap.objs.size (.lst []))) rfl rfl rfl hc i [] s5 σ5 H5 no0 I5 (stat fr5) st5 go) fun r s6 ⟨u, hr, h6⟩ => ?_
      subst hr
      refine thn h6 fun _ s7 ⟨x, H7, I7, r7, y7, st7, fr7⟩ => ?_
      have I7' := I7.pinned (stat fr7) (T.obj _ _ st7)
      refine thn (hg _ _ _ _ _ s7 σ5 H7 x u _ I7' r7 (step x H7 y7)) fun _ s8 ⟨σ8, H8, I8, q8⟩ => ?_
      refine thn (ht _ _ _ _ _ s8 σ8 H8 _ I8 q8) fun ok s8' ⟨H8', I8', q8'⟩ => ?_
      cases ok with
      | true =>
        simp only [if_true] at q8' ⊢
        refine thn (he _ _ _ _ _ s8' σ8 H8' _ I8' q8') fun xv s9 ⟨v9, H9, I9, r9, q9⟩ => ?_
        obtain ⟨hD9, hl9, m', hm', w9⟩ := q9
        refine thn (mt_append _ s9 σ8 H9 (.ref s2.heap.objs.size) [v9] (.ref s2.heap.objs.size) [xv] (fun z H' => z = .non ∧ H' = upd H9 s2.heap.objs.size (.lst (ys ++ [v9]))) I9 rfl (.cons r9 .nil)
          ⟨s2.heap.objs.size, ys, v9, rfl, rfl, hD9, hl9, rfl, rfl⟩) fun z s10 ⟨zv, H10, I10, _, _, eH⟩ => ?_
        subst eH
        refine ⟨m', hm', i + 1, ys ++ [v9], σ8, _, I10.unpinned, T.keep _ _ _ st7 fun b hb o q => (I10.pin (b, o) (List.mem_append_right _ (List.mem_append_right _ (mem_pinsAt hb q)))).1, fun b hb => ?_, w9⟩
        obtain ⟨o, q, d⟩ := T.obj _ _ st7 b hb
        exact (I10.pin (b, o) (List.mem_append_right _ (List.mem_append_right _ (mem_pinsAt hb q)))).2.1
      | false =>
        simp only [Bool.false_eq_true, if_false] at q8' ⊢
        obtain ⟨m', hm', w9⟩ := q8'
        refine ⟨m', hm', i + 1, ys, σ8, _, I8'.unpinned, T.keep _ _ _ st7 fun b hb o q => (I8'.pin (b, o) (List.mem_append_right _ (List.mem_append_right _ (mem_pinsAt hb q)))).1, fun b hb => ?_, w9⟩
        obtain ⟨o, q, d⟩ := T.obj _ _ st7 b hb
        exact (I8'.pin (b, o) (List.mem_append_right _ (List.mem_append_right _ (mem_pinsAt hb q)))).2.1
  subst hS3
  exact codeAny_compStart_list loop (T.self X.A 0 _ _ _ st3 loop)
theorem pe_comp_if (tn : List Str) (cap : List (Str × Nat)) (hi : PI X tg iter wi) (hg : ∀ C fp s H, PG (cxComp X (tn ++ cap.map (·.1)) scope cl C fp s H) tg g) (ht : ∀ C fp s H, PT (cxComp X (tn ++ cap.map (·.1)) scope cl C fp s H) ct tt) (he : ∀ C fp s H, PE (cxComp X (tn ++ cap.map (·.1)) scope cl C fp s H) elt te)
    (hc : X.calm = true) (hclos : closureFor scope X.env = pure cl) (hcell : ∀ y ∈ scope.names, y.2 ≠ .cell) (hk : scope.kind = .function) (hnames : ∀ y ∈ scope.names, y.2 = .local → scope.names.lookup y.1 = some .local)
    (hcl : ∀ x c, cl.lookup x = some c → X.env.cells.lookup x = some c)
    (hhas : ∀ C x, ((compEnvC scope cl C X.env).kindOf x = some .cell ∨ (compEnvC scope cl C X.env).kindOf x = some .free) → ∃ c, cl.lookup x = some c)
    (hcap : ∀ C, ∀ p ∈ cap, X.N[p.2]? = some p.1 ∧ X.env.scope.names.lookup p.1 = some .cell ∧ ((compEnvC scope cl C X.env).kindOf p.1 = some .cell ∨ (compEnvC scope cl C X.env).kindOf p.1 = some .free))
    (hs : ∀ v, foldedSetIterable iter X.env v = pure v) : PE X (.ListComp elt [⟨tg, iter, [ct], 0⟩] scope pos) (tCompT wi tn.length cap g tt te) := by
  intro pins s σ H Q I h
  rw [eval_ListComp]
  refine wpAny_comprehension_free (use := none) rfl hs hclos hk hnames (thn (hi pins s σ H _ I h) fun v s1 h1 => thn h1 fun itv s2 h2 => ?_)
  obtain ⟨it, fp, tnn, J, H2, e, I2, T, st2, f2, q2⟩ := h2
  subst e
  refine comp_core1 (R := fun p H6 => Q (.ref p) H6) tn cap hg ht he hc hcell hk hcl hhas hcap I2 T st2 f2 q2 fun s3 H3 I3 f3 acc σ6 H6 s6 I6 q6 => ?_
  obtain ⟨m, hn, _⟩ := I6.loc
  refine ⟨m, hn, fun h' sb => ?_⟩
  have nC : ∀ b o, s3.heap.get? b = some o → b ≠ s3.heap.objs.size := fun b o q => Nat.ne_of_lt (Heap.lt_size q)
  have u : Un (frs X.stack) fp H3 H6 s3.heap h' := by
    have u0 := I6.base
    refine ⟨fun b o q n hb hx => (sb.2 b (nC b o q)).trans (u0.keep b o q n hb hx), fun b o q n hb hx => ?_, u0.free, fun b o q hx => ?_, u0.tups, u0.frzs, u0.tbls⟩
    · obtain ⟨sl, e⟩ := u0.slot b o q n hb hx
      exact ⟨sl, (sb.2 b (nC b o q)).trans e⟩
    · obtain ⟨o', e⟩ := u0.there b o q hx
      exact ⟨o', (sb.2 b (nC b o q)).trans e⟩
  have free6 : H6 s3.heap.objs.size = none := I6.free
  have ok6 : HOk X.prog X.w H6 h' := fun b o q => (I6.hok b o q).stay (fun c v hcv r => (sb.2 c (by
    rcases hcv with z | z
    · rw [z]
      exact ne_of_none q free6
    · exact ne_of_none z free6)).trans r) (fun _ q => q) fun _ _ q => q
  have I' := I3.call (g' := s6.gens) (d' := s6.drawn) (t' := s6.toks) (ch := fp) u ok6 I6.bare fun b hb => ⟨(f3 b hb).2.2.2.1, (f3 b hb).2.1, (f3 b hb).2.2.2.2.1, (f3 b hb).2.2.2.2.2⟩
  have e : ({ s6 with heap := h' } : Shared) = { s3 with heap := h', gens := s6.gens, drawn := s6.drawn, toks := s6.toks } := by
    have ho : s6.os = s3.os := I6.os
    obtain ⟨a1, a2, a3, a4, a5⟩ := s6
    obtain ⟨b1, b2, b3, b4, b5⟩ := s3
    simp only at ho
    subst ho
    rfl
  rw [e]
  exact ⟨.ref _, H6, I', rfl, q6⟩
end
end L2

/-! < of lists and of tuples, place by place, of data at any depth -/
namespace PySem.SeqAt
open AutoSeq1 (wpAny_loadPart')
open MeetsSeq MeetsSeq2 MeetsSeq3 SeqRoads2
end PySem.SeqAt

/-! < of data: one relation for ints, texts, lists and tuples of them -/
namespace L2
open PySem PySem.Spec PyProof.Rows PySem.SeqAt
end L2

/-! min(l, key=f, default=d) over a list, the key a def of the text -/
namespace L2
open PySem PySem.Spec PyProof.Rows PySem.SeqAt
/-- inside a builtin's call -/
def cxIn1 (X : Cx) : Cx where
  prog := X.prog
  w := X.w
  K := X.K
  mg := X.mg
  base := X.base
  A := X.A.in1
  N := X.N
  s₀ := X.s₀
  H₀ := X.H₀
  env := X.env
  outer := X.outer
  stack := X.stack
  ex := X.ex
  fn := X.fn
  calm := X.calm
  pn := X.pn
  xe := no0
section
variable {X : Cx} {pins : List (Addr × Obj)} {σ : St} {H : Hp} {s : Shared}
theorem Cx.Ok.in1 (o : X.Ok) : (cxIn1 X).Ok :=
  ⟨o.mod, o.kind, o.glob, o.blt, o.above, o.inj, o.has, o.cab, o.hd, o.frames, o.stk, o.exf, o.bs, o.bsz, o.noex, o.exfs, o.funs, o.frf⟩
theorem Inv.in1 (I : Inv X pins σ H s) : Inv (cxIn1 X) pins σ H s := ⟨I.ok.in1, I.os, I.bare, I.base, I.loc, I.cell, I.free, I.freeC, I.pin, I.hok, I.len⟩
theorem Inv.out1 (o : X.Ok) (I : Inv (cxIn1 X) pins σ H s) : Inv X pins σ H s := ⟨o, I.os, I.bare, I.base, I.loc, I.cell, I.free, I.freeC, I.pin, I.hok, I.len⟩
end
section
variable {X : Cx} {pins : List (Addr × Obj)} {σ : St} {H : Hp} {s : Shared} {k : Nat} {f : Addr} {fd : FuncData} {ps : List Str} {sp : Sp} {Q : VK} {l p it : Addr} {xs : List V} {W : Nat → V → V → Hp → Prop}
abbrev minR (X : Cx) (pins : List (Addr × Obj)) (σ : St) (Q : VK) : Result → Shared → Prop := fun r s' => match r with | .ok (.ret v) => EP X pins σ Q v s' | .ok _ => False | .error e => X.xe e s'
theorem min_item {i : Nat} {x : V} {Q' : Option Value → Shared → Prop} {E : Value → Shared → Prop} (I : Inv (cxIn1 X) pins σ H s) (st : s.heap.IsListIter it l i) (hq : SqL X.K H l xs) (hx : xs[i]? = some x) (hf : FpOk (cxIn1 X) pins H it)
    (h : ∀ u s', Inv (cxIn1 X) pins σ H s' → s'.heap.IsListIter it l (i + 1) → RelV x u → Q' (some u) s') : wpAny (model X.prog X.w) X.A.in1 (pyNext (.ref it)) Q' E s := by
  obtain ⟨its, rv, p, hz⟩ := I.list hq
  obtain ⟨u, hu, ru⟩ := rv.get hx
  obtain ⟨f0, f1, f2, f3, f4, f5⟩ := hf
  exact wpAny_pyNext_list_item st p.isList (x := u) (by simpa using hu) fun h' st' sb => h u _ (I.turned (t' := s.toks) (fun b o hb e => (sb.2 b hb).trans e) f0 f1 f3 f4 f5) st' ru
theorem min_end {i : Nat} {Q' : Option Value → Shared → Prop} {E : Value → Shared → Prop} (hc : X.calm = true) (I : Inv (cxIn1 X) pins σ H s) (st : s.heap.IsListIter it l i) (hq : SqL X.K H l xs) (hx : xs.length ≤ i) (hf : FpOk (cxIn1 X) pins H it)
    (h : ∀ s', Inv (cxIn1 X) pins σ H s' → Q' none s') : wpAny (model X.prog X.w) X.A.in1 (pyNext (.ref it)) Q' E s := by
  obtain ⟨its, rv, p, hz⟩ := I.list hq
  obtain ⟨f0, f1, f2, f3, f4, f5⟩ := hf
  have hl := rv.length
  exact wpAny_pyNext_list_end (I.ok.hd hc) st p.isList (by simp; (first | lia | omega)) fun h' eb => h _ (I.turned (t' := s.toks) (fun b o hb e => eb b o hb e) f0 f1 f3 f4 f5)
end
end L2
namespace L2
open PySem PySem.Spec PyProof.Rows PySem.SeqAt
section
variable {X : Cx} {pins : List (Addr × Obj)} {σ : St} {H : Hp} {s : Shared} {k : Nat} {f : Addr} {fd : FuncData} {ps : List Str} {sp : Sp} {Q : VK} {l p it : Addr} {xs : List V} {W : Nat → V → V → Hp → Prop} {ud : Value}
theorem fp_upd {o : HO} (h : FpOk X pins H it) (hp : ∃ u, H p = some u) : FpOk X pins (upd H p o) it := by
  refine ⟨?_, h.2⟩
  obtain ⟨u, hu⟩ := hp
  rw [upd_ne (ne_of_none hu h.1).symm]
  exact h.1
theorem iter_data {h : Heap} {i : Nat} (st : h.IsListIter it l i) : ∃ o, h.get? it = some o ∧ (∀ v, o.data ≠ .cell v) ∧ ∀ h' : Heap, h'.get? it = some o → h'.IsListIter it l i := by
  obtain ⟨o, e, c, d⟩ := st
  exact ⟨o, e, fun v z => (by rw [d] at z; cases z), fun h' e' => ⟨o, e', c, d⟩⟩
end
end L2
namespace L2
open PySem PySem.Spec PyProof.Rows PySem.SeqAt
end L2
namespace L2
open PySem PySem.Spec PyProof.Rows PySem.SeqAt
end L2

/-! the order of groves: the promises of rank, before, least_among -/
namespace Fg
open PySem L2 FgM PySem.SeqAt
end Fg

/-! == of groves, whatever their depth: the data of a grove -/
namespace L2
open PySem PySem.Spec PyProof.Rows
end L2
namespace Fg
open PySem L2 FgM
end Fg

namespace L2
open PySem PySem.Spec PyProof.Rows PySem.SeqAt
/-! list(reversed(l)) -/
end L2

/-! the reading of [e for x in l], and what a block without captured names is -/
namespace L2
open PySem PySem.Spec PyProof.Rows
def CW (n : Nat) (Pv : Nat → List V → St → Hp → Prop) : Nat → Nat → List V → St → Hp → Prop := fun i m ys σ H => m = n - i ∧ i ≤ n ∧ Pv i ys σ H
theorem CW.next {n i : Nat} {Pv : Nat → List V → St → Hp → Prop} {ys : List V} {σ : St} {H : Hp} (hi : i < n) (h : Pv (i + 1) ys σ H) : ∃ m', m' < n - i ∧ CW n Pv (i + 1) m' ys σ H := ⟨_, by (first | lia | omega), rfl, hi, h⟩
theorem nd1 {x : Str} : [x].Nodup := by simp
theorem comp_list {K : PySem.W.Frag} {a p : Addr} {xs : List V} {g : TG} {te : TE} {R : Hp → Prop} {σ0 : St} {H0 : Hp} (Pv : Nat → List V → St → Hp → Prop) (h0 : Pv 0 [] σ0 H0)
    (hl : ∀ i ys σ H, i ≤ xs.length → Pv i ys σ H → SqL K H a xs ∧ H p = some (.lst ys))
    (hs : ∀ i ys x σ H, i < xs.length → xs[i]? = some x → Pv i ys σ H → g x σ H fun σ3 H4 => te σ3 H4 fun v H5 => H5 p = some (.lst ys) ∧ ys.length < sizeLine ∧ ∃ m', m' < xs.length - i ∧ CW xs.length Pv (i + 1) m' (ys ++ [v]) σ3 (upd H5 p (.lst (ys ++ [v]))))
    (hd : ∀ ys σ H, Pv xs.length ys σ H → R H) :
    ∃ W : Nat → Nat → List V → St → Hp → Prop, (∃ m, W 0 m [] σ0 H0) ∧ ∀ i m ys σc H2, W i m ys σc H2 → H2 p = some (.lst ys) ∧ (((Itl K a).stop i H2 ∧ R H2) ∨ ((Itl K a).go i H2 ∧ ∀ x H3, (Itl K a).yld i H2 x H3 → g x σc H3 fun σ3 H4 => te σ3 H4 fun v H5 =>
      H5 p = some (.lst ys) ∧ ys.length < sizeLine ∧ ∃ m', m' < m ∧ W (i + 1) m' (ys ++ [v]) σ3 (upd H5 p (.lst (ys ++ [v]))))) := by
  refine ⟨CW xs.length Pv, ⟨_, rfl, Nat.zero_le _, h0⟩, ?_⟩
  rintro i m ys σ H ⟨rfl, hi, hp⟩
  obtain ⟨h1, h2⟩ := hl i ys σ H hi hp
  refine ⟨h2, ?_⟩
  by_cases hlt : i < xs.length
  · refine .inr ⟨⟨xs, xs[i], h1, List.getElem?_eq_getElem hlt⟩, ?_⟩
    rintro x H3 ⟨rfl, hx⟩
    exact hs i ys x σ _ hlt (hx xs h1) hp
  · refine .inl ⟨⟨xs, h1, by (first | lia | omega)⟩, hd ys σ H ?_⟩
    have e : i = xs.length := by (first | lia | omega)
    rw [← e]
    exact hp
theorem nofree {scope : Scope} {env : Env} (h : ∀ y ∈ scope.names, y.2 ≠ .cell ∧ y.2 ≠ .free) {cl : List (Str × Addr)} : ∀ (C : Addr) (x : Str), ((compEnvC scope cl C env).kindOf x = some .cell ∨ (compEnvC scope cl C env).kindOf x = some .free) → ∃ c, cl.lookup x = some c := by
  have key : ∀ (l : List (Str × NameKind)) (x : Str), (∀ y ∈ l, y.2 ≠ .cell ∧ y.2 ≠ .free) → ∀ k, (l.map fun (n, k) => if (k == .free && env.scope.kind == .function && env.kindOf n == some .cell) then (n, .cell) else (n, k)).lookup x = some k → k ≠ .cell ∧ k ≠ .free := by
    intro l
    induction l with
    | nil => intro x _ k e; simp at e
    | cons y l ih =>
      intro x hy k e
      obtain ⟨n, kd⟩ := y
      have hk := hy _ (List.mem_cons_self ..)
      have e0 : (kd == NameKind.free && env.scope.kind == .function && env.kindOf n == some .cell) = false := by
        have : (kd == NameKind.free) = false := by
          cases kd <;> first | rfl | exact absurd rfl hk.2
        rw [this]; rfl
      simp only [List.map_cons, e0, Bool.false_eq_true, if_false, List.lookup_cons] at e
      cases hx : x == n with
      | true =>
        rw [hx] at e
        cases e
        exact hk
      | false =>
        rw [hx] at e
        exact ih x (fun y hm => hy y (List.mem_cons_of_mem _ hm)) k e
  intro C x hx
  rcases hx with e | e
  · exact absurd rfl (key _ x h _ e).1
  · exact absurd rfl (key _ x h _ e).2
end L2
namespace FgM
end FgM

/-! x = [elt for tg in iter], x = [elt for tg in iter if ct]: the name is bound ahead of the block's end -/
namespace L2
open PySem PySem.Spec PyProof.Rows
section
variable {X : Cx} {elt iter tg : Expr} {scope : Scope} {pos : Pos} {wi : TI} {g : TG} {te : TE} {cl : List (Str × Addr)}
theorem ps_set_comp {y : Str} {py spos : Pos} {n0 : Nat} (hN : X.N.Nodup) (hi0 : X.N[n0]? = some y) (hx : Loc X.env.scope y) (tn : List Str) (cap : List (Str × Nat)) (hi : PI X tg iter wi) (hg : ∀ C fp s H, PG (cxComp X (tn ++ cap.map (·.1)) scope cl C fp s H) tg g) (he : ∀ C fp s H, PE (cxComp X (tn ++ cap.map (·.1)) scope cl C fp s H) elt te)
    (hc : X.calm = true) (hclos : closureFor scope X.env = pure cl) (hcell : ∀ y ∈ scope.names, y.2 ≠ .cell) (hk : scope.kind = .function) (hnames : ∀ y ∈ scope.names, y.2 = .local → scope.names.lookup y.1 = some .local)
    (hcl : ∀ x c, cl.lookup x = some c → X.env.cells.lookup x = some c)
    (hhas : ∀ C x, ((compEnvC scope cl C X.env).kindOf x = some .cell ∨ (compEnvC scope cl C X.env).kindOf x = some .free) → ∃ c, cl.lookup x = some c)
    (hcap : ∀ C, ∀ p ∈ cap, X.N[p.2]? = some p.1 ∧ X.env.scope.names.lookup p.1 = some .cell ∧ ((compEnvC scope cl C X.env).kindOf p.1 = some .cell ∨ (compEnvC scope cl C X.env).kindOf p.1 = some .free))
    (hs : ∀ v, foldedSetIterable iter X.env v = pure v) (hsw : swapsWith (.ListComp elt [⟨tg, iter, [], 0⟩] scope pos) (some (.Name y py)) spos.line X.env = pure true) (hf : X.fn y = true ∨ X.env.scope.names.lookup y = some .local := by first | exact .inl rfl | exact .inr rfl | assumption) :
    PS X (.Assign [.Name y py] (.ListComp elt [⟨tg, iter, [], 0⟩] scope pos) spos) (tAsg (tComp wi tn.length cap g te) (gName n0)) := by
  intro pins s σ H D I h
  rw [exec_Assign_Name_used _ _ _ _ hsw]
  refine wpAny_bind (wpAny_standAt (wpAny_bind ?_))
  show wpAny _ X.A (do let _ ← comprehension (.ListComp elt [⟨tg, iter, [], 0⟩] scope pos) scope X.env _ (newList []) false (eval iter X.env) (some (assign (.Name y py) X.env))) _ _ s
  refine wpAny_bind (wpAny_mono (wpAny_comprehension_free (use := some (assign (.Name y py) X.env)) (Q := fun _ s' => SP X pins D .next s') rfl hs hclos hk hnames (thn (hi pins s σ H _ I h) fun v s1 h1 => thn h1 fun itv s2 h2 => ?_)) (fun _ s' hq => wpAny_pure (wpAny_pure hq)) fun _ _ e => e)
  obtain ⟨it, fp, tnn, J, H2, e, I2, T, st2, f2, q2⟩ := h2
  subst e
  refine comp_core0 (R := fun p H6 => gName n0 (.ref p) σ H6 (fun σ' H' => D.nx σ' H')) tn cap hg he hc hcell hk hcl hhas hcap I2 T st2 f2 q2 fun s3 H3 I3 f3 acc σ6 H6 s6 I6 q6 => ?_
  obtain ⟨m, hn, _⟩ := I6.loc
  have I' : Inv X pins σ H6 s6 := I3.call' (ch := fp) I6.os I6.base I6.hok I6.bare fun b hb => ⟨(f3 b hb).2.2.2.1, (f3 b hb).2.1, (f3 b hb).2.2.2.2.1, (f3 b hb).2.2.2.2.2⟩
  have fC : FpOk X pins H6 s3.heap.objs.size := I3.fpOk (Nat.le_refl _) I6.free
  show wpAny _ X.A (assign (.Name y py) X.env (.ref acc)) _ _ s6
  refine wpAny_assign_Name (store_ok2 (v := .ref acc) I' hN hi0 hx rfl (fun s7 I7 ⟨a, sb, ha⟩ => ?_) hf)
  have nCa : s3.heap.objs.size ≠ a := by
    rcases ha with z | z
    · rw [z]
      exact fC.2.1
    · exact (fC.2.2.2.2.1 _ _ z).symm
  exact ⟨m, hn.sameBut sb nCa, fun h' sb' => ⟨_, H6, I7.turned (t' := s7.toks) (fun b o hb e => (sb'.2 b hb).trans e) fC.1 fC.2.1 fC.2.2.2.1 fC.2.2.2.2.1 fC.2.2.2.2.2, q6⟩⟩
end
end L2
namespace L2
open PySem PySem.Spec PyProof.Rows
section
variable {X : Cx} {elt ct iter tg : Expr} {scope : Scope} {pos : Pos} {wi : TI} {g : TG} {tt : TT} {te : TE} {cl : List (Str × Addr)}
theorem ps_set_comp_if {y : Str} {py spos : Pos} {n0 : Nat} (hN : X.N.Nodup) (hi0 : X.N[n0]? = some y) (hx : Loc X.env.scope y) (tn : List Str) (cap : List (Str × Nat)) (hi : PI X tg iter wi) (hg : ∀ C fp s H, PG (cxComp X (tn ++ cap.map (·.1)) scope cl C fp s H) tg g) (ht : ∀ C fp s H, PT (cxComp X (tn ++ cap.map (·.1)) scope cl C fp s H) ct tt) (he : ∀ C fp s H, PE (cxComp X (tn ++ cap.map (·.1)) scope cl C fp s H) elt te)
    (hc : X.calm = true) (hclos : closureFor scope X.env = pure cl) (hcell : ∀ y ∈ scope.names, y.2 ≠ .cell) (hk : scope.kind = .function) (hnames : ∀ y ∈ scope.names, y.2 = .local → scope.names.lookup y.1 = some .local)
    (hcl : ∀ x c, cl.lookup x = some c → X.env.cells.lookup x = some c)
    (hhas : ∀ C x, ((compEnvC scope cl C X.env).kindOf x = some .cell ∨ (compEnvC scope cl C X.env).kindOf x = some .free) → ∃ c, cl.lookup x = some c)
    (hcap : ∀ C, ∀ p ∈ cap, X.N[p.2]? = some p.1 ∧ X.env.scope.names.lookup p.1 = some .cell ∧ ((compEnvC scope cl C X.env).kindOf p.1 = some .cell ∨ (compEnvC scope cl C X.env).kindOf p.1 = some .free))
    (hs : ∀ v, foldedSetIterable iter X.env v = pure v) (hsw : swapsWith (.ListComp elt [⟨tg, iter, [ct], 0⟩] scope pos) (some (.Name y py)) spos.line X.env = pure true) (hf : X.fn y = true ∨ X.env.scope.names.lookup y = some .local := by first | exact .inl rfl | exact .inr rfl | assumption) :
    PS X (.Assign [.Name y py] (.ListComp elt [⟨tg, iter, [ct], 0⟩] scope pos) spos) (tAsg (tCompT wi tn.length cap g tt te) (gName n0)) := by
  intro pins s σ H D I h
  rw [exec_Assign_Name_used _ _ _ _ hsw]
  refine wpAny_bind (wpAny_standAt (wpAny_bind ?_))
  show wpAny _ X.A (do let _ ← comprehension (.ListComp elt [⟨tg, iter, [ct], 0⟩] scope pos) scope X.env _ (newList []) false (eval iter X.env) (some (assign (.Name y py) X.env))) _ _ s
  refine wpAny_bind (wpAny_mono (wpAny_comprehension_free (use := some (assign (.Name y py) X.env)) (Q := fun _ s' => SP X pins D .next s') rfl hs hclos hk hnames (thn (hi pins s σ H _ I h) fun v s1 h1 => thn h1 fun itv s2 h2 => ?_)) (fun _ s' hq => wpAny_pure (wpAny_pure hq)) fun _ _ e => e)
  obtain ⟨it, fp, tnn, J, H2, e, I2, T, st2, f2, q2⟩ := h2
  subst e
  refine comp_core1 (R := fun p H6 => gName n0 (.ref p) σ H6 (fun σ' H' => D.nx σ' H')) tn cap hg ht he hc hcell hk hcl hhas hcap I2 T st2 f2 q2 fun s3 H3 I3 f3 acc σ6 H6 s6 I6 q6 => ?_
  obtain ⟨m, hn, _⟩ := I6.loc
  have I' : Inv X pins σ H6 s6 := I3.call' (ch := fp) I6.os I6.base I6.hok I6.bare fun b hb => ⟨(f3 b hb).2.2.2.1, (f3 b hb).2.1, (f3 b hb).2.2.2.2.1, (f3 b hb).2.2.2.2.2⟩
  have fC : FpOk X pins H6 s3.heap.objs.size := I3.fpOk (Nat.le_refl _) I6.free
  show wpAny _ X.A (assign (.Name y py) X.env (.ref acc)) _ _ s6
  refine wpAny_assign_Name (store_ok2 (v := .ref acc) I' hN hi0 hx rfl (fun s7 I7 ⟨a, sb, ha⟩ => ?_) hf)
  have nCa : s3.heap.objs.size ≠ a := by
    rcases ha with z | z
    · rw [z]
      exact fC.2.1
    · exact (fC.2.2.2.2.1 _ _ z).symm
  exact ⟨m, hn.sameBut sb nCa, fun h' sb' => ⟨_, H6, I7.turned (t' := s7.toks) (fun b o hb e => (sb'.2 b hb).trans e) fC.1 fC.2.1 fC.2.2.2.1 fC.2.2.2.2.1 fC.2.2.2.2.2, q6⟩⟩
end
end L2

namespace L2
open PySem PySem.Spec PyProof.Rows

/-! ### lists of pairs as tables -/
section
variable {κ : Type} [DecidableEq κ]
def valV (kvs : List (κ × V)) (k : κ) : Option V := (kvs.find? fun kv => decide (kv.1 = k)).map (·.2)
/-- in its place, or at the end -/
def putK (kvs : List (κ × V)) (k : κ) (v : V) : List (κ × V) :=
  if (kvs.any fun kv => decide (kv.1 = k)) = true then kvs.map (fun kv => if kv.1 = k then (kv.1, v) else kv) else kvs ++ [(k, v)]
theorem valV_pos {p : κ × V} {r : List (κ × V)} {k : κ} (e : p.1 = k) : valV (p :: r) k = some p.2 := by simp [valV, List.find?_cons, e]
theorem valV_neg {p : κ × V} {r : List (κ × V)} {k : κ} (e : ¬ p.1 = k) : valV (p :: r) k = valV r k := by simp [valV, List.find?_cons, e]
theorem valV_any (k : κ) : ∀ kvs : List (κ × V), (kvs.any fun kv => decide (kv.1 = k)) = (valV kvs k).isSome
  | [] => rfl
  | p :: r => by
    rw [List.any_cons]
    by_cases e : p.1 = k
    · simp only [valV_pos e, decide_eq_true e, Bool.true_or, Option.isSome_some]
    · rw [valV_neg e, decide_eq_false e, Bool.false_or]; exact valV_any k r
theorem valV_map (k j : κ) (y : V) : ∀ kvs : List (κ × V), valV (kvs.map fun kv => if kv.1 = k then (kv.1, y) else kv) j = (valV kvs j).map fun x => if j = k then y else x
  | [] => rfl
  | p :: r => by
    have ih := valV_map k j y r
    rw [List.map_cons]
    by_cases h : p.1 = k
    · rw [if_pos h]
      by_cases e : p.1 = j
      · rw [valV_pos (p := (p.1, y)) e, valV_pos e, Option.map_some, if_pos (e.symm.trans h)]
      · rw [valV_neg (p := (p.1, y)) e, valV_neg e, ih]
    · rw [if_neg h]
      by_cases e : p.1 = j
      · rw [valV_pos (p := p) e, valV_pos e, Option.map_some, if_neg (fun z => h (e.trans z))]
      · rw [valV_neg (p := p) e, valV_neg e, ih]
theorem valV_snoc (k j : κ) (y : V) : ∀ kvs : List (κ × V), valV kvs k = none → valV (kvs ++ [(k, y)]) j = if j = k then some y else valV kvs j
  | [], _ => by
    by_cases e : k = j
    · rw [if_pos e.symm]; exact valV_pos (p := (k, y)) e
    · rw [if_neg (fun z => e z.symm)]; exact valV_neg (p := (k, y)) e
  | p :: r, hn => by
    rw [List.cons_append]
    have hk : ¬ p.1 = k := fun z => by rw [valV_pos z] at hn; cases hn
    rw [valV_neg hk] at hn
    have ih := valV_snoc k j y r hn
    by_cases e : p.1 = j
    · rw [valV_pos e, valV_pos e, if_neg (fun z => hk (e.trans z))]
    · rw [valV_neg e, valV_neg e, ih]
theorem valV_put (kvs : List (κ × V)) (k j : κ) (y : V) : valV (putK kvs k y) j = if j = k then some y else valV kvs j := by
  unfold putK
  by_cases a : (kvs.any fun kv => decide (kv.1 = k)) = true
  · rw [if_pos a, valV_map]
    rw [valV_any] at a
    by_cases e : j = k
    · obtain ⟨x, hx⟩ := Option.isSome_iff_exists.mp a
      rw [if_pos e, e, hx, Option.map_some, if_pos rfl]
    · rw [if_neg e]
      cases valV kvs j with
      | none => rfl
      | some x => rw [Option.map_some, if_neg e]
  · rw [if_neg a]
    refine valV_snoc k j y kvs ?_
    rw [valV_any] at a
    cases q : valV kvs k with
    | none => rfl
    | some x => rw [q] at a; exact (a rfl).elim
theorem length_putK (kvs : List (κ × V)) (k : κ) (v : V) : (putK kvs k v).length ≤ kvs.length + 1 := by
  unfold putK
  split
  · rw [List.length_map]; (first | lia | omega)
  · rw [List.length_append, List.length_cons, List.length_nil]; (first | lia | omega)
theorem putK_new {kvs : List (κ × V)} {k : κ} (v : V) (h : valV kvs k = none) : putK kvs k v = kvs ++ [(k, v)] := by
  unfold putK
  rw [valV_any, h]
  exact if_neg (by decide)

theorem RelO.isSome_eq {o : Option V} {u : Option Value} (r : RelO o u) : o.isSome = u.isSome := by
  cases o with
  | none => cases u with
    | none => rfl
    | some _ => exact (show False from r).elim
  | some _ => cases u with
    | none => exact (show False from r).elim
    | some _ => rfl
/-- raw tables of the same keys -/
theorem KV.val {kvs : List (κ × V)} {vs : List (κ × Value)} (r : KV kvs vs) (k : κ) : RelO (valV kvs k) (valueAt vs k) := by
  unfold KV at r
  induction r with
  | nil => exact True.intro
  | @cons p q ps qs h t ih =>
    obtain ⟨h1, h2⟩ := h
    by_cases e : p.1 = k
    · have e' : q.1 = k := h1.symm.trans e
      have b : valueAt (q :: qs) k = some q.2 := by simp [valueAt, List.find?_cons, e']
      rw [valV_pos e, b]; exact h2
    · have e' : ¬ q.1 = k := fun z => e (h1.trans z)
      have b : valueAt (q :: qs) k = valueAt qs k := by simp [valueAt, List.find?_cons, e']
      rw [valV_neg e, b]; exact ih
theorem KV.any {kvs : List (κ × V)} {vs : List (κ × Value)} (r : KV kvs vs) (k : κ) : (kvs.any fun kv => decide (kv.1 = k)) = vs.any fun kv => decide (kv.1 = k) := by
  unfold KV at r
  induction r with
  | nil => rfl
  | cons h t ih => rw [List.any_cons, List.any_cons, ih, h.1]
theorem KV.repl {kvs : List (κ × V)} {vs : List (κ × Value)} (r : KV kvs vs) (k : κ) {y : V} {u : Value} (ry : RelV y u) :
    KV (kvs.map fun kv => if kv.1 = k then (kv.1, y) else kv) (vs.map fun kv => if kv.1 = k then (kv.1, u) else kv) := by
  unfold KV at r ⊢
  induction r with
  | nil => exact .nil
  | @cons p q ps qs h t ih =>
    rw [List.map_cons, List.map_cons]
    refine .cons ?_ ih
    obtain ⟨h1, h2⟩ := h
    by_cases e : p.1 = k
    · rw [if_pos e, if_pos (h1.symm.trans e)]; exact ⟨h1, ry⟩
    · rw [if_neg e, if_neg (fun z => e (h1.trans z))]; exact ⟨h1, h2⟩
theorem KV.put {kvs : List (κ × V)} {vs : List (κ × Value)} (r : KV kvs vs) (k : κ) {y : V} {u : Value} (ry : RelV y u) : KV (putK kvs k y) (stored vs k u) := by
  unfold putK stored
  rw [r.any k]
  by_cases e : (vs.any fun kv => decide (kv.1 = k)) = true
  · rw [if_pos e, if_pos e]; exact r.repl k ry
  · rw [if_neg e, if_neg e]; exact Paired.snoc r ⟨rfl, ry⟩
theorem KV.length {kvs : List (κ × V)} {vs : List (κ × Value)} (r : KV kvs vs) : kvs.length = vs.length := Paired.length r
end


/-! ### a tracked dict, its keys ints and texts or tuples of these -/
theorem kV_is {P : Program} {w : World} {k : Key} {u : Value} (r : RelV (kV k) u) : (mixKind P w).is k u = true := by
  cases k with
  | inl i => obtain ⟨t, e⟩ := (show ∃ t, u = Value.int i t from r); subst e; exact mixKind_int P w i t
  | inr x => obtain ⟨t, e⟩ := (show ∃ t, u = Value.str x t from r); subst e; exact mixKind_str P w x t
theorem items_are {P : Program} {w : World} : ∀ {ks : List Key} {us : List Value}, Vals (ks.map kV) us → ItemsAre (mixKind P w) ks us
  | [], _, r => by rw [List.map_nil] at r; cases r; exact .nil
  | k :: ks, _, r => by
    rw [List.map_cons] at r
    cases r with
    | cons h t => exact .cons (kV_is h) (items_are t)

/-- raw entries of a dict with tuple keys -/
abbrev KT (H : Hp) : List (List Key × V) → List (List Key × Addr × Value) → Prop := Paired fun p q => p.1 = q.1 ∧ H q.2.1 = some (.tup (p.1.map kV)) ∧ RelV p.2 q.2.2
theorem KT.val {H : Hp} {kvs : List (List Key × V)} {xs : List (List Key × Addr × Value)} (r : KT H kvs xs) (k : List Key) : RelO (valV kvs k) ((atKey xs k).map (·.2)) := by
  induction r with
  | nil => exact True.intro
  | @cons p q ps qs h t ih =>
    obtain ⟨h1, _, h2⟩ := h
    by_cases e : p.1 = k
    · have e' : q.1 = k := h1.symm.trans e
      have b : atKey (q :: qs) k = some q.2 := by simp [atKey, List.find?_cons, e']
      rw [valV_pos e, b]; exact h2
    · have e' : ¬ q.1 = k := fun z => e (h1.trans z)
      have b : atKey (q :: qs) k = atKey qs k := by simp [atKey, List.find?_cons, e']
      rw [valV_neg e, b]; exact ih
theorem KT.repl {H : Hp} {kvs : List (List Key × V)} {xs : List (List Key × Addr × Value)} (r : KT H kvs xs) (k : List Key) {y : V} {u : Value} (ry : RelV y u) :
    KT H (kvs.map fun kv => if kv.1 = k then (kv.1, y) else kv) (xs.map (putAt k u)) := by
  induction r with
  | nil => exact .nil
  | @cons p q ps qs h t ih =>
    rw [List.map_cons, List.map_cons]
    refine .cons ?_ ih
    obtain ⟨h1, h2, h3⟩ := h
    unfold putAt
    by_cases e : p.1 = k
    · rw [if_pos e, if_pos (h1.symm.trans e)]; exact ⟨h1, h2, ry⟩
    · rw [if_neg e, if_neg (fun z => e (h1.trans z))]; exact ⟨h1, h2, h3⟩
theorem KT.put {H : Hp} {kvs : List (List Key × V)} {xs : List (List Key × Addr × Value)} (r : KT H kvs xs) (k : List Key) {b : Addr} {y : V} {u : Value} (hb : H b = some (.tup (k.map kV))) (ry : RelV y u) :
    KT H (putK kvs k y) (storedH xs k b u) := by
  have e : (kvs.any fun kv => decide (kv.1 = k)) = (atKey xs k).isSome := by
    rw [valV_any, (r.val k).isSome_eq, Option.isSome_map]
  unfold putK storedH
  rw [e]
  by_cases q : (atKey xs k).isSome = true
  · rw [if_pos q, if_pos q]; exact r.repl k ry
  · rw [if_neg q, if_neg q]; exact Paired.snoc r ⟨rfl, hb, ry⟩
theorem KT.keeps {H H' : Hp} {kvs : List (List Key × V)} {xs : List (List Key × Addr × Value)} (r : KT H kvs xs) (ht : ∀ b ys, H b = some (.tup ys) → H' b = some (.tup ys)) : KT H' kvs xs :=
  Paired.mapP r fun _ _ z => ⟨z.1, ht _ _ z.2.1, z.2.2⟩

section
variable {P : Program} {w : World} {H : Hp} {h : Heap} {a : Addr}
theorem rd_of {u : HO} (ok : HOk P w H h) (e : Rd H a u) : ObjOk P w H h a u := e.ok ok
theorem dk_rd {kvs : List (Key × V)} (ok : HOk P w H h) (e : Rd H a (.dK kvs)) : kvs.length ≤ sizeLine ∧ (a == sysModules) = false ∧ ∃ vs, KV kvs vs ∧ h.DictOf (mixKind P w) a vs :=
  show ObjOk P w H h a (.dK kvs) from rd_of ok e
theorem dk_of {kvs : List (Key × V)} (ok : HOk P w H h) (e : H a = some (.dK kvs)) : kvs.length ≤ sizeLine ∧ (a == sysModules) = false ∧ ∃ vs, KV kvs vs ∧ h.DictOf (mixKind P w) a vs := dk_rd ok (.inl e)
/-- a tracked tuple of ints and texts is a key -/
theorem key_of {ks : List Key} (ok : HOk P w H h) (e : H a = some (.tup (ks.map kV))) : (tupleKind (mixKind P w)).is h ks a := by
  obtain ⟨_, its, r, o, h1, h2, n, h3⟩ := (show ObjOk P w H h a (.tup (ks.map kV)) from ok a _ e)
  exact ⟨o, its.toArray, n, h1, h2, h3, by simpa using items_are r⟩
theorem dt_rd {kvs : List (List Key × V)} (ok : HOk P w H h) (e : Rd H a (.dT kvs)) : kvs.length ≤ sizeLine ∧ (a == sysModules) = false ∧
    ∃ xs, KT H kvs xs ∧ h.DictOfH (tupleKind (mixKind P w)) a xs := by
  obtain ⟨z, y, xs, r, o, es, ep, h1, h2, h3, h4, h5⟩ := (show ObjOk P w H h a (.dT kvs) from rd_of ok e)
  refine ⟨z, y, xs, r, o, es, ep, h1, h2, h3, h4, fun x hx => ?_, h5⟩
  have all : ∀ {l : List (List Key × V)} {m : List (List Key × Addr × Value)}, KT H l m → ∀ x ∈ m, (tupleKind (mixKind P w)).is h x.1 x.2.1 := by
    intro l m q
    induction q with
    | nil => intro x hx; exact nomatch hx
    | @cons p q ps qs hq t ih =>
      intro x hx
      rcases List.mem_cons.mp hx with e | hx
      · subst e
        exact key_of ok (by rw [← hq.1]; exact hq.2.1)
      · exact ih x hx
  exact all r x hx
theorem dt_of {kvs : List (List Key × V)} (ok : HOk P w H h) (e : H a = some (.dT kvs)) : kvs.length ≤ sizeLine ∧ (a == sysModules) = false ∧
    ∃ xs, KT H kvs xs ∧ h.DictOfH (tupleKind (mixKind P w)) a xs := dt_rd ok (.inl e)
end

/-- what the dict at a holds at the key y -/
def DGet (H : Hp) (a : Addr) (y : V) (r : Option V) : Prop :=
  (∃ kvs k, Rd H a (.dK kvs) ∧ y = kV k ∧ r = valV kvs k) ∨ ∃ kvs k b, Rd H a (.dT kvs) ∧ y = .ref b ∧ H b = some (.tup (k.map kV)) ∧ r = valV kvs k
/-- the heap behind a[y] = v -/
def DPut (H : Hp) (a : Addr) (y v : V) (H' : Hp) : Prop :=
  (∃ kvs k, H a = some (.dK kvs) ∧ y = kV k ∧ kvs.length < sizeLine ∧ H' = upd H a (.dK (putK kvs k v))) ∨
  ∃ kvs k b, H a = some (.dT kvs) ∧ y = .ref b ∧ H b = some (.tup (k.map kV)) ∧ kvs.length < sizeLine ∧ H' = upd H a (.dT (putK kvs k v))
theorem DGet.k {H : Hp} {a : Addr} {kvs : List (Key × V)} {k : Key} (e : H a = some (.dK kvs)) : DGet H a (kV k) (valV kvs k) := .inl ⟨kvs, k, .inl e, rfl, rfl⟩
section
variable {X : Cx} {pins : List (Addr × Obj)} {σ : St} {H : Hp} {s : Shared} {a : Addr} {y v : V} {u r : Value} {o : Option V} {A : Around} {E : Value → Shared → Prop}

theorem Inv.big (I : Inv X pins σ H s) : sysModules < s.heap.objs.size := by
  have h : mainGlobals < s.heap.objs.size := (I.mod.glob.keeps I.bk).lt
  exact Nat.lt_trans (by decide) h

/-- d[y], there -/
theorem d_getItem {Q : Value → Shared → Prop} (hu : A.units + 1 < cLine) (I : Inv X pins σ H s) (g : DGet H a y (some v)) (ry : RelV y u) (h : ∀ w' s', Inv X pins σ H s' → RelV v w' → Q w' s') :
    wpAny (model X.prog X.w) A (getItem (.ref a) u) Q E s := by
  rcases g with ⟨kvs, k, e, ey, l⟩ | ⟨kvs, k, b, e, ey, eb, l⟩
  · subst ey
    obtain ⟨z, hd, vs, rel, dd⟩ := dk_rd I.hok e
    obtain ⟨w', hw, rw'⟩ := RelO.some_of (v := v) (o := valueAt vs k) (by rw [l]; exact rel.val k)
    exact wpAny_getItem_of (kV_is ry) dd.mapOf hw (h w' _ (I.tok _) rw')
  · subst ey
    cases (show u = Value.ref b from ry)
    obtain ⟨z, hd, xs, rel, dd⟩ := dt_rd I.hok e
    obtain ⟨w', hw, rw'⟩ := RelO.some_of (v := v) (o := (atKey xs k).map (·.2)) (by rw [l]; exact rel.val k)
    obtain ⟨p, hp, hp2⟩ := Option.map_eq_some_iff.mp hw
    refine wpAny_getItem_heap (tupleKind_room_in1 hu) (key_of I.hok eb) dd hp ?_
    rw [hp2]
    exact h w' _ (I.tok _) rw'
/-- y in d -/
theorem d_in {Q : Value → Shared → Prop} (hu : A.units + 1 < cLine) (I : Inv X pins σ H s) (g : DGet H a y o) (ry : RelV y u) (h : ∀ s', Inv X pins σ H s' → Q (.bool o.isSome) s') :
    wpAny (model X.prog X.w) A (compareOp .In u (.ref a)) Q E s := by
  rcases g with ⟨kvs, k, e, ey, l⟩ | ⟨kvs, k, b, e, ey, eb, l⟩
  · subst ey
    obtain ⟨z, hd, vs, rel, dd⟩ := dk_rd I.hok e
    refine wpAny_in_of (kV_is ry) hd dd.mapOf ?_
    rw [← (rel.val k).isSome_eq, ← l]
    exact h _ (I.tok _)
  · subst ey
    cases (show u = Value.ref b from ry)
    obtain ⟨z, hd, xs, rel, dd⟩ := dt_rd I.hok e
    refine wpAny_in_heap (tupleKind_room_in1 hu) (key_of I.hok eb) hd dd ?_
    have q := (rel.val k).isSome_eq
    rw [Option.isSome_map] at q
    rw [← q, ← l]
    exact h _ (I.tok _)
theorem d_notIn {Q : Value → Shared → Prop} (hu : A.units + 1 < cLine) (I : Inv X pins σ H s) (g : DGet H a y o) (ry : RelV y u) (h : ∀ s', Inv X pins σ H s' → Q (.bool (!o.isSome)) s') :
    wpAny (model X.prog X.w) A (compareOp .NotIn u (.ref a)) Q E s := by
  rcases g with ⟨kvs, k, e, ey, l⟩ | ⟨kvs, k, b, e, ey, eb, l⟩
  · subst ey
    obtain ⟨z, hd, vs, rel, dd⟩ := dk_rd I.hok e
    refine wpAny_notIn_of (kV_is ry) hd dd.mapOf ?_
    rw [← (rel.val k).isSome_eq, ← l]
    exact h _ (I.tok _)
  · subst ey
    cases (show u = Value.ref b from ry)
    obtain ⟨z, hd, xs, rel, dd⟩ := dt_rd I.hok e
    refine wpAny_notIn_heap (tupleKind_room_in1 hu) (key_of I.hok eb) hd dd ?_
    have q := (rel.val k).isSome_eq
    rw [Option.isSome_map] at q
    rw [← q, ← l]
    exact h _ (I.tok _)
/-- a dict's object is replaced -/
theorem d_write {h' : Heap} {t' : Nat} {ob : HO} (I : Inv X pins σ H s) (mu : Mut (H a)) (hs : Heap.SameBut a s.heap h') (he : ∃ q, h'.get? a = some q) (new : ObjOk X.prog X.w (upd H a ob) h' a ob) :
    Inv X pins σ (upd H a ob) { s with heap := h', toks := t' } :=
  I.write (x := a) (e := a) mu (.inl rfl) (fun b q hb z => (hs.2 b hb).trans z) he new
theorem dk_new {P : Program} {w : World} {H' : Hp} {h' : Heap} {kvs : List (Key × V)} {vs : List (Key × Value)} (z : kvs.length ≤ sizeLine) (hd : (a == sysModules) = false) (rel : KV kvs vs) (dd : h'.DictOf (mixKind P w) a vs) :
    ObjOk P w H' h' a (.dK kvs) := ⟨z, hd, vs, rel, dd⟩
/-- d[y] = v -/
theorem d_setItem {H' : Hp} {Q : Unit → Shared → Prop} (hu : A.units + 1 < cLine) (I : Inv X pins σ H s) (g : DPut H a y v H') (ry : RelV y u) (rv : RelV v r) (h : ∀ s', Inv X pins σ H' s' → Q () s') :
    wpAny (model X.prog X.w) A (setItem (.ref a) u r) Q E s := by
  rcases g with ⟨kvs, k, e, ey, l, eH⟩ | ⟨kvs, k, b, e, ey, eb, l, eH⟩
  · subst ey eH
    obtain ⟨z, hd, vs, rel, dd⟩ := dk_of I.hok e
    have hz : vs.length ≤ sizeLine := by rw [← rel.length]; exact z
    have hl : (putK kvs k v).length ≤ sizeLine := by have := length_putK kvs k v; (first | lia | omega)
    refine wpAny_setItem_pairs (hsz := hz) (kV_is ry) dd fun h' dd' hs => h _ ?_
    have he : ∃ q, h'.get? a = some q := let ⟨q, _, _, hq, _⟩ := dd'; ⟨q, hq⟩
    exact d_write I (by rw [e]; exact True.intro) hs he (dk_new hl hd (rel.put k rv) dd')
  · subst ey eH
    cases (show u = Value.ref b from ry)
    obtain ⟨z, hd, xs, rel, dd⟩ := dt_of I.hok e
    have hz : xs.length ≤ sizeLine := by rw [← Paired.length rel]; exact z
    have hl : (putK kvs k v).length ≤ sizeLine := by have := length_putK kvs k v; (first | lia | omega)
    refine wpAny_setItem_heap (hsz := hz) (tupleKind_room_in1 hu) (key_of I.hok eb) dd fun h' dd' hs => h _ ?_
    obtain ⟨q, es, ep, hq, h2, h3, h4, _, h5⟩ := dd'
    refine d_write I (by rw [e]; exact True.intro) hs ⟨q, hq⟩ ⟨hl, hd, _, (rel.put k eb rv).keeps fun c ys ec => ?_, q, es, ep, hq, h2, h3, h4, h5⟩
    rw [upd_ne (ne_of ec e (fun z => nomatch z))]
    exact ec
end



/-! ### readings and rules -/
/-- the element of a subscription, not a slice -/
def NoSl (i : Expr) : Prop := ∀ ov iv, subscripted i false ov iv = operate [ov, iv] (getItem ov iv)
theorem subD_of {prog : Program} {w : World} {A : Around} {E : Value → Shared → Prop} {s : Shared} {env : Env} {value slice : Expr} {pos : Pos} {T id : String} {Q : Value → Shared → Prop}
    (hl : typeLookup (.type T) "__getitem__" = pure (some (.builtin id))) (hs : NoSl slice)
    (h : wpAny (model prog w) A (eval value env) (fun o s₁ => wpAny (model prog w) A (eval slice env) (fun i s₂ => s₂.TypeIs o T ∧ wpAny (model prog w) A (getItem o i) Q E s₂) E s₁) E s) :
    wpAny (model prog w) A (eval (.Subscript value slice pos) env) Q E s := by
  refine Subscript_ (wpAny_mono h (fun o s₁ h₁ => wpAny_mono h₁ (fun i s₂ h₂ => ?_) fun _ _ x => x) fun _ _ x => x)
  obtain ⟨hT, h₂⟩ := h₂
  unfold subscriptTail
  refine wpAny_bind ?_
  rw [getitemInPython_of_ne hT.not_modules]
  refine wpAny_bind (wpAny_specialOf hT hl ?_)
  have fin : wpAny (model prog w) A (subscripted slice false o i) (fun r s₃ => wpAny (model prog w) A (letTemporaryGo value o r >>= fun _ => pure r) Q E s₃) E s₂ := by
    rw [hs o i]
    exact wpAny_operating (wpAny_mono h₂ (fun r s₃ h₃ => wpAny_bind (wpAny_letTemporaryGo (wpAny_pure h₃))) fun _ _ x => x)
  first
    | exact wpAny_pure (wpAny_bind fin)
    | exact wpAny_bind (wpAny_pure (wpAny_bind fin))
    | exact wpAny_bind fin

theorem dict_typeIs {X : Cx} {pins : List (Addr × Obj)} {σ : St} {H : Hp} {s : Shared} {a : Addr} {y : V} {o : Option V} (I : Inv X pins σ H s) (g : DGet H a y o) : s.TypeIs (.ref a) "dict" := by
  rcases g with ⟨kvs, k, e, _, _⟩ | ⟨kvs, k, b, e, _, _, _⟩
  · obtain ⟨_, _, vs, _, dd⟩ := dk_rd I.hok e
    exact dd.typeIs
  · obtain ⟨_, _, xs, _, dd⟩ := dt_rd I.hok e
    exact dd.typeIs
/-- d[y] -/
def tDGet (td ty : TE) : TE := fun σ H Q => td σ H fun x H1 => ty σ H1 fun y H2 => ∃ a v, x = .ref a ∧ DGet H2 a y (some v) ∧ Q v H2
/-- y in d, y not in d -/
def tDIn (ty td : TE) : TE := fun σ H Q => ty σ H fun y H1 => td σ H1 fun x H2 => ∃ a o, x = .ref a ∧ DGet H2 a y o ∧ Q (.bl o.isSome) H2
def tDNotIn (ty td : TE) : TE := fun σ H Q => ty σ H fun y H1 => td σ H1 fun x H2 => ∃ a o, x = .ref a ∧ DGet H2 a y o ∧ Q (.bl (!o.isSome)) H2
/-- d[y] = v -/
def sDPut (td ty tv : TE) : TS := fun D σ H => tv σ H fun v H1 => td σ H1 fun x H2 => ty σ H2 fun y H3 => ∃ a H4, x = .ref a ∧ DPut H3 a y v H4 ∧ D.nx σ H4
section
variable {X : Cx} {o i e value : Expr} {pos pos' tpos : Pos} {td ty tv : TE}
theorem pe_dget (hu : X.A.units + 1 < cLine) (ho : PE X o td) (hi : PE X i ty) (hs : NoSl i) : PE X (.Subscript o i pos) (tDGet td ty) := by
  intro pins s σ H Q I h
  refine subD_of PySem.F.slot_dict_getitem.lookup hs (thn (ho pins s σ H _ I h) fun u s1 ⟨x, H1, I1, rx, q1⟩ => thn (hi pins s1 σ H1 _ I1 q1) fun iv s2 ⟨y, H2, I2, ry, a, v, ex, g, q2⟩ => ?_)
  subst ex
  obtain rfl : u = Value.ref a := rx
  exact ⟨dict_typeIs I2 g, d_getItem hu I2 g ry fun w' s3 I3 rw' => ⟨v, H2, I3, rw', q2⟩⟩
theorem pc_din (hu : X.A.units + 1 < cLine) (hi : PE X i ty) (ho : PE X o td) : PC X .In i o (tDIn ty td) := by
  intro pins s σ H Q I h
  refine thn (hi pins s σ H _ I h) fun iv s1 ⟨y, H1, I1, ry, q1⟩ => thn (ho pins s1 σ H1 _ I1 q1) fun u s2 ⟨x, H2, I2, rx, a, ov, ex, g, q2⟩ => ?_
  subst ex
  obtain rfl : u = Value.ref a := rx
  exact d_in hu I2 g ry fun s3 I3 => ⟨.bl ov.isSome, H2, I3, rfl, q2⟩
theorem pc_dnotin (hu : X.A.units + 1 < cLine) (hi : PE X i ty) (ho : PE X o td) : PC X .NotIn i o (tDNotIn ty td) := by
  intro pins s σ H Q I h
  refine thn (hi pins s σ H _ I h) fun iv s1 ⟨y, H1, I1, ry, q1⟩ => thn (ho pins s1 σ H1 _ I1 q1) fun u s2 ⟨x, H2, I2, rx, a, ov, ex, g, q2⟩ => ?_
  subst ex
  obtain rfl : u = Value.ref a := rx
  exact d_notIn hu I2 g ry fun s3 I3 => ⟨.bl (!ov.isSome), H2, I3, rfl, q2⟩
theorem ps_dput (hu : X.A.units + 1 < cLine) (ho : PE X o td) (hi : PE X i ty) (hv : PE X value tv) (hs : swapsWith value (some (.Subscript o i pos')) pos.line X.env = pure false) :
    PS X (.Assign [.Subscript o i pos'] value pos) (sDPut td ty tv) := by
  intro pins s σ H D I h
  refine wpAny_Assign_Subscript (thn (hv pins s σ H _ I h) fun r s1 ⟨v, H1, I1, rv, q1⟩ => thn (ho pins s1 σ H1 _ I1 q1) fun u s2 ⟨x, H2, I2, rx, q2⟩ => thn (hi pins s2 σ H2 _ I2 q2) fun iv s3 ⟨y, H3, I3, ry, a, H4, ex, g, q3⟩ => ?_) hs
  subst ex
  obtain rfl : u = Value.ref a := rx
  exact d_setItem hu I3 g ry rv fun s4 I4 => ⟨σ, H4, I4, q3⟩
end


/-! ### displays -/
theorem dk_empty {P : Program} {w : World} {H : Hp} (h : Heap) (hb : sysModules < h.objs.size) : ObjOk P w H (h.push { cls := .type "dict", data := .dict #[] }) h.objs.size (.dK []) :=
  ⟨Nat.zero_le _, beq_eq_false_iff_ne.mpr (Ne.symm (Nat.ne_of_lt hb)), [], .nil, Heap.DictOf.new h⟩
/-- {}, to be a dict of the kind that is wanted -/
def tDNewK : TE := fun _ H Q => ∀ p, H p = none → Q (.ref p) (upd H p (.dK []))
section
variable {X : Cx} {pos : Pos}
theorem pe_dnewK : PE X (.Dict [] [] pos) tDNewK := fun pins s σ H Q I h =>
  wpAny_Dict_empty ⟨.ref s.heap.objs.size, _, I.laid (a := s.heap.objs.size) (o := .dK []) (t' := s.toks) (fun _ _ q => Heap.get?_push_of_some _ q) (Nat.le_refl _) (dk_empty s.heap I.big), rfl, h _ (I.hok.fresh (Nat.le_refl _))⟩
end

/-! ### methods -/


/-! ### dict(d): a copy -/


end L2
namespace L2
open PySem PySem.Spec PyProof.Rows
/-! ### a dict's pairs: keys that differ -/
end L2
/-! own classes: their methods and their making, as Has; a statement that is never come to; int(truth) -/
namespace L2
open PySem PySem.Spec PyProof.Rows
structure HasM (P : Program) (w : World) (K : PySem.W.Frag) (mg : Str → Option Value) (base : Heap) (C : Addr) (m : Str) (ps : List Str) (j : Nat) (sp : Sp) : Prop where
  ex : ∃ f fd, FnOk P w K mg base CX0 j f fd ps sp ∧ Binds K fd ps [] ∧ Meth K C m f
structure HasC (P : Program) (w : World) (K : PySem.W.Frag) (mg : Str → Option Value) (base : Heap) (C : Addr) (x : Str) (ps : List Str) (j : Nat) (sp : Sp) : Prop where
  ex : ∃ f fd, FnOk P w K mg base CX0 j f fd ps sp ∧ Binds K fd ps [] ∧ Mk K C f ∧ mg x = some (.ref C)
section
variable {X : Cx} {C : Addr} {m x : Str} {ps : List Str} {j k : Nat} {sp : Sp} {o e : Expr} {es : List Expr} {ta : TE} {t : TA} {p pos apos : Pos}
theorem pe_hasm {pl : Sem Bool} (G : HasM X.prog X.w X.K X.mg X.base C m ps j sp) (hr : Room k X.A) (he : PE X o ta) (c : Cls X.K C) (ha : PA X (e :: es) t) (hk : j ≤ k := by decide)
    (hst : starEach (e :: es) X.env = (false, eval e X.env) :: starEach es X.env := by rfl) (hpl : (backTo pos (starEach es X.env)).any (·.1) = false := by rfl)
    (ht : eval (.Call (.Attribute o m apos) (e :: es) [] pos) X.env = (do
      let ov ← eval o X.env
      standAt apos.atName
      let (f, first) ← holding [ov] (getMethod ov m pl)
      callWith pos f first (backTo pos (starEach (e :: es) X.env)) (backToKw pos (keywordEach [] X.env))) := by rfl) : PE X (.Call (.Attribute o m apos) (e :: es) [] pos) (tMeth C m sp [] E0 ta t) := by
  obtain ⟨f, fd, F, b, hm⟩ := G.ex
  exact pe_meth (pl := pl) he c hm (F.room hk) hr b .nil pass0 ha hst hpl ht
theorem pe_hasm0 {pl : Sem Bool} (G : HasM X.prog X.w X.K X.mg X.base C m ps j sp) (hr : Room k X.A) (he : PE X o ta) (c : Cls X.K C) (hk : j ≤ k := by decide)
    (ht : eval (.Call (.Attribute o m apos) [] [] pos) X.env = (do
      let ov ← eval o X.env
      standAt apos.atName
      let (f, first) ← holding [ov] (getMethod ov m pl)
      callWith pos f first (backTo pos (starEach [] X.env)) (backToKw pos (keywordEach [] X.env))) := by rfl) : PE X (.Call (.Attribute o m apos) [] [] pos) (tMeth C m sp [] E0 ta tNil) := by
  obtain ⟨f, fd, F, b, hm⟩ := G.ex
  exact pe_meth0 (pl := pl) he c hm (F.room hk) hr b .nil pass0 ht
end
end L2
namespace L2
open PySem PySem.Spec PyProof.Rows
end L2

/-! for i, c in enumerate(text) -/
namespace L2
open PySem PySem.Spec PyProof.Rows
end L2

/-! t + u of tuples, == of lists of texts, groves behind one another -/
namespace L2
open PySem PySem.Spec PyProof.Rows
end L2
namespace Fg
open PySem L2 FgM
end Fg
namespace FgM
end FgM
namespace Fg
open PySem L2 FgM
end Fg

/-! recursion's ground, constants of the module, == of tuples by their lengths, blocks with captured names -/
namespace L2
open PySem PySem.Spec PyProof.Rows
theorem FnOk.none {P : Program} {w : World} {K : PySem.W.Frag} {mg : Str → Option Value} {base : Heap} {CX : CXT} {k : Nat} {f : Addr} {fd : FuncData} {ps : List Str} {sp : Sp} (h : ∀ vs H Q E, ¬ sp vs H Q E) : FnOk P w K mg base CX k f fd ps sp :=
  ⟨fun vs H Q E z => absurd z (h vs H Q E), fun A outer s H args us vs Q E hr e0 hb r z => absurd z (h vs H Q E)⟩
/-- a dict of the module with texts as its keys -/
inductive RowsV : List DictEntry → List (Str × V) → Prop
  | nil : RowsV [] []
  | cons {e : DictEntry} {x : Str} {t : Tok} {v : V} {es : List DictEntry} {D : List (Str × V)} : e.key = .str x t → RelV v e.val → RowsV es D → RowsV (e :: es) ((x, v) :: D)
def KTab (K : PySem.W.Frag) (A : Addr) (D : List (Str × V)) : Prop := ∃ (es : Array DictEntry) (ep : Nat) (sl : Array (Option Value)), K.lookup A = some ⟨.type "dict", none, .dict es ep, sl⟩ ∧ RowsV es.toList D
theorem RowsV.exact {es : List DictEntry} {D : List (Str × V)} (h : RowsV es D) : (es.all fun e => isExactStrKey e.key) = true := by
  induction h with
  | nil => rfl
  | cons hk _ _ ih => rw [List.all_cons, ih, hk]; rfl
theorem RowsV.find {es : List DictEntry} {D : List (Str × V)} {k : Str} {v : V} (h : RowsV es D) (hl : D.lookup k = some v) : ∃ (i : Nat) (e : DictEntry), es.findIdx? (fun e => e.key.isStr k) = some i ∧ es[i]? = some e ∧ RelV v e.val := by
  induction h with
  | nil => cases hl
  | @cons e x t v' es D hk hv _ ih =>
    by_cases hx : k = x
    · subst hx
      have : v' = v := by simpa [List.lookup_cons] using hl
      subst this
      exact ⟨0, e, by rw [List.findIdx?_cons]; simp [hk, Value.isStr], rfl, hv⟩
    · have hl' : D.lookup k = some v := by
        rw [List.lookup_cons] at hl
        have : (k == x) = false := beq_eq_false_iff_ne.mpr hx
        rw [this] at hl
        exact hl
      obtain ⟨i, e', h1, h2, h3⟩ := ih hl'
      refine ⟨i + 1, e', ?_, h2, h3⟩
      rw [List.findIdx?_cons]
      have : e.key.isStr k = false := by
        rw [hk]
        simp [Value.isStr]
        exact fun z => hx z.symm
      rw [this, h1]
      rfl
def tKGet (K : PySem.W.Frag) (td ty : TE) : TE := fun σ H Q => td σ H fun x H1 => ty σ H1 fun y H2 => ∃ A D k v, x = .ref A ∧ y = .str k ∧ KTab K A D ∧ D.lookup k = some v ∧ Q v H2
theorem pe_kget {X : Cx} {o i : Expr} {td ty : TE} {pos : Pos} (ho : PE X o td) (hi : PE X i ty) (hs : NoSl i) : PE X (.Subscript o i pos) (tKGet X.K td ty) := by
  intro pins s σ H Q I h
  refine subD_of PySem.F.slot_dict_getitem.lookup hs (thn (ho pins s σ H _ I h) fun u s1 ⟨x, H1, I1, rx, q1⟩ => thn (hi pins s1 σ H1 _ I1 q1) fun iv s2 ⟨y, H2, I2, ry, A, D, k, v, ex, ey, hK, hl, q2⟩ => ?_)
  subst ex ey
  obtain rfl : u = Value.ref A := rx
  obtain ⟨t, rfl⟩ := (show ∃ t, iv = Value.str k t from ry)
  obtain ⟨es, ep, sl, hlk, hr⟩ := hK
  have hob := I2.kIn A _ hlk
  have hT : s2.TypeIs (.ref A) "dict" := ⟨_, hob, rfl⟩
  refine ⟨hT, ?_⟩
  unfold getItem
  try with_reducible refine wpAny_holding ?_
  refine wpAny_bind (wpAny_sequenceKey hT (by decide) ?_)
  refine wpAny_bind (wpAny_callSpecial?_slot (name := Str.ofString "__getitem__") hT PySem.F.slot_dict_getitem (wpAny_call_entry PySem.F.slot_dict_getitem hT PySem.F.entry_dict_getitem ?_ (PySem.F.args_dict_getitem_2 _ _)))
  show wpAny _ _ (dictGet A (.str k t) >>= _) _ _ s2
  refine wpAny_bind ?_
  unfold dictGet
  try with_reducible refine wpAny_holding ?_
  obtain ⟨l⟩ := es
  obtain ⟨n, e, h1, h2, h3⟩ := hr.find hl
  refine wpAny_bind (wpAny_pyHash_str (wpAny_bind (PyProof.Rows.KTD.kt_dictFind_strs (s := { s2 with toks := s2.toks + 1 }) hob rfl (by simpa using hr.exact) ?_)))
  have hf : (List.toArray l).findIdx? (fun e => e.key.isStr k) = some n := by simpa using h1
  rw [hf]
  refine wpAny_bind (wpAny_dictEntries (s := { s2 with toks := s2.toks + 1 }) hob rfl (wpAny_pure ?_))
  have he : (List.toArray l)[n]? = some e := by simpa using h2
  rw [show ({ toList := l } : Array DictEntry)[n]? = some e from he]
  exact wpAny_pure ⟨e.val, rfl, wpAny_pure ⟨v, H2, I2.tok _, h3, q2⟩⟩
/-- a tuple that begins with a text, and a tuple of one text -/
def rEqN (K : PySem.W.Frag) : R2 := fun x y H Q => ∃ a b k r m, x = .ref a ∧ y = .ref b ∧ SqT K H a (.str k :: r) ∧ SqT K H b [.str m] ∧ Q (.bl (decide (k = m) && r.isEmpty)) H
theorem op_eqN {X : Cx} (hu : X.A.units + 200 < cLine) : OpR X (compareOp .Eq) (rEqN X.K) := by
  intro pins s σ H x y v u Q I rx ry h
  obtain ⟨a, b, k, r, m, rfl, rfl, ha, hb, q⟩ := h
  cases rx
  cases ry
  obtain ⟨its, r1, p1, z1⟩ := I.tuple ha
  obtain ⟨its2, r2, p2, z2⟩ := I.tuple hb
  cases r1 with
  | @cons _ u1 _ us1 h1 t1 =>
    cases r2 with
    | @cons _ u2 _ us2 h2 t2 =>
      cases t2
      obtain ⟨tk1, rfl⟩ := (show ∃ t, u1 = Value.str k t from h1)
      obtain ⟨tk2, rfl⟩ := (show ∃ t, u2 = Value.str m t from h2)
      refine PySem.SeqAt.eq_tupleAt (e := fun _ => k == m) p1 p2 (by (first | lia | omega)) (fun j j1 j2 => ?_) ⟨.bl _, H, I, rfl, ?_⟩
      · have : j = 0 := by simpa using j2
        subst this
        exact PySem.SeqAt.EqAt.str_str k tk1 m tk2
      · have e1 : ((List.range (min (List.toArray (Value.str k tk1 :: us1)).size (List.toArray [Value.str m tk2]).size)).all (fun _ => k == m) && (List.toArray (Value.str k tk1 :: us1)).size == (List.toArray [Value.str m tk2]).size) = (decide (k = m) && r.isEmpty) := by
          have hl := t1.length
          have e2 : (k == m) = decide (k = m) := by
            by_cases e : k = m
            · subst e; simp
            · rw [decide_eq_false e]; exact beq_eq_false_iff_ne.mpr e
          cases r with
          | nil =>
            cases t1
            simp [e2]
          | cons y ys =>
            cases t1
            simp
        rw [e1]
        exact q
/-! captured names -/
theorem lookup_mem {β : Type} {x : Str} {c : β} : ∀ {l : List (Str × β)}, l.lookup x = some c → (x, c) ∈ l
  | [], h => by cases h
  | (y, d) :: l, h => by
    rw [List.lookup_cons] at h
    cases e : x == y with
    | true =>
      rw [e] at h
      cases h
      rw [beq_iff_eq.mp e]
      exact List.mem_cons_self ..
    | false =>
      rw [e] at h
      exact List.mem_cons_of_mem _ (lookup_mem h)
theorem cap_cl {env : Env} {cl : List (Str × Addr)} (h : ∀ p ∈ cl, env.cells.lookup p.1 = some p.2) : ∀ x c, cl.lookup x = some c → env.cells.lookup x = some c := fun x c e => h (x, c) (lookup_mem e)
theorem cap_has {scope : Scope} {env : Env} {cl : List (Str × Addr)} (h : ∀ y ∈ scope.names, (y.2 = .cell ∨ y.2 = .free) → ∃ c, cl.lookup y.1 = some c) : ∀ (C : Addr) (x : Str), ((compEnvC scope cl C env).kindOf x = some .cell ∨ (compEnvC scope cl C env).kindOf x = some .free) → ∃ c, cl.lookup x = some c := by
  have key : ∀ (k : NameKind) (x : Str), (k = .cell ∨ k = .free) → (scope.names.map fun (n, k) => if (k == .free && env.scope.kind == .function && env.kindOf n == some .cell) then (n, .cell) else (n, k)).lookup x = some k → ∃ c, cl.lookup x = some c := by
    intro k x hk e
    obtain ⟨⟨n, k0⟩, hy, he⟩ := List.mem_map.mp (lookup_mem e)
    by_cases hc : (k0 == .free && env.scope.kind == .function && env.kindOf n == some .cell) = true
    · simp only [hc, if_true] at he
      have h0 : k0 = .free := by
        simp only [Bool.and_eq_true] at hc
        have := hc.1.1
        cases k0 <;> first | rfl | exact absurd this (by decide)
      injection he with e1 e2
      subst e1
      exact h _ hy (.inr h0)
    · simp only [hc] at he
      injection he with e1 e2
      subst e1 e2
      exact h _ hy hk
  intro C x hx
  rcases hx with e | e
  · exact key _ x (.inl rfl) e
  · exact key _ x (.inr rfl) e
end L2
namespace L2
open PySem PySem.Spec PyProof.Rows
theorem ix_tupK {X : Cx} {K : PySem.W.Frag} (h : X.K = K) : IxR X (rIxT K) := by
  subst h
  exact ix_tup
end L2

/-! a block's parts by names of their own (what comes behind a statement is then one word in a proof) -/
namespace L2
open PySem PySem.Spec PyProof.Rows
theorem len1 {α : Type} : ∀ {us : List α}, us.length = 1 → ∃ a, us = [a]
  | [a], _ => ⟨a, rfl⟩
theorem lenS {α : Type} {n : Nat} : ∀ {us : List α}, us.length = n + 1 → ∃ a vs, us = a :: vs ∧ vs.length = n
  | a :: vs, h => ⟨a, vs, rfl, Nat.succ.inj h⟩
theorem len2 {α : Type} {us : List α} (h : us.length = 2) : ∃ a b, us = [a, b] := by
  obtain ⟨a, vs, rfl, h2⟩ := lenS h
  obtain ⟨b, rfl⟩ := len1 h2
  exact ⟨a, b, rfl⟩
theorem len3 {α : Type} {us : List α} (h : us.length = 3) : ∃ a b c, us = [a, b, c] := by
  obtain ⟨a, vs, rfl, h2⟩ := lenS h
  obtain ⟨b, c, rfl⟩ := len2 h2
  exact ⟨a, b, c, rfl⟩
theorem len4 {α : Type} {us : List α} (h : us.length = 4) : ∃ a b c d, us = [a, b, c, d] := by
  obtain ⟨a, vs, rfl, h2⟩ := lenS h
  obtain ⟨b, c, d, rfl⟩ := len3 h2
  exact ⟨a, b, c, d, rfl⟩
theorem len5 {α : Type} {us : List α} (h : us.length = 5) : ∃ a b c d e, us = [a, b, c, d, e] := by
  obtain ⟨a, vs, rfl, h2⟩ := lenS h
  obtain ⟨b, c, d, e, rfl⟩ := len4 h2
  exact ⟨a, b, c, d, e, rfl⟩
end L2

/-! exceptions of own classes: raised, passed on, caught -/
namespace L2
open PySem PySem.Spec PyProof.Rows
end L2

namespace L2
open PySem PySem.Spec PyProof.Rows
/-! ### callees that may raise -/
/-! ### which classes an except names -/
end L2

namespace L2
open PySem PySem.Spec PyProof.Rows
/-! ### try -/
end L2

namespace L2
open PySem PySem.Spec PyProof.Rows PySem.W
/-! ### an own class of errors, under ValueError by one class more -/
end L2

namespace L2
open PySem PySem.Spec PyProof.Rows PySem.W Builtin Builtin.ObjectAttr
end L2

namespace L2
open PySem PySem.Spec PyProof.Rows PySem.W Builtin Builtin.ObjectAttr
end L2

namespace L2
open PySem PySem.Spec PyProof.Rows PySem.W
end L2

namespace L2
open PySem PySem.Spec PyProof.Rows PySem.W
end L2

namespace L2
open PySem PySem.Spec PyProof.Rows PySem.W
end L2

/-! texts with values put in -/
namespace L2
open PySem PySem.Spec PyProof.Rows
end L2

/-! a display of many written texts -/
namespace L2
open PySem PySem.Spec PyProof.Rows
end L2
namespace L2
open PySem PySem.Spec PyProof.Rows
end L2
namespace L2
open PySem PySem.Spec PyProof.Rows PySem.W
variable {X : Cx}
end L2

/-! sorted: what it gives is what it was given, in some order, at any length -/
namespace Srt
open PySem PyProof.Rows
end Srt

namespace Srt
open PySem PyProof.Rows
end Srt

namespace Srt
open PySem PyProof.Rows
end Srt

namespace Srt
open PySem PyProof.Rows
end Srt

namespace Srt
open PySem PyProof.Rows
end Srt

namespace Srt
open PySem PyProof.Rows
end Srt

namespace Srt
open PySem PyProof.Rows
end Srt

namespace Srt
open PySem PyProof.Rows
end Srt

namespace Srt
open PySem PyProof.Rows
end Srt

namespace Srt
open PySem PyProof.Rows
end Srt

namespace Srt
open PySem PyProof.Rows PySem.W
end Srt

namespace L2
open PySem PySem.Spec PyProof.Rows
end L2

namespace L2
open PySem PySem.Spec PyProof.Rows PySem.W
/-- a dict as it stands, whatever its keys -/
def RawD (h : Heap) (d : Addr) (es : Array DictEntry) (ep : Nat) : Prop := ∃ o, h.get? d = some o ∧ o.ExactDict ∧ o.data = .dict es ep
theorem RawD.tyIs {s : Shared} {d : Addr} {es : Array DictEntry} {ep : Nat} (x : RawD s.heap d es ep) : s.TypeIs (.ref d) "dict" := let ⟨o, ho, hc, _⟩ := x; ⟨o, ho, hc.1⟩
theorem RawD.to {h h' : Heap} {d : Addr} {es : Array DictEntry} {ep : Nat} (x : RawD h d es ep) (e : ∀ o, h.get? d = some o → h'.get? d = some o) : RawD h' d es ep := let ⟨o, ho, r⟩ := x; ⟨o, e _ ho, r⟩
section
variable {prog : Program} {w : World} {A : Around} {E : Value → Shared → Prop} {s : Shared} {it d : Addr} {es : Array DictEntry} {i ep : Nat}
theorem raw_iter {Q : Value → Shared → Prop} (lo : (d == sysModules) = false) (x : RawD s.heap d es ep)
    (q : Q (.ref s.heap.objs.size) { s with heap := s.heap.push { cls := .type "dict_keyiterator", data := .fields #[.ref d, .int 0 0, .int es.size 0, .int ep 0] } }) : wpAny (model prog w) A (pyIter (.ref d)) Q E s := by
  obtain ⟨o, ho, hx, hdat⟩ := id x
  have hT := x.tyIs
  refine wpAny_pyIter_slot hT PySem.F.slot_dict_iter (wpAny_call_entry PySem.F.slot_dict_iter hT PySem.F.entry_dict_iter ?_ (PySem.F.args_dict_iter_1 _))
  unfold Builtin.«dict.__iter__»; refine wpAny_bind ?_
  unfold Builtin.Dict.dictSlotNone; refine wpAny_bind (wpAny_notOrdered_dict hT ?_)
  refine wpAny_pure (?_ : wpAny _ _ (Builtin.Dict.showsAll d >>= _) _ _ s)
  unfold Builtin.Dict.showsAll; rw [if_neg (by rw [lo]; exact Bool.false_ne_true)]
  refine wpAny_bind (wpAny_pure (wpAny_bind (wpAny_dictEntries ho hdat (wpAny_bind (wpAny_dictEpoch ho hdat ?_)))))
  exact wpAny_bind (wpAny_newObj_type (wpAny_pure ⟨_, rfl, "dict_keyiterator", _, ⟨_, Heap.get?_push_size _ rfl, rfl⟩, PySem.F.slot_dict_keyiterator_next.lookup, q⟩))
theorem raw_item {Q : Option Value → Shared → Prop} (st : s.heap.IsKeyIter it d i es.size ep) (x : RawD s.heap d es ep) (hi : i < es.size)
    (q : ∀ h', h'.IsKeyIter it d (i + 1) es.size ep → Heap.SameBut it s.heap h' → Q (some es[i].key) { s with heap := h' }) : wpAny (model prog w) A (pyNext (.ref it)) Q E s := by
  obtain ⟨o, ho, hc, hd⟩ := id st
  obtain ⟨od, hod, hxd, hdd⟩ := id x
  unfold pyNext; refine wpAny_bind (wpAny_attempt (wpAny_callSpecial?_slot (name := Str.ofString "__next__") st.typeIs PySem.F.slot_dict_keyiterator_next (wpAny_call_entry PySem.F.slot_dict_keyiterator_next st.typeIs PySem.F.entry_dict_keyiterator_next ?_ (PySem.F.args_dict_keyiterator_next_1 _))))
  refine wpAny_bind (wpAny_pure (wpAny_bind (wpAny_bind ?_)))
  first | refine wpAny_bind (wpAny_typeNameOfWhole_keyiter st.typeIs (wpAny_pure (wpAny_bind (wpAny_fieldsOf ho hd ?_)))) | refine wpAny_bind (wpAny_typeNameOf_keyiter st.typeIs (wpAny_pure (wpAny_bind (wpAny_fieldsOf ho hd ?_))))
  have own : Builtin.Dict_items.ownsTuple "dict_keyiterator" = false := by decide
  simp only [own, Bool.false_eq_true, if_false]; change wpAny _ _ (if (Value.ref d == Value.none) = true then _ else _) _ _ s
  rw [if_neg (fun z : (Value.ref d == Value.none) = true => Bool.false_ne_true z)]
  refine wpAny_bind (wpAny_pure (wpAny_bind (wpAny_dictEntries hod hdd ?_)))
  rw [if_neg (by simp)]; refine wpAny_bind (wpAny_pure (wpAny_bind (wpAny_dictEpoch hod hdd ?_)))
  rw [if_neg (by simp)]; refine wpAny_pure ?_
  simp only [show ¬ ((i : Int) < 0) by (first | lia | omega), if_false, Int.toNat_natCast, Array.getElem?_eq_getElem hi]
  refine wpAny_bind ?_; first | refine wpAny_bind (wpAny_typeNameOfWhole_keyiter st.typeIs (wpAny_pure (wpAny_bind (wpAny_isOneOf_keyiter st.typeIs ?_)))) | refine wpAny_bind (wpAny_typeNameOf_keyiter st.typeIs (wpAny_pure (wpAny_bind (wpAny_isOneOf_keyiter st.typeIs ?_))))
  change wpAny _ _ (setField (.ref it) 1 (rawInt ((i : Int) + 1)) >>= _) _ _ s
  refine wpAny_bind (wpAny_setField ho hd (by simp) ?_)
  have st2 : (s.heap.update it (Obj.mapFields (·.setIfInBounds 1 (rawInt ((i : Int) + 1))))).IsKeyIter it d (i + 1) es.size ep := ⟨_, Heap.get?_update_self _ ho (Obj.isFreed_of_fields (Obj.data_mapFields hd _)), (Obj.cls_mapFields ..).trans hc, by rw [Obj.data_mapFields hd]; simp [rawInt]⟩
  refine wpAny_bind (wpAny_holding (wpAny_bind (wpAny_isOneOf_keyiter (s := { s with heap := s.heap.update it (Obj.mapFields (·.setIfInBounds 1 (rawInt ((i : Int) + 1)))) }) st2.typeIs ?_)))
  change wpAny _ _ (pure es[i].key) _ _ _
  exact wpAny_pure (wpAny_pure ⟨_, rfl, wpAny_pure (q _ st2 (Heap.SameBut.update ..))⟩)
theorem raw_end {Q : Option Value → Shared → Prop} (hh : A.handled = none) (st : s.heap.IsKeyIter it d i es.size ep) (x : RawD s.heap d es ep) (hi : es.size ≤ i)
    (q : ∀ h', Heap.ExtBut it s.heap h' → Q none { s with heap := h' }) : wpAny (model prog w) A (pyNext (.ref it)) Q E s := by
  obtain ⟨o, ho, hc, hd⟩ := id st
  obtain ⟨od, hod, hxd, hdd⟩ := id x
  unfold pyNext; refine wpAny_bind (wpAny_attempt (wpAny_callSpecial?_slot (name := Str.ofString "__next__") st.typeIs PySem.F.slot_dict_keyiterator_next (wpAny_call_entry PySem.F.slot_dict_keyiterator_next st.typeIs PySem.F.entry_dict_keyiterator_next ?_ (PySem.F.args_dict_keyiterator_next_1 _))))
  refine wpAny_bind (wpAny_pure (wpAny_bind (wpAny_bind ?_)))
  first | refine wpAny_bind (wpAny_typeNameOfWhole_keyiter st.typeIs (wpAny_pure (wpAny_bind (wpAny_fieldsOf ho hd ?_)))) | refine wpAny_bind (wpAny_typeNameOf_keyiter st.typeIs (wpAny_pure (wpAny_bind (wpAny_fieldsOf ho hd ?_))))
  have own : Builtin.Dict_items.ownsTuple "dict_keyiterator" = false := by decide
  simp only [own, Bool.false_eq_true, if_false]; change wpAny _ _ (if (Value.ref d == Value.none) = true then _ else _) _ _ s
  rw [if_neg (fun z : (Value.ref d == Value.none) = true => Bool.false_ne_true z)]
  refine wpAny_bind (wpAny_pure (wpAny_bind (wpAny_dictEntries hod hdd ?_)))
  rw [if_neg (by simp)]; refine wpAny_bind (wpAny_pure (wpAny_bind (wpAny_dictEpoch hod hdd ?_)))
  rw [if_neg (by simp)]; refine wpAny_pure ?_
  simp only [show ¬ ((i : Int) < 0) by (first | lia | omega), if_false, Int.toNat_natCast, Array.getElem?_eq_none hi]
  refine wpAny_bind ?_; first | refine wpAny_bind (wpAny_typeNameOfWhole_keyiter st.typeIs (wpAny_pure ?_)) | refine wpAny_bind (wpAny_typeNameOf_keyiter st.typeIs (wpAny_pure ?_))
  change wpAny _ _ (setField (.ref it) 0 .none >>= _) _ _ s
  refine wpAny_bind (wpAny_setField ho hd (by simp) ?_)
  change wpAny _ _ (newExc (.type "StopIteration") [] >>= _) _ _ _
  refine wpAny_bind ?_; simp only [newExc, newTuple]
  refine wpAny_bind (wpAny_newObj_type (wpAny_bind (m := firstArgMember _ _) (wpAny_of_eq (a := Value.none) (by first | rfl | (simp only [firstArgMember]; rfl)) (wpAny_newObj_type ?_ (by size_fits)))) (by size_fits))
  simp only [raiseNew]; refine wpAny_bind (wpAny_handled ?_)
  rw [show A.in1.handled = none from hh]; refine wpAny_bind (wpAny_pure (wpAny_throw ?_))
  refine wpAny_bind (wpAny_isInstance (T := "StopIteration") (b := true) (v := .ref _) (by exact ⟨_, Heap.get?_push_size _ rfl, rfl⟩) isSubtype_stop ?_)
  exact wpAny_pure (q _ (((Heap.SameBut.update ..).extBut.push _).push _))
theorem raw_walks (hh : A.handled = none) (hne : d ≠ it) : Walks prog w A it [it, d] [it] es.size (fun i v => ∃ e, es[i]? = some e ∧ v = e.key) (fun i h => h.IsKeyIter it d i es.size ep ∧ RawD h d es ep) where
  sub := fun b hb => List.mem_cons.mpr (.inl (List.mem_singleton.mp hb))
  frame := fun _ _ _ st hk => ⟨st.1.at fun o e => hk it (List.mem_cons_self ..) o e, st.2.to fun o e => hk d (List.mem_cons_of_mem _ (List.mem_cons_self ..)) o e⟩
  item := fun j s Q E hj st hQ => raw_item st.1 st.2 hj fun h' st' sb => hQ _ h' s.toks ⟨_, Array.getElem?_eq_getElem hj, rfl⟩ ⟨st', st.2.to fun o e => sb.extBut d o hne e⟩ fun b o hb e => sb.extBut b o (fun z => hb (List.mem_singleton.mpr z)) e
  done := fun s Q E st hQ => raw_end hh st.1 st.2 (Nat.le_refl _) fun h' he => hQ h' s.toks fun b o hb e => he b o (fun z => hb (List.mem_singleton.mpr z)) e
  self := fun _ _ _ _ st hQ => wpAny_pyIter_keyiter st.1 hQ
theorem raw_src (lo : (d == sysModules) = false) : KdlSrc prog w "dict" d d es.size (fun i v => ∃ e, es[i]? = some e ∧ v = e.key) (fun h => RawD h d es ep) where
  type := fun _ x => x.tyIs
  there := fun _ ⟨o, ho, _⟩ => ⟨Heap.lt_size ho, Heap.lt_size ho⟩
  keep := fun _ _ x hk => x.to fun o e => hk d (.inl rfl) o e
  notList := by decide
  notTuple := by decide
  hint := fun _ _ _ _ x hq => kdl_hint_dict x.tyIs hq
  iter := fun _ _ hh x => ⟨_, _, (fun _ _ hq => raw_iter lo x hq), raw_walks hh (let ⟨o, ho, _⟩ := x; Nat.ne_of_lt (Heap.lt_size ho)), ⟨⟨_, Heap.get?_push_size _ rfl, rfl, rfl⟩, x.to fun _ e => Heap.get?_push_of_some _ e⟩⟩
end
end L2

namespace L2
open PySem PySem.Spec PyProof.Rows PySem.W
end L2
namespace Srt
open PySem PyProof.Rows PySem.W
end Srt
namespace L2
open PySem PySem.Spec PyProof.Rows
end L2

namespace L2
open PySem PySem.Spec PyProof.Rows
end L2

/-! the table of a set: a search always ends -/
namespace Sts
open PySem
/-! the steps of a search -/
end Sts

/-! a table laid anew holds all its elements -/
namespace Sts
open PySem
end Sts

/-! places in rising order -/
namespace Sts
open PySem
end Sts

/-! tuples in a set -/
namespace Sts
open PySem
end Sts

/-! a tuple added to a set -/
namespace Sts
open PySem
end Sts

namespace Sts
open PySem
end Sts

/-! set(list of tuples) -/
namespace Sts
open PySem PyProof.Rows
end Sts

namespace Sts
open PySem PyProof.Rows
end Sts

/-! a set walked -/
namespace Sts
open PySem PyProof.Rows
end Sts

namespace Sts
open PySem PyProof.Rows
end Sts

namespace Sts
open PySem PyProof.Rows
end Sts

namespace Sts
open PySem PyProof.Rows PySem.W
end Sts

namespace Srt
open PySem PyProof.Rows PySem.W
end Srt

namespace Sts
open PySem PyProof.Rows PySem.W Srt
end Sts
namespace L2
open PySem PySem.Spec PyProof.Rows PySem.W
end L2

/-! sorted: the order too -/
namespace Srd
open PySem PyProof.Rows Srt
end Srd

namespace Srd
open PySem PyProof.Rows Srt
end Srd

namespace Srd
open PySem PyProof.Rows Srt
end Srd

namespace Srd
open PySem PyProof.Rows Srt
end Srd

namespace Srd
open PySem PyProof.Rows Srt
end Srd

namespace Srd
open PySem PyProof.Rows Srt
end Srd

namespace Srd
open PySem PyProof.Rows Srt
end Srd

namespace Srd
open PySem PyProof.Rows Srt
end Srd

namespace Srd
open PySem PyProof.Rows Srt PySem.W
end Srd

/-! a list has no keys() -/
namespace Srd
open PySem PyProof.Rows
theorem lk_list_keys : typeLookup (.type "list") "keys" = pure none := by rw [typeLookup_type, builtinLookup_eq_fast]; kernel_rfl
theorem isSubtype_attr : isSubtype (.type "AttributeError") (.type "AttributeError") = pure true := by rw [isSubtype_type]; kernel_rfl
section
variable {prog : Program} {w : World} {A : Around} {E : Value → Shared → Prop} {h : Heap} {g : Array GenState} {d : Drawn} {t : Nat} {os : OsState} {a : Addr}
theorem raise_attr {α : Type} {Q : α → Shared → Prop} {o : Value} {name msg : Str} (hh : A.handled = none) (hm : msg.length ≤ sizeLine) (hq : ∀ (x : Addr) (h' : Heap) (tk : Nat), (∀ b u, h.get? b = some u → h'.get? b = some u) → (∃ ob, h'.get? x = some ob ∧ ob.cls = .type "AttributeError") → h.objs.size ≤ h'.objs.size → E (.ref x) ⟨h', g, d, tk, os⟩) :
    wpAny (model prog w) A (raiseAttrError o name msg : Sem α) Q E ⟨h, g, d, t, os⟩ := by
  unfold raiseAttrError
  repeat (any_goals (first | assumption | wp_step))
  refine wpAny_of_eq isSubtype_attr ?_
  rw [if_neg (by decide)]
  generalize hfa : (if ((Manifest.find? "AttributeError").elim false fun t => t.mro.contains "StopIteration" || t.mro.contains "SystemExit") = true then [Value.str msg t].headD Value.none else Value.none) = fa
  have k1 : ∀ b u, h.get? b = some u → (h.push { cls := Value.type "tuple", data := Data.seq #[Value.str msg t] }).get? b = some u := fun b u e => Heap.get?_push_of_some _ e
  have z1 : (h.push { cls := Value.type "tuple", data := Data.seq #[Value.str msg t] }).objs.size = h.objs.size + 1 := Heap.size_push ..
  generalize h.push { cls := Value.type "tuple", data := Data.seq #[Value.str msg t] } = h1 at k1 z1
  have e1 : (h1.push { cls := Value.type "AttributeError", data := Data.fields (#[Value.ref h.objs.size, Value.none, Value.none, Value.none, Value.bool false, fa] ++ ownMembersOf (Value.type "AttributeError") [Value.str msg t]) }).get? h1.objs.size = some { cls := Value.type "AttributeError", data := Data.fields (#[Value.ref h.objs.size, Value.none, Value.none, Value.none, Value.bool false, fa] ++ ownMembersOf (Value.type "AttributeError") [Value.str msg t]) } := Heap.get?_push_size _ rfl
  have k2 : ∀ b u, h.get? b = some u → (h1.push { cls := Value.type "AttributeError", data := Data.fields (#[Value.ref h.objs.size, Value.none, Value.none, Value.none, Value.bool false, fa] ++ ownMembersOf (Value.type "AttributeError") [Value.str msg t]) }).get? b = some u := fun b u e => Heap.get?_push_of_some _ (k1 b u e)
  have z2 : (h1.push { cls := Value.type "AttributeError", data := Data.fields (#[Value.ref h.objs.size, Value.none, Value.none, Value.none, Value.bool false, fa] ++ ownMembersOf (Value.type "AttributeError") [Value.str msg t]) }).objs.size = h1.objs.size + 1 := Heap.size_push ..
  generalize h1.push { cls := Value.type "AttributeError", data := Data.fields (#[Value.ref h.objs.size, Value.none, Value.none, Value.none, Value.bool false, fa] ++ ownMembersOf (Value.type "AttributeError") [Value.str msg t]) } = h2 at e1 k2 z2
  refine wpAny_bind (wpAny_load e1 ?_)
  dsimp only
  have v6 : (#[Value.ref h.objs.size, Value.none, Value.none, Value.none, Value.bool false, fa] ++ ownMembersOf (Value.type "AttributeError") [Value.str msg t])[6]? = some unsetMember := rfl
  have v7 : (#[Value.ref h.objs.size, Value.none, Value.none, Value.none, Value.bool false, fa] ++ ownMembersOf (Value.type "AttributeError") [Value.str msg t])[7]? = some unsetMember := rfl
  refine wpAny_ite_split (fun hab => absurd hab (by rw [v6, v7]; decide)) (fun _ => wpAny_ite_split (fun hab => absurd hab (by rw [v6, v7]; decide)) (fun _ => wpAny_pure ?_))
  rw [if_pos rfl]
  refine wpAny_bind (wpAny_rule (wpAny_bind (wpAny_typeOf (T := "AttributeError") ⟨_, e1, rfl⟩ ?_)))
  dsimp only
  unfold layMembers
  refine wpAny_bind (wpAny_load e1 ?_)
  dsimp only
  refine wpAny_update e1 ?_
  unfold raiseNew
  refine wpAny_bind (wpAny_handled ?_)
  rw [hh]
  refine wpAny_throw (hq _ _ _ (fun b u e => ?_) ?_ ?_)
  · rw [Heap.get?_update_other _ _ (show h1.objs.size ≠ b from fun z => ?_)]
    · exact k2 b u e
    · have := Heap.lt_size e
      have h3 : h1.objs.size < h.objs.size := z ▸ this
      (first | lia | omega)
  · exact ⟨_, Heap.get?_update_self _ e1 rfl, rfl⟩
  · rw [Heap.size_update]
    show h.objs.size ≤ h2.objs.size
    (first | lia | omega)
theorem miss_entry_list {tk : Tok} {Q : Fin → Shared → Prop} {its : Array Value} {n : Nat} {sl : Array (Option Value)} (hh : A.handled = none) (hx : h.get? a = some { cls := .type "list", dict := none, data := .seq its n, slots := sl }) (hq : ∀ (x : Addr) (h' : Heap) (tk : Nat), (∀ b u, h.get? b = some u → h'.get? b = some u) → (∃ ob, h'.get? x = some ob ∧ ob.cls = .type "AttributeError") → h.objs.size ≤ h'.objs.size → E (.ref x) ⟨h', g, d, tk, os⟩) :
    wpAny (model prog w) A (Builtin.«object.__getattribute__» ⟨[.ref a, .str "keys" tk], []⟩) Q E ⟨h, g, d, t, os⟩ := by
  have hT : (⟨h, g, d, t, os⟩ : Shared).TypeIs (.ref a) "list" := ⟨_, hx, rfl⟩
  have f4 := lk_list_keys
  repeat (any_goals (first | assumption | with_reducible apply raise_attr hh | wp_step))
  decide +kernel
theorem lk_list_getattr : typeLookup (.type "list") "__getattr__" = pure none := by rw [typeLookup_type, builtinLookup_eq_fast]; kernel_rfl
theorem miss_call_list {tk : Tok} {R : Result → Shared → Prop} {its : Array Value} {n : Nat} {sl : Array (Option Value)} (hh : A.handled = none) (hx : h.get? a = some { cls := .type "list", dict := none, data := .seq its n, slots := sl }) (hq : ∀ (x : Addr) (h' : Heap) (tk : Nat), (∀ b u, h.get? b = some u → h'.get? b = some u) → (∃ ob, h'.get? x = some ob ∧ ob.cls = .type "AttributeError") → h.objs.size ≤ h'.objs.size → R (.error (.ref x)) ⟨h', g, d, tk, os⟩) :
    codeAny (model prog w) A (.call (.builtin "list.__getattribute__") ⟨[.ref a, .str "keys" tk], []⟩) R ⟨h, g, d, t, os⟩ :=
  codeAny_call_builtin F.slot_list_getattribute.plain F.entry_list_ga (F.slot_list_getattribute.check _ _ _ _ _ _ _ _ (show (⟨h, g, d, t, os⟩ : Shared).TypeIs (.ref a) "list" from ⟨_, hx, rfl⟩) (F.args_list_getattribute_2 _ _) (miss_entry_list hh hx hq))
theorem miss_by_list {tk : Tok} {Q : Value → Shared → Prop} {its : Array Value} {n : Nat} {sl : Array (Option Value)} (hh : A.handled = none) (hx : h.get? a = some { cls := .type "list", dict := none, data := .seq its n, slots := sl }) (hq : ∀ (x : Addr) (h' : Heap) (tk : Nat), (∀ b u, h.get? b = some u → h'.get? b = some u) → (∃ ob, h'.get? x = some ob ∧ ob.cls = .type "AttributeError") → h.objs.size ≤ h'.objs.size → E (.ref x) ⟨h', g, d, tk, os⟩) :
    wpAny (model prog w) A (getAttrBy (.ref a) (.str "keys" tk) false) Q E ⟨h, g, d, t, os⟩ := by
  have hT : (⟨h, g, d, t, os⟩ : Shared).TypeIs (.ref a) "list" := ⟨_, hx, rfl⟩
  have f2 := F.slot_list_getattribute.lookup
  have f3 := F.slot_list_getattribute.bind (.ref a)
  have f4 := lk_list_getattr
  repeat (any_goals (first | assumption | wp_step))
  refine miss_call_list hh hx fun x h' tk' k1 k2 k3 => ?_
  obtain ⟨ob, e2, c2⟩ := k2
  dsimp only
  unfold getattributeRaised
  refine wpAny_bind (wpAny_isInstance (T := "AttributeError") (b := true) ⟨ob, e2, c2⟩ isSubtype_attr ?_)
  rw [if_pos rfl]
  unfold hookBehind
  rw [if_neg (by decide)]
  refine wpAny_bind (wpAny_of_eq f4 ?_)
  unfold hookOrError attributeErrorLeaves
  dsimp only
  rw [if_pos (by decide)]
  exact wpAny_bind (wpAny_throw (hq x h' tk' k1 ⟨ob, e2, c2⟩ k3))
theorem miss_attr_list {Q : Option Value → Shared → Prop} {its : Array Value} {n : Nat} {sl : Array (Option Value)} (hh : A.handled = none) (hx : h.get? a = some { cls := .type "list", dict := none, data := .seq its n, slots := sl }) (hq : ∀ (h' : Heap) (tk : Nat), (∀ b u, h.get? b = some u → h'.get? b = some u) → h.objs.size ≤ h'.objs.size → Q none ⟨h', g, d, tk, os⟩) :
    wpAny (model prog w) A (getAttr? (.ref a) "keys") Q E ⟨h, g, d, t, os⟩ := by
  unfold getAttr? getAttrBy?
  repeat (any_goals (first | assumption | with_reducible apply miss_by_list hh hx | wp_step))
  intro x h' tk' k1 k2 k3
  obtain ⟨ob, e2, c2⟩ := k2
  dsimp only
  refine wpAny_bind (wpAny_isInstance (T := "AttributeError") (b := true) ⟨ob, e2, c2⟩ isSubtype_attr ?_)
  rw [if_pos rfl]
  exact wpAny_pure (hq h' tk' k1 k3)
end
end Srd

/-! dict(list of pairs) -/
namespace Srd
open PySem PyProof.Rows
theorem entry_dict_update_loop : entryFor table "dict.update.loop" = some Builtin.«dict.update.loop» := entryFor_of_tree (by kernel_rfl)
theorem plain_dict_update_loop : plainId "dict.update.loop" = true := by decide +kernel
section
variable {prog : Program} {w : World} {K : Type} [DecidableEq K] {knd : KeyKind prog w K} {A : Around} {E : Value → Shared → Prop} {R : Result → Shared → Prop}
/-- a pair, as a value -/
def PairAt (knd : KeyKind prog w K) (h : Heap) (v : Value) (k : K) (u : Value) : Prop := ∃ b o n uk, v = .ref b ∧ h.get? b = some o ∧ o.cls = .type "tuple" ∧ o.data = .seq #[uk, u] n ∧ knd.is k uk = true
def PairsAt (knd : KeyKind prog w K) (h0 : Heap) (d : Addr) (items : Array Value) (ps : List (K × Value)) : Prop := items.size = ps.length ∧ ∀ (i : Nat) v p, items[i]? = some v → ps[i]? = some p → ∀ h : Heap, (∀ b o, b < d → h0.get? b = some o → h.get? b = some o) → PairAt knd h v p.1 p.2
theorem pair_items {s : Shared} {v : Value} {k : K} {u : Value} {Q : List Value → Shared → Prop} (hp : PairAt knd s.heap v k u) (q : ∀ uk, knd.is k uk = true → Q [uk, u] s) : wpAny (model prog w) A (Builtin.Dict.pairItems v) Q E s := by
  obtain ⟨b, o, n, uk, rfl, ho, hc, hd, hk⟩ := hp
  unfold Builtin.Dict.pairItems
  refine wpAny_bind (wpAny_typeOf (T := "tuple") ⟨o, ho, hc⟩ ?_)
  rw [if_pos (by decide)]
  refine wpAny_bind (wpAny_seqItems ho hd (wpAny_pure (q uk hk)))
set_option maxHeartbeats 1000000 in
theorem dict_loop {h0 : Heap} {D I l : Addr} {items : Array Value} {ps : List (K × Value)} (hh : A.in1.handled = none) (ht : PairsAt knd h0 D items ps) (hDI : D < I) (hlI : l ≠ I) (hn : items.size ≤ 100000) : ∀ (k i : Nat) (j : Int) (jt : Tok) (s : Shared), items.size - i = k → i ≤ items.size → (s.heap.IsListIter I l i ∧ s.heap.IsList l items) → l < D → s.heap.DictOf knd D (merged [] (ps.take i)) → (∀ b o, b < D → h0.get? b = some o → s.heap.get? b = some o) →
      (∀ h' tk, h'.DictOf knd D (merged [] ps) → (∀ b o, b < D → h0.get? b = some o → h'.get? b = some o) → R (.ok (.ret .none)) { s with heap := h', toks := tk }) → codeAny (model prog w) A (.builtin "dict.update.loop" ⟨[.ref D, .ref I, .int j jt, .none], []⟩) R s := by
  have W := Walks.list (prog := prog) (w := w) (A := A.in1) hh I l hlI items
  have DK : ∀ {h h' : Heap} {kvs : List (K × Value)}, h.DictOf knd D kvs → (∀ b o, b ≤ D → h.get? b = some o → h'.get? b = some o) → h'.DictOf knd D kvs := fun {h h' kvs} ⟨o, es, ep, ho, r⟩ hk => ⟨o, es, ep, hk D o (Nat.le_refl _) ho, r⟩
  intro k
  induction k with
  | zero =>
    intro i j jt s hk hi hst hlD hd hb hR
    obtain rfl : i = items.size := by (first | lia | omega)
    refine codeAny_builtin entry_dict_update_loop ?_
    rw [Around.under_plainId plain_dict_update_loop _]
    change wpAny _ A.in1 (pyNext (.ref I) >>= _) _ _ s
    refine wpAny_bind (W.done s _ _ hst fun h' tk hm => ?_)
    change wpAny _ A.in1 (Builtin.Dict.addKeywords D [] >>= fun _ => ret Value.none) _ _ _
    refine wpAny_bind ?_
    unfold Builtin.Dict.addKeywords
    refine wpAny_pure (wpAny_pure ?_)
    rw [ht.1, List.take_length] at hd
    exact hR h' tk (DK hd fun b o hb' e => hm b o (fun z => Nat.lt_irrefl _ (Nat.lt_of_le_of_lt (List.mem_singleton.mp z ▸ hb') hDI)) e) fun b o hb' e => hm b o (fun z => Nat.lt_irrefl _ (Nat.lt_trans (List.mem_singleton.mp z ▸ hb') hDI)) (hb b o hb' e)
  | succ k ih =>
    intro i j jt s hk hi hst hlD hd hb hR
    have hlt : i < items.size := by (first | lia | omega)
    refine codeAny_builtin entry_dict_update_loop ?_
    rw [Around.under_plainId plain_dict_update_loop _]
    change wpAny _ A.in1 (pyNext (.ref I) >>= _) _ _ s
    refine wpAny_bind (W.item i s _ _ hlt hst fun v h' tk hP hst' hm => ?_)
    have hd' : h'.DictOf knd D (merged [] (ps.take i)) := DK hd fun b o hb' e => hm b o (fun z => Nat.lt_irrefl _ (Nat.lt_of_le_of_lt (List.mem_singleton.mp z ▸ hb') hDI)) e
    have hb1 : ∀ b o, b < D → h0.get? b = some o → h'.get? b = some o := fun b o hb' e => hm b o (fun z => Nat.lt_irrefl _ (Nat.lt_trans (List.mem_singleton.mp z ▸ hb') hDI)) (hb b o hb' e)
    have hpl : i < ps.length := by have := ht.1; (first | lia | omega)
    have hp := ht.2 i v ps[i] hP (List.getElem?_eq_getElem hpl) h' hb1
    refine wpAny_bind (wpAny_holding (wpAny_bind (wpAny_tryCatch (pair_items (s := { s with heap := h', toks := tk }) hp fun uk huk => ?_))))
    dsimp only
    have hml : (merged [] (ps.take i)).length ≤ sizeLine := by
      have := merged_length_le ([] : List (K × Value)) (ps.take i)
      rw [List.length_take] at this
      have h0l : ([] : List (K × Value)).length = 0 := rfl
      have := ht.1
      rw [sizeLine_eq]
      (first | lia | omega)
    refine wpAny_holding (wpAny_dictSet_pairs (s := { s with heap := h', toks := tk }) (hsz := hml) huk hd' fun h2 hd2 sb => ?_)
    have hk2 : ∀ b o, b ≠ D → h'.get? b = some o → h2.get? b = some o := fun b o hb e => (sb.2 b hb).trans e
    refine wpAny_pure ⟨plainId_quiet plain_dict_update_loop _, ih (i + 1) (j + 1) 0 _ (by (first | lia | omega)) hlt ?_ hlD ?_ (fun b o hb' e => hk2 b o (Nat.ne_of_lt hb') (hb1 b o hb' e)) fun h3 tk3 hw3 hb3 => hR h3 tk3 hw3 hb3⟩
    · refine W.frame _ h' h2 hst' fun b hb o e => hk2 b o (fun z => ?_) e
      simp only [List.mem_cons, List.not_mem_nil, or_false] at hb
      rcases hb with rfl | rfl
      · exact Nat.lt_irrefl _ (z ▸ hDI)
      · exact Nat.lt_irrefl _ (z ▸ hlD)
    · rw [merged_take_succ [] ps i ps[i] (List.getElem?_eq_getElem hpl)]
      exact hd2
set_option maxHeartbeats 1000000 in
theorem call_dict_pairs {s : Shared} {l : Addr} {items : Array Value} {n : Nat} {sl : Array (Option Value)} {ps : List (K × Value)} {Q : Value → Shared → Prop} (hh : A.handled = none) (hl : s.heap.get? l = some { cls := .type "list", dict := none, data := .seq items n, slots := sl }) (ht : PairsAt knd s.heap s.heap.objs.size items ps) (hn : items.size ≤ 100000)
    (q : ∀ (h' : Heap) (tk : Nat), h'.DictOf knd s.heap.objs.size (merged [] ps) → (∀ b o, s.heap.get? b = some o → h'.get? b = some o) → Q (.ref s.heap.objs.size) { s with heap := h', toks := tk }) :
    wpAny (model prog w) A (call (.type "dict") [.ref l]) Q E s := by
  refine callType_codes (Q₁ := fun obj s₁ => obj = .ref s.heap.objs.size ∧ s₁ = { s with heap := s.heap.push { cls := .type "dict", data := .dict #[] } }) F.kt_called_dict (F.kt_typeCall_dict_1 _) F.entry_dict_init (kt_code_dict_new _ ⟨rfl, rfl⟩) ?_
  rintro obj s₁ ⟨rfl, rfl⟩
  have hnew : (s.heap.push { cls := .type "dict", data := .dict #[] }).DictOf knd s.heap.objs.size [] := Heap.DictOf.new s.heap
  have hl1 : (s.heap.push { cls := .type "dict", data := .dict #[] }).get? l = some { cls := .type "list", dict := none, data := .seq items n, slots := sl } := Heap.get?_push_of_some _ hl
  have hlD : l < s.heap.objs.size := Heap.lt_size hl
  have k0 : ∀ b o, b < s.heap.objs.size → s.heap.get? b = some o → (s.heap.push { cls := .type "dict", data := .dict #[] }).get? b = some o := fun b o _ e => Heap.get?_push_of_some _ e
  have z0 : (s.heap.push { cls := .type "dict", data := .dict #[] }).objs.size = s.heap.objs.size + 1 := Heap.size_push ..
  refine ⟨hnew.typeIs, F.args_dict_init_2 _ _, ?_⟩
  generalize s.heap.push { cls := .type "dict", data := .dict #[] } = h1 at hnew hl1 k0 z0
  unfold Builtin.«dict.__init__»
  refine wpAny_bind ?_
  unfold Builtin.Dict.selfAndRest
  refine wpAny_bind (wpAny_notOrdered_dict hnew.typeIs ?_)
  show wpAny _ _ (pure (s.heap.objs.size, [Value.ref l])) _ _ _
  refine wpAny_pure ?_
  show wpAny _ _ (Builtin.Dict.updateFrom "dict.__init__" s.heap.objs.size (.ref l) [] .none) _ _ _
  unfold Builtin.Dict.updateFrom
  refine wpAny_bind (wpAny_typeOf (T := "list") ⟨_, hl1, rfl⟩ ?_)
  rw [if_pos (by decide)]
  refine wpAny_bind (miss_attr_list hh hl1 fun h2 tk2 k2 z2 => ?_)
  rw [if_pos (show (none : Option Value).isNone = true from rfl)]
  refine wpAny_bind (wpAny_rule ?_)
  have hl2 := k2 _ _ hl1
  have hL2 : h2.IsList l items := ⟨_, hl2, rfl, n, rfl⟩
  refine wpAny_bind (wpAny_pyIter_list hL2 ?_)
  have hd2 : h2.DictOf knd s.heap.objs.size [] := let ⟨o, es, ep, ho, r⟩ := hnew; ⟨o, es, ep, k2 _ _ ho, r⟩
  have hd3 : (h2.push { cls := .type "list_iterator", data := .fields #[.ref l, .int 0 0] }).DictOf knd s.heap.objs.size [] := hd2.push _
  have hsz : s.heap.objs.size < h2.objs.size := by (first | lia | omega)
  refine wpAny_pure ⟨plainId_quiet plain_dict_update_loop _, ?_⟩
  refine dict_loop (knd := knd) (h0 := s.heap) (by simpa using hh) ht hsz (Nat.ne_of_lt (Nat.lt_trans hlD hsz)) hn (items.size - 0) 0 0 0 _ rfl (Nat.zero_le _) ⟨⟨_, Heap.get?_push_size _ rfl, rfl, rfl⟩, hL2.push _⟩ hlD hd3 (fun b o hb e => Heap.get?_push_of_some _ (k2 _ _ (k0 b o hb e))) fun h' tk hd' hb' => ?_
  exact ⟨rfl, q h' tk hd' fun b o e => hb' b o (Heap.lt_size e) e⟩
end
end Srd

/-! dict(list of pairs) and sorted(dict of ints), as rules -/
namespace L2
open PySem PySem.Spec PyProof.Rows PySem.W
/-- the dict that pairs make -/
def putAll (kvs : List (Key × V)) : List (Key × V) := kvs.foldl (fun m kv => putK m kv.1 kv.2) []
theorem putAll_len_from : ∀ (kvs m : List (Key × V)), (kvs.foldl (fun m kv => putK m kv.1 kv.2) m).length ≤ m.length + kvs.length
  | [], m => Nat.le_refl _
  | kv :: kvs, m => by
    have h1 := putAll_len_from kvs (putK m kv.1 kv.2)
    have h2 := length_putK m kv.1 kv.2
    rw [List.length_cons, List.foldl_cons]
    (first | lia | omega)
theorem putAll_len (kvs : List (Key × V)) : (putAll kvs).length ≤ kvs.length := by
  have := putAll_len_from kvs []
  rw [List.length_nil, Nat.zero_add] at this
  exact this
theorem kv_all : ∀ {kvs : List (Key × V)} {ps : List (Key × Value)} {m : List (Key × V)} {m' : List (Key × Value)}, KV kvs ps → KV m m' → KV (kvs.foldl (fun m kv => putK m kv.1 kv.2) m) (merged m' ps)
  | _, _, _, _, .nil, h => h
  | _, _, m, m', .cons (a := kv) (b := p) r t, h => by
    have e : p.1 = kv.1 := r.1.symm
    have h1 := h.put kv.1 r.2
    have h2 := kv_all t h1
    show KV (List.foldl _ (putK m kv.1 kv.2) _) (merged (stored m' p.1 p.2) _)
    rw [e]
    exact h2
theorem valV_all_from {κ : Type} [DecidableEq κ] (k : κ) : ∀ (kvs m : List (κ × V)), (valV (kvs.foldl (fun m kv => putK m kv.1 kv.2) m) k).isSome = ((valV m k).isSome || kvs.any fun kv => decide (kv.1 = k))
  | [], m => by simp
  | kv :: kvs, m => by
    rw [List.foldl_cons, valV_all_from k kvs, valV_put, List.any_cons]
    by_cases e : k = kv.1
    · rw [if_pos e, decide_eq_true e.symm]
      simp
    · rw [if_neg e, decide_eq_false (fun z => e z.symm)]
      simp
section
variable {X : Cx}
theorem call_dict_list (hc : X.calm = true) : CallR X (.type "dict") (fun xs H Q => ∃ l ys kvs, xs = [.ref l] ∧ SqL X.K H l ys ∧ ys.length ≤ 90000 ∧ Paired (fun (y : V) (kv : Key × V) => ∃ t, y = .ref t ∧ H t = some (.tup [kV kv.1, kv.2])) ys kvs ∧ ∀ d, H d = none → Q (.ref d) (upd H d (.dK (putAll kvs)))) := by
  intro pins s σ H xs us Q I r h
  obtain ⟨l, ys, kvs, rfl, hq, hlen, hp, q⟩ := h
  obtain ⟨u, rfl, ru⟩ := vals1 r
  cases ru
  obtain ⟨its, rv, ⟨o, n, ho, ocl, odi, oda⟩, hz⟩ := I.list hq
  have hl := rv.length
  obtain ⟨ocls, odict, odata, oslots⟩ := o
  simp only at ocl odi oda
  subst ocl odi oda
  -- the pairs as they stand
  have key : ∀ {ys : List V} {kvs : List (Key × V)} {its : List Value}, Paired (fun (y : V) (kv : Key × V) => ∃ t, y = .ref t ∧ H t = some (.tup [kV kv.1, kv.2])) ys kvs → Vals ys its → ∃ ps : List (Key × Value), KV kvs ps ∧ its.length = ps.length ∧ ∀ (i : Nat) v p, its[i]? = some v → ps[i]? = some p → Srd.PairAt (mixKind X.prog X.w) s.heap v p.1 p.2 := by
    intro ys kvs its hp
    induction hp generalizing its with
    | nil =>
      intro rv
      cases rv
      exact ⟨[], .nil, rfl, fun i v p h => (nomatch h)⟩
    | @cons y kv ys kvs r t ih =>
      intro rv
      cases rv with
      | @cons _ v _ its ry rr =>
        obtain ⟨ps, h1, h2, h3⟩ := ih rr
        obtain ⟨ta, rfl, ht⟩ := r
        obtain rfl : v = Value.ref ta := ry
        obtain ⟨_, us, rus, o, ho, hc', n, hd⟩ := I.hok ta _ ht
        obtain ⟨u1, u2, rfl, r1, r2⟩ := Vals.two rus
        refine ⟨(kv.1, u2) :: ps, .cons ⟨rfl, r2⟩ h1, by rw [List.length_cons, List.length_cons, h2], fun i v p e1 e2 => ?_⟩
        cases i with
        | zero =>
          injection e1 with e1
          injection e2 with e2
          subst e1 e2
          exact ⟨ta, o, n, u1, rfl, ho, hc', hd, kV_is r1⟩
        | succ i => exact h3 i v p e1 e2
  obtain ⟨ps, h1, h2, h3⟩ := key hp rv
  refine Srd.call_dict_pairs (knd := mixKind X.prog X.w) (ps := ps) (I.ok.hd hc) ho ⟨by rw [List.size_toArray]; exact h2, fun i v p e1 e2 h' hk => ?_⟩ (by rw [List.size_toArray]; (first | lia | omega)) fun h' tk hd' hk => ?_
  · obtain ⟨b, o, n, uk, e, ho2, r⟩ := h3 i v p (by rw [← e1]; simp) e2
    exact ⟨b, o, n, uk, e, hk b o (Heap.lt_size ho2) ho2, r⟩
  · have hkl : kvs.length = ps.length := h1.length
    have hpl := putAll_len kvs
    exact ⟨.ref _, _, I.laid (t' := tk) (fun b o e => hk b o e) (Nat.le_refl _) (show ObjOk X.prog X.w _ h' _ (.dK (putAll kvs)) from ⟨by rw [sizeLine_eq]; (first | lia | omega), beq_eq_false_iff_ne.mpr (Ne.symm (Nat.ne_of_lt I.big)), _, kv_all h1 .nil, hd'⟩), rfl, q _ (I.hok.fresh (Nat.le_refl _))⟩
end
end L2

/-! arguments without a star: what has no star, by its head alone -/
namespace L2
open PySem PySem.Spec PyProof.Rows
end L2
/-! expressions and arguments, shut: nothing is unfolded while a deep display is put together -/
namespace L2
open PySem PySem.Spec PyProof.Rows
end L2

/-! sets of tuples: every element stands on its own way of probes -/
namespace Stg
open PySem Sts
end Stg

namespace Stg
open PySem Sts
end Stg

namespace Stg
open PySem Sts
end Stg

/-! the order of tuples of an int, a text and two ints -/
namespace Srd
open PySem PyProof.Rows Srt PySem.W
end Srd

namespace L2
open PySem PySem.Spec PyProof.Rows PySem.W
end L2

namespace Stg
open PySem PyProof.Rows PySem.W Sts
end Stg

/-! strong sets of numbers; set(list) for any kind of set -/
namespace Stg
open PySem PyProof.Rows Sts
end Stg

/-! sorted(set(l)) and sorted(l), with all that can be said -/
namespace Srd
end Srd
namespace L2
open PySem PySem.Spec PyProof.Rows PySem.W Srd Sts Stg
end L2

namespace L2
open PySem PySem.Spec PyProof.Rows PySem.W Srd Sts Stg
end L2

/-! for x, y in zip(xs, ys) -/
namespace L2
open PySem PySem.Spec PyProof.Rows
end L2

/-! sorted(l) of tuples (int, str, int, int) and of ints: the same items, rising -/
namespace L2
open PySem PySem.Spec PyProof.Rows PySem.W Srd
end L2

/-! range(a, b, 2) -/
namespace L2
open PySem PySem.Spec PyProof.Rows
end L2

namespace L2
open PySem PySem.Spec PyProof.Rows
theorem bt_any : bootBuiltins "any" = some (.builtin "any") := by decide +kernel
section
variable {X : Cx}
theorem any_range : ∀ (bs : List Bool), ((List.range bs.length).any fun i => (bs[i]?).getD false) = bs.any id := by
  intro bs
  rw [Bool.eq_iff_iff, List.any_eq_true, List.any_eq_true]
  constructor
  · rintro ⟨i, hi, h⟩
    have hi' := List.mem_range.mp hi
    rw [List.getElem?_eq_getElem hi'] at h
    exact ⟨_, List.getElem_mem hi', h⟩
  · rintro ⟨b, hb, h⟩
    obtain ⟨i, hi, rfl⟩ := List.getElem_of_mem hb
    exact ⟨i, List.mem_range.mpr hi, by rw [List.getElem?_eq_getElem hi]; exact h⟩
theorem call_any (hc : X.calm = true) : CallR X (.builtin "any") (fun xs H Q => ∃ (p : Addr) (bs : List Bool), xs = [.ref p] ∧ SqL X.K H p (bs.map V.bl) ∧ Q (.bl (bs.any id)) H) := by
  intro pins s σ H xs us Q I r h
  obtain ⟨p, bs, rfl, hS, q⟩ := h
  obtain ⟨u, rfl, ru⟩ := Vals.one r
  cases ru
  obtain ⟨its, rv, pl, hz⟩ := I.list hS
  have hl := pl.isList
  have hlen : bs.length = its.length := by
    have := rv.length
    rw [List.length_map] at this
    exact this
  refine call_any_walk (wpAny_pyIter_list hl ⟨s.heap.objs.size, [s.heap.objs.size, p], [s.heap.objs.size], its.toArray.size, _, _, fun i => (bs[i]?).getD false, rfl,
    Walks.list (A := X.A.in1) (I.ok.hd hc) _ p (Nat.ne_of_lt pl.lt) its.toArray, ⟨⟨_, Heap.get?_push_size _ rfl, rfl, rfl⟩, hl.push _⟩, fun i v s' Q' E' hP hQ => ?_, fun h' tk hk => ?_⟩)
  · obtain ⟨b, e, e2⟩ := boolsGet rv i v (by simpa using hP)
    subst e2
    simp only [e, Option.getD_some] at hQ
    exact wpAny_truthy_bool hQ
  · rw [List.size_toArray, ← hlen, any_range]
    refine ⟨.bl _, H, I.kept (t' := tk) fun b o e => hk b o (fun hm => ?_) (Heap.get?_push_of_some _ e), rfl, q⟩
    rw [List.mem_singleton.mp hm] at e
    exact Nat.lt_irrefl _ (Heap.lt_size e)
end
end L2

/-! len(set(l)) of tuples (int, str, int, int): how many unlike ones -/
namespace L2
open PySem PySem.Spec PyProof.Rows PySem.W Srd Sts Stg
end L2

/-! sets of texts: sorted(set(l)) -/
namespace Stg
open PySem PyProof.Rows Sts
end Stg
namespace L2
open PySem PySem.Spec PyProof.Rows PySem.W Srd Sts Stg
end L2

/-! for x in reversed(l) -/
namespace L2
open PySem PySem.Spec PyProof.Rows
end L2

/-! forms in the heap, as lists of all that they hold; what their makers promise; kinds of groves -/
namespace Fg
open PySem L2 FgM
theorem pg_tupK {X : Cx} {K : PySem.W.Frag} {es : List Expr} {k : Nat} {t : TGs} {n : Nat} {pos : Pos} (hK : X.K = K) (hc : X.calm = true) (h : PGs X es t) (hn : (assignEach es X.env).length = n := by rfl) (hst : (assignEach es X.env).findIdx? (·.1) = none := by rfl) : PG X (.Tuple es k pos) (gTup K n t) := by
  subst hK
  exact pg_tup hc h hn hst
theorem comp_tup {K : PySem.W.Frag} {a p : Addr} {xs : List V} {g : TG} {te : TE} {R : Hp → Prop} {σ0 : St} {H0 : Hp} (Pv : Nat → List V → St → Hp → Prop) (h0 : Pv 0 [] σ0 H0)
    (hl : ∀ i ys σ H, i ≤ xs.length → Pv i ys σ H → SqT K H a xs ∧ H p = some (.lst ys))
    (hs : ∀ i ys x σ H, i < xs.length → xs[i]? = some x → Pv i ys σ H → g x σ H fun σ3 H4 => te σ3 H4 fun v H5 => H5 p = some (.lst ys) ∧ ys.length < sizeLine ∧ ∃ m', m' < xs.length - i ∧ CW xs.length Pv (i + 1) m' (ys ++ [v]) σ3 (upd H5 p (.lst (ys ++ [v]))))
    (hd : ∀ ys σ H, Pv xs.length ys σ H → R H) :
    ∃ W : Nat → Nat → List V → St → Hp → Prop, (∃ m, W 0 m [] σ0 H0) ∧ ∀ i m ys σc H2, W i m ys σc H2 → H2 p = some (.lst ys) ∧ (((Itt K a).stop i H2 ∧ R H2) ∨ ((Itt K a).go i H2 ∧ ∀ x H3, (Itt K a).yld i H2 x H3 → g x σc H3 fun σ3 H4 => te σ3 H4 fun v H5 =>
      H5 p = some (.lst ys) ∧ ys.length < sizeLine ∧ ∃ m', m' < m ∧ W (i + 1) m' (ys ++ [v]) σ3 (upd H5 p (.lst (ys ++ [v]))))) := by
  refine ⟨CW xs.length Pv, ⟨_, rfl, Nat.zero_le _, h0⟩, ?_⟩
  rintro i m ys σ H ⟨rfl, hi, hp⟩
  obtain ⟨h1, h2⟩ := hl i ys σ H hi hp
  refine ⟨h2, ?_⟩
  by_cases hlt : i < xs.length
  · refine .inr ⟨⟨xs, xs[i], h1, List.getElem?_eq_getElem hlt⟩, ?_⟩
    rintro x H3 ⟨rfl, hx⟩
    exact hs i ys x σ _ hlt (hx xs h1) hp
  · refine .inl ⟨⟨xs, h1, by (first | lia | omega)⟩, hd ys σ H ?_⟩
    have e : i = xs.length := by (first | lia | omega)
    rw [← e]
    exact hp
theorem take_succ' {α : Type} {l : List α} {i : Nat} {x : α} (h : l[i]? = some x) : l.take (i + 1) = l.take i ++ [x] := by
  rw [List.take_add_one, h]
  rfl
theorem comp_range {lo : Int} {n : Nat} {p : Addr} {g : TG} {te : TE} {R : Hp → Prop} {σ0 : St} {H0 : Hp} (Pv : Nat → List V → St → Hp → Prop) (h0 : Pv 0 [] σ0 H0)
    (hl : ∀ i ys σ H, i ≤ n → Pv i ys σ H → H p = some (.lst ys))
    (hs : ∀ i ys σ H, i < n → Pv i ys σ H → g (.int (lo + i)) σ H fun σ3 H4 => te σ3 H4 fun v H5 => H5 p = some (.lst ys) ∧ ys.length < sizeLine ∧ ∃ m', m' < n - i ∧ CW n Pv (i + 1) m' (ys ++ [v]) σ3 (upd H5 p (.lst (ys ++ [v]))))
    (hd : ∀ ys σ H, Pv n ys σ H → R H) :
    ∃ W : Nat → Nat → List V → St → Hp → Prop, (∃ m, W 0 m [] σ0 H0) ∧ ∀ i m ys σc H2, W i m ys σc H2 → H2 p = some (.lst ys) ∧ (((Itr lo n).stop i H2 ∧ R H2) ∨ ((Itr lo n).go i H2 ∧ ∀ x H3, (Itr lo n).yld i H2 x H3 → g x σc H3 fun σ3 H4 => te σ3 H4 fun v H5 =>
      H5 p = some (.lst ys) ∧ ys.length < sizeLine ∧ ∃ m', m' < m ∧ W (i + 1) m' (ys ++ [v]) σ3 (upd H5 p (.lst (ys ++ [v]))))) := by
  refine ⟨CW n Pv, ⟨_, rfl, Nat.zero_le _, h0⟩, ?_⟩
  rintro i m ys σ H ⟨rfl, hi, hp⟩
  refine ⟨hl i ys σ H hi hp, ?_⟩
  by_cases hlt : i < n
  · refine .inr ⟨hlt, ?_⟩
    rintro x H3 ⟨rfl, rfl⟩
    exact hs i ys σ _ hlt hp
  · have e : i = n := by (first | lia | omega)
    subst e
    exact .inl ⟨Nat.le_refl _, hd ys σ H hp⟩
theorem ix_listK {X : Cx} {K : PySem.W.Frag} (h : X.K = K) : IxR X (rIxL K) := h ▸ ix_list
theorem op_in_seqK {X : Cx} {K : PySem.W.Frag} (h : X.K = K) : OpR X (compareOp .In) (rIn K false) := h ▸ op_in_seq
def tTruK (K : PySem.W.Frag) (ta : TE) : TT := fun σ H Q => ta σ H fun x H' => ∃ k, TruV K x H' k ∧ Q k H'
theorem pt_truthK {X : Cx} {K : PySem.W.Frag} {a : Expr} {ta : TE} (h : X.K = K) (ha : PE X a ta) (he : ∀ whole, isTrue a X.env whole = (do let v ← whole; standAt a.pos; holding [v] (truthy v))) :
    PT X a (tTruK K ta) := by
  subst h
  exact pt_truth ha he
/-! forms with all that is known of them -/
end Fg

namespace Fg
open PySem L2 FgM
/-! kinds of groves by a form; words gone through from the last one -/
end Fg

namespace Fg
open PySem L2 FgM
/-! lists of kinds, one for each rest of a row -/
/-! what the makers of words and forms promise -/
end Fg

/-! rows again and again -/
namespace Fg
open PySem L2 FgM
end Fg

/-! d.setdefault(k, x); sorted(d, reverse=True) of a dict with whole numbers as keys -/
namespace L2
open PySem PySem.Spec PyProof.Rows
end L2

/-! places of tags and of their ends; dicts by whole numbers -/
namespace Fg
open PySem L2 FgM
end Fg

namespace L2
open PySem PySem.Spec PyProof.Rows
/-- a comprehension over a list, with a test -/
theorem comp_listT {K : PySem.W.Frag} {a p : Addr} {xs : List V} {g : TG} {tt : TT} {te : TE} {R : Hp → Prop} {σ0 : St} {H0 : Hp} (Pv : Nat → List V → St → Hp → Prop) (h0 : Pv 0 [] σ0 H0)
    (hl : ∀ i ys σ H, i ≤ xs.length → Pv i ys σ H → SqL K H a xs ∧ H p = some (.lst ys))
    (hs : ∀ i ys x σ H, i < xs.length → xs[i]? = some x → Pv i ys σ H → g x σ H fun σ3 H4 => tt σ3 H4 fun b H4' => if b = true then te σ3 H4' fun v H5 => H5 p = some (.lst ys) ∧ ys.length < sizeLine ∧ ∃ m', m' < xs.length - i ∧ CW xs.length Pv (i + 1) m' (ys ++ [v]) σ3 (upd H5 p (.lst (ys ++ [v])))
      else ∃ m', m' < xs.length - i ∧ CW xs.length Pv (i + 1) m' ys σ3 H4')
    (hd : ∀ ys σ H, Pv xs.length ys σ H → R H) :
    ∃ W : Nat → Nat → List V → St → Hp → Prop, (∃ m, W 0 m [] σ0 H0) ∧ ∀ i m ys σc H2, W i m ys σc H2 → H2 p = some (.lst ys) ∧ (((Itl K a).stop i H2 ∧ R H2) ∨ ((Itl K a).go i H2 ∧ ∀ x H3, (Itl K a).yld i H2 x H3 → g x σc H3 fun σ3 H4 => tt σ3 H4 fun b H4' => if b = true then te σ3 H4' fun v H5 =>
      H5 p = some (.lst ys) ∧ ys.length < sizeLine ∧ ∃ m', m' < m ∧ W (i + 1) m' (ys ++ [v]) σ3 (upd H5 p (.lst (ys ++ [v]))) else ∃ m', m' < m ∧ W (i + 1) m' ys σ3 H4')) := by
  refine ⟨CW xs.length Pv, ⟨_, rfl, Nat.zero_le _, h0⟩, ?_⟩
  rintro i m ys σ H ⟨rfl, hi, hp⟩
  obtain ⟨h1, h2⟩ := hl i ys σ H hi hp
  refine ⟨h2, ?_⟩
  by_cases hlt : i < xs.length
  · refine .inr ⟨⟨xs, xs[i], h1, List.getElem?_eq_getElem hlt⟩, ?_⟩
    rintro x H3 ⟨rfl, hx⟩
    exact hs i ys x σ _ hlt (hx xs h1) hp
  · have e : i = xs.length := by (first | lia | omega)
    subst e
    exact .inl ⟨⟨xs, h1, Nat.le_refl _⟩, hd ys σ H hp⟩
end L2

/-! len of a dict; the place of a number in a list -/
namespace L2
open PySem PySem.Spec PyProof.Rows PySem.W
end L2

/-! pairs of numbers in order; sorted of a dict whose keys are such pairs -/
namespace Srd
open PySem PyProof.Rows Srt PySem.W
end Srd
namespace L2
open PySem PySem.Spec PyProof.Rows PySem.W Srd
end L2

/-! list(d): the keys of a dict, in its order -/
namespace L2
open PySem PySem.Spec PyProof.Rows PySem.W Srd
theorem keys_valsG {P : Program} {w : World} {kvs : List (Key × V)} {ps : List (Key × Value)} (h : KV kvs ps) : ∀ {es : List DictEntry}, PySem.Pairs (mixKind P w) es ps → Vals (kvs.map fun p => kV p.1) (es.map (·.key)) := by
  have h' : Paired (fun (p : Key × V) (q : Key × Value) => p.1 = q.1 ∧ RelV p.2 q.2) kvs ps := h
  clear h
  induction h' with
  | nil =>
    intro es h2
    cases h2
    exact .nil
  | @cons a b l m r t ih =>
    intro es h2
    cases h2 with
    | cons h1 h2 h3 =>
      refine .cons ?_ (ih h3)
      rw [← r.1] at h1
      have h1' : keyIs a.1 _ = true := h1
      rcases keyIs_shape h1' with ⟨i, t, he, hk⟩ | ⟨x, t, he, hk⟩
      · show RelV (kV a.1) _
        rw [he]
        exact ⟨t, hk⟩
      · show RelV (kV a.1) _
        rw [he]
        exact ⟨t, hk⟩
section
variable {X : Cx}
theorem items_keys {es : Array DictEntry} {acc : Array Value} (hit : ItemsOf (fun i v => ∃ e, es[i]? = some e ∧ v = e.key) acc es.size) : acc.toList = es.toList.map (·.key) := by
  refine List.ext_getElem? fun j => ?_
  rw [Array.getElem?_toList, List.getElem?_map, Array.getElem?_toList]
  cases hj : acc[j]? with
  | none =>
    have h3 : acc.size ≤ j := Array.getElem?_eq_none_iff.mp hj
    rw [hit.1] at h3
    rw [Array.getElem?_eq_none h3]
    rfl
  | some v =>
    obtain ⟨e, h1, rfl⟩ := hit.2 j v hj
    rw [h1]
    rfl
theorem call_list_dK (hc : X.calm = true) : CallR X (.type "list") (fun xs H Q => ∃ (d : Addr) (kvs : List (Key × V)), xs = [.ref d] ∧ H d = some (.dK kvs) ∧ ∀ l, H l = none → Q (.ref l) (upd H l (.lst (kvs.map fun p => kV p.1)))) := by
  intro pins s σ H xs us Q I r h
  obtain ⟨d, kvs, rfl, hd, q⟩ := h
  obtain ⟨u, rfl, rx⟩ := vals1 r
  obtain rfl : u = .ref d := rx
  obtain ⟨hl, lo, vs, kv, o, es, ep, ho, hx, hdat, hko, hpr, hnd⟩ := dk_of I.hok hd
  have hvals := keys_valsG kv hpr
  have hes : es.size = kvs.length := by
    have := hvals.length
    simpa using this.symm
  refine kdl_call (raw_src lo) (I.ok.hd hc) (⟨o, ho, hx, hdat⟩ : RawD s.heap d es ep) (by rw [hes]; exact hl) fun h' tk acc c k e hit => ?_
  have hacc := items_keys hit
  have I2 := I.laid (h' := h') (t' := tk) (a := s.heap.objs.size) (o := .lst (kvs.map fun p => kV p.1)) k (Nat.le_refl _) (show ObjOk X.prog X.w _ h' _ (.lst (kvs.map fun p => kV p.1)) from ⟨by rw [List.length_map]; exact hl, acc.toList, c, by rw [hacc]; exact hvals, e⟩)
  exact ⟨.ref s.heap.objs.size, _, I2, rfl, q _ (I.hok.fresh (Nat.le_refl _))⟩
end
end L2

/-! l.extend(d): the keys of a dict behind what l has -/
namespace L2
open PySem PySem.Spec PyProof.Rows PySem.W Srd
end L2

/-! for i, x in enumerate(tuple); min(list of ints) -/
namespace L2
open PySem PySem.Spec PyProof.Rows
end L2

/-! runs: the first rule at each tag -/
namespace Fg
open PySem L2 FgM
end Fg

/-! list.insert; a quad in a tuple of quads, and its place there -/
namespace L2
open PySem PySem.Spec PyProof.Rows Srd
section
variable {X : Cx}
/-- a new tuple, known to have no attributes of its own -/
theorem call_tuple_frz : CallR X (.type "tuple") (fun xs H Q => ∃ p ys, xs = [.ref p] ∧ SqL X.K H p ys ∧ ∀ l o, H l = none → o.cls = .type "tuple" → o.dict = none → Q (.ref l) (upd H l (.frz o (.tup ys)))) := by
  intro pins s σ H xs us Q I r h
  obtain ⟨p, ys, rfl, hq, q⟩ := h
  obtain ⟨u, rfl, rx⟩ := vals1 r
  cases rx
  obtain ⟨its, r', pl, hz⟩ := I.list hq
  have hlen := r'.length
  refine call_tuple_list pl.isList (fun h' kp => ?_) (by simp only [List.size_toArray] <;> (first | lia | omega))
  have I1 : Inv X pins σ H { s with heap := h' } := I.kept (t' := s.toks) kp
  have I2 : Inv X pins σ (upd H h'.objs.size (.frz { cls := .type "tuple", data := .seq its.toArray } (.tup ys))) { s with heap := h'.push { cls := .type "tuple", data := .seq its.toArray } } :=
    I1.laid (t' := s.toks) (fun b o e => Heap.get?_push_of_some _ e) (Nat.le_refl _) (show ObjOk X.prog X.w _ _ _ (.frz { cls := .type "tuple", data := .seq its.toArray } (.tup ys)) from ⟨Heap.get?_push_size _ rfl, hz, its, r', IsTup.new _ _⟩)
  exact ⟨.ref h'.objs.size, _, I2, rfl, q _ _ (I1.hok.fresh (Nat.le_refl _)) rfl rfl⟩
end
end L2

/-! an own class called with arguments; isinstance of an own class -/
namespace L2
open PySem PySem.Spec PyProof.Rows
section
variable {X : Cx} {C : Addr} {m x : Str} {ps : List Str} {j k : Nat} {sp : Sp} {o e : Expr} {es : List Expr} {ta : TE} {t : TA} {p pos apos : Pos}
theorem pe_hasc (G : HasC X.prog X.w X.K X.mg X.base C x ps j sp) (hr : Room k X.A) (hg : Gl X x) (ha : PA X (e :: es) t) (hk : j + 1 ≤ k := by decide) (hdb : (x == ("__debug__" : Str)) = false := by decide)
    (he : starEach (e :: es) X.env = (false, eval e X.env) :: starEach es X.env := by rfl) (hpl : (backTo pos (starEach es X.env)).any (·.1) = false := by rfl) : PE X (.Call (.Name x p) (e :: es) [] pos) (tMake C sp [] E0 t) := by
  obtain ⟨f, fd, F, b, M, hm⟩ := G.ex
  exact pe_make M F (hr.mono hk) hg hm b .nil pass0 ha hdb he hpl
end
end L2

/-! sorted(set(l)) of a list of texts of any length, of which few are unlike -/
namespace Stg
open PySem PyProof.Rows Sts
end Stg
namespace L2
open PySem PySem.Spec PyProof.Rows PySem.W Srd Sts Stg
end L2
namespace L2
open PySem PySem.Spec PyProof.Rows
end L2
namespace L2
open PySem PySem.Spec PyProof.Rows
end L2

/-! the reader: its state, in the heap and as lists of pairs -/
namespace Fg
open PySem L2 FgM
/-! in the heap -/
/-! the promises of the reader's methods -/
end Fg

/-! what the laws of the reader build -/
namespace Fg
open PySem L2 FgM
end Fg
namespace L2
open PySem PySem.Spec PyProof.Rows
/-- a comprehension over a range, with a test -/
theorem comp_rangeT {lo : Int} {n : Nat} {p : Addr} {g : TG} {tt : TT} {te : TE} {R : Hp → Prop} {σ0 : St} {H0 : Hp} (Pv : Nat → List V → St → Hp → Prop) (h0 : Pv 0 [] σ0 H0)
    (hl : ∀ i ys σ H, i ≤ n → Pv i ys σ H → H p = some (.lst ys))
    (hs : ∀ i ys σ H, i < n → Pv i ys σ H → g (.int (lo + i)) σ H fun σ3 H4 => tt σ3 H4 fun b H4' => if b = true then te σ3 H4' fun v H5 => H5 p = some (.lst ys) ∧ ys.length < sizeLine ∧ ∃ m', m' < n - i ∧ CW n Pv (i + 1) m' (ys ++ [v]) σ3 (upd H5 p (.lst (ys ++ [v])))
      else ∃ m', m' < n - i ∧ CW n Pv (i + 1) m' ys σ3 H4')
    (hd : ∀ ys σ H, Pv n ys σ H → R H) :
    ∃ W : Nat → Nat → List V → St → Hp → Prop, (∃ m, W 0 m [] σ0 H0) ∧ ∀ i m ys σc H2, W i m ys σc H2 → H2 p = some (.lst ys) ∧ (((Itr lo n).stop i H2 ∧ R H2) ∨ ((Itr lo n).go i H2 ∧ ∀ x H3, (Itr lo n).yld i H2 x H3 → g x σc H3 fun σ3 H4 => tt σ3 H4 fun b H4' => if b = true then te σ3 H4' fun v H5 =>
      H5 p = some (.lst ys) ∧ ys.length < sizeLine ∧ ∃ m', m' < m ∧ W (i + 1) m' (ys ++ [v]) σ3 (upd H5 p (.lst (ys ++ [v]))) else ∃ m', m' < m ∧ W (i + 1) m' ys σ3 H4')) := by
  refine ⟨CW n Pv, ⟨_, rfl, Nat.zero_le _, h0⟩, ?_⟩
  rintro i m ys σ H ⟨rfl, hi, hp⟩
  refine ⟨hl i ys σ H hi hp, ?_⟩
  by_cases hlt : i < n
  · refine .inr ⟨hlt, ?_⟩
    rintro x H3 ⟨rfl, rfl⟩
    exact hs i ys σ _ hlt hp
  · have e : i = n := by (first | lia | omega)
    subst e
    exact .inl ⟨Nat.le_refl _, hd ys σ H hp⟩
end L2
namespace L2
open PySem PySem.Spec PyProof.Rows
end L2
namespace Fg
open PySem L2 FgM
end Fg
namespace Fg
open PySem L2 FgM
theorem making {H : Hp} {x dx C : Addr} (hx : H x = none) (hdx : H dx = none) (hne : dx ≠ x) : Same H (upd (upd H dx (.own x)) x (.ins C dx [])) := (Same.new hdx).trans (Same.new (by
  rw [upd_ne hne.symm]
  exact hx))
end Fg
namespace Fg
open PySem L2 FgM
end Fg

/-! sorted(list of pairs), sorted(list of texts) -/
namespace L2
open PySem PySem.Spec PyProof.Rows PySem.W Srd Sts Stg
end L2
namespace Fg
open PySem L2 FgM
end Fg
namespace Fg
open PySem L2 FgM
end Fg
namespace L2
open PySem PySem.Spec PyProof.Rows
/-! a display of many written numbers -/
end L2
namespace L2
open PySem PySem.Spec PyProof.Rows
end L2
namespace Fg
open PySem L2 FgM
end Fg

/-! sorted(set(l)) of a list of pairs of numbers; a pair in a list of pairs -/
namespace L2
open PySem PySem.Spec PyProof.Rows PySem.W Srd Sts Stg
end L2

/-! sum(list of ints) -/
namespace L2
open PySem PySem.Spec PyProof.Rows
end L2

/-! min(list of ints, default=d) -/
namespace L2
open PySem PySem.Spec PyProof.Rows PySem.SeqAt
end L2

/-! a grove under way: rows and tags that are open; one tag opened, one shut -/
namespace Fg
open PySem L2 FgM
/-! how many tags, how deep, what is within each -/
end Fg

/-! where the tags of a grove end; what stands at each place; how far two groves are apart -/
namespace Fg
open PySem L2 FgM
end Fg

/-! a tuple times an int; max(list of ints) -/
namespace L2
open PySem PySem.Spec PyProof.Rows
end L2

/-! a table: a list of lists of ints, each row a list of its own -/
namespace Fg
open PySem L2 FgM
end Fg

/-! how far groves are apart: steps, and what they tell -/
namespace Fg
open PySem L2 FgM
end Fg

/-! groves changed tree by tree; == of groves -/
namespace Fg
open PySem L2 FgM
end Fg

/-! dict(list of pairs) whose keys are tuples -/
namespace Srd
open PySem PyProof.Rows
end Srd
namespace L2
open PySem PySem.Spec PyProof.Rows PySem.W Srd
end L2

/-! pairs of a number and a text in order; sorted of a dict whose keys are such pairs -/
namespace Srd
open PySem PyProof.Rows Srt PySem.W
end Srd
namespace L2
open PySem PySem.Spec PyProof.Rows PySem.W Srd
end L2

/-! parts of changers in the heap, streams; text.index, list.index of a tuple -/
namespace L2
open PySem PySem.Spec PyProof.Rows PySem.W
end L2
namespace Fg
open PySem L2 FgM
namespace Pa
end Pa
theorem tagB_letsS {z : Str} (h : Lets z) (h8 : z.length ≤ 8) : tagB z = true := by
  have h1 : 1 ≤ z.length := by
    have : 0 < z.cps.toList.length := List.length_pos_iff.mpr h.1
    rw [Array.length_toList] at this
    exact this
  unfold tagB
  rw [decide_eq_true h1, decide_eq_true h8, Bool.true_and, Bool.true_and, List.all_eq_true]
  intro c hc
  have := h.2 c hc
  unfold azB
  simp; (first | lia | omega)
end Fg

/-! methods that may raise; isinstance of an exception, of any class -/
namespace L2
open PySem PySem.Spec PyProof.Rows PySem.W
end L2
namespace L2
open PySem PySem.Spec PyProof.Rows
end L2
namespace L2
open PySem PySem.Spec PyProof.Rows
end L2

/-! for k in d: a dict by ints or texts, walked; it is held fast while it is walked -/
namespace L2
open PySem PySem.Spec PyProof.Rows PySem.W
end L2

/-! C() where the class has no __init__ of its own -/
namespace L2
open PySem PySem.Spec PyProof.Rows PySem.W
end L2

/-! a def with defaults -/
namespace L2
open PySem PySem.Spec PyProof.Rows
end L2

/-! what comes of a grove by a changer, in any sense; the changed grove, its tags and depth -/
namespace Fg
open PySem L2 FgM
end Fg
namespace Fg
open PySem L2 FgM
end Fg

/-! sorted(d, reverse=True) at any length; defs with defaults that may raise -/
namespace Srd
open PySem PyProof.Rows Srt PySem.W
end Srd
namespace L2
open PySem PySem.Spec PyProof.Rows PySem.W
end L2
namespace L2
open PySem PySem.Spec PyProof.Rows
end L2

/-! a text put into a text by its repr: f'{x!r}' -/
namespace L2
open PySem PySem.Spec PyProof.Rows
end L2

/-! a dict by tuples, walked; sorted of a list of pairs of a number and a text; range with any step -/
namespace L2
open PySem PySem.Spec PyProof.Rows PySem.W
end L2
/-! a statement with a deep display, shut: pss_one would unfold it all -/
namespace L2
open PySem PySem.Spec PyProof.Rows
end L2

/-! an own class whose __init__ may raise -/
namespace L2
open PySem PySem.Spec PyProof.Rows PySem.W
end L2
/-! a dict by tuples that was walked may be changed again; a dict of one pair -/
namespace L2
open PySem PySem.Spec PyProof.Rows PySem.W
end L2
/-! isinstance of an exception without fields, of any class -/
namespace L2
open PySem PySem.Spec PyProof.Rows PySem.W
end L2

/-! str of nested tuples, min of three numbers, list(range(n)) -/
namespace L2
open PySem PySem.Spec PyProof.Rows
end L2

/-! the text of a grove's tuples tells the grove; the distance of flat rows from behind -/
namespace Fg
open PySem PySem.Spec PyProof.Rows L2 FgM
end Fg

/-! sorted of a dict whose keys are tuples (int, str, int, int) -/
namespace L2
open PySem PySem.Spec PyProof.Rows PySem.W Srd
end L2

/-! lambdas: the body's context, the call -/
namespace L2
open PySem PySem.Spec PyProof.Rows PySem.W
end L2

/-! lambdas: the table of a def's code grows; a lambda is made -/
namespace L2
open PySem PySem.Spec PyProof.Rows PySem.W
end L2

/-! sorted(l, key=lambda x: ..), the keys whole numbers -/
namespace Srd
open PySem PyProof.Rows Srt PySem.W
end Srd
namespace L2
open PySem PySem.Spec PyProof.Rows PySem.W
end L2

/-! the rule: sorted(l, key=lambda x: ..) -/
namespace L2
open PySem PySem.Spec PyProof.Rows PySem.W
end L2

/-! a def whose code is known; the head of a law with tables of codes -/
namespace L2
open PySem PySem.Spec PyProof.Rows PySem.W
end L2
namespace Fg
open PySem L2
end Fg

/-! isinstance(e, (A, B)) of an exception -/
namespace L2
open PySem PySem.Spec PyProof.Rows PySem.W
end L2

/-! min(list) of data of any kind -/
namespace L2
open PySem PySem.Spec PyProof.Rows PySem.SeqAt
end L2

/-! pairs as keys: a plain thing and a thing in the heap -/
namespace L2
open PySem PySem.Spec PyProof.Rows PySem.W
open PySem.Sem (wp)
end L2

/-! dicts by pairs (a plain thing, a tuple of plain things) -/
namespace L2
open PySem PySem.Spec PyProof.Rows PySem.W
end L2

/-! len and truth of any dict -/
namespace L2
open PySem PySem.Spec PyProof.Rows PySem.W
end L2

/-! a dict by pairs, walked -/
namespace L2
open PySem PySem.Spec PyProof.Rows PySem.W
end L2

/-! d.pop(k) of a dict by pairs -/
namespace L2
open PySem PySem.Spec PyProof.Rows PySem.W
end L2

/-! dict(list of pairs) whose keys are pairs of a plain thing and a tuple -/
namespace Srd
open PySem PyProof.Rows
end Srd
namespace L2
open PySem PySem.Spec PyProof.Rows PySem.W Srd
end L2

/-! text.startswith(piece, at) -/
namespace L2
open PySem PySem.Spec PyProof.Rows
theorem starts_at (T p : Str) (n : Nat) (hn : n ≤ T.length) : (decide (fromIndex T.length (n : Int) + p.length ≤ T.length) && Builtin.Str.subAt T p (fromIndex T.length (n : Int))) = decide (p.cps.toList <+: T.cps.toList.drop n) := by
  have e : fromIndex T.length (n : Int) = n := by
    unfold fromIndex
    rw [if_neg (by (first | lia | omega))]
    (first | lia | omega)
  rw [e, StrLaws.subAt_eq, Bool.eq_iff_iff, Bool.and_eq_true, decide_eq_true_eq, decide_eq_true_eq, beq_iff_eq, List.prefix_iff_eq_take]
  have hp : p.cps.toList.length = p.length := Array.length_toList ..
  have hT : T.cps.toList.length = T.length := Array.length_toList ..
  rw [hp]
  constructor
  · rintro ⟨_, h⟩
    exact h.symm
  · intro h
    refine ⟨?_, h.symm⟩
    have := congrArg List.length h
    rw [hp, List.length_take, List.length_drop, hT] at this
    (first | lia | omega)
section
variable {X : Cx}
theorem mt_starts : MtM X "str.startswith" (fun x vs H Q => ∃ (T p : Str) (n : Nat), x = .str T ∧ vs = [.str p, .int (n : Int)] ∧ n ≤ T.length ∧ Q (.bl (decide (p.cps.toList <+: T.cps.toList.drop n))) H) := by
  intro pins s σ H x vs v us Q I rx rv h
  obtain ⟨T, p, n, rfl, rfl, hn, q⟩ := h
  obtain ⟨t, rfl⟩ := rx
  obtain ⟨u1, u2, rfl, ⟨t1, rfl⟩, ⟨t2, rfl⟩⟩ := vals2 rv
  have g := gives_str_startswith_from T p (n : Int) t t1 t2
  have e := starts_at T p n hn
  have e' : ((fromIndex T.length (n : Int) + p.length ≤ T.length : Bool) && Builtin.Str.subAt T p (fromIndex T.length (n : Int))) = decide (p.cps.toList <+: T.cps.toList.drop n) := e
  rw [e'] at g
  exact call_gives PySem.F.slot_str_startswith (typeIs_str _ _ _) PySem.F.entry_str_startswith (PySem.F.args_str_startswith_3 _ _ _) g ⟨.bl _, H, I, rfl, q⟩
end
section
variable {X : Cx}
/-- x <= y of texts -/
theorem op_le_str : OpR X (compareOp .LtE) (fun x y H Q => ∃ i j : Str, x = .str i ∧ y = .str j ∧ Q (.bl (!decide (j.cps.toList < i.cps.toList))) H) := by
  intro pins s σ H x y v u Q I rx ry h
  obtain ⟨i, j, rfl, rfl, q⟩ := h
  obtain ⟨t, rfl⟩ := rx
  obtain ⟨t', rfl⟩ := ry
  exact le_az ⟨.bl _, H, I, rfl, q⟩
theorem le_one (a b : Nat) : (!decide (([b] : List Nat) < [a])) = decide (a ≤ b) := by
  by_cases h : a ≤ b
  · rw [decide_eq_true h, decide_eq_false (by simp [List.cons_lt_cons_iff]; (first | lia | omega))]
    rfl
  · rw [decide_eq_false h, decide_eq_true (by simp [List.cons_lt_cons_iff]; (first | lia | omega))]
    rfl
end
end L2

/-! max(list of ints, default=d) -/
namespace L2
open PySem PySem.Spec PyProof.Rows PySem.SeqAt
theorem args_max_d (a d : Value) : argsOk "max" ⟨[a], [(Str.ofString "default", d)]⟩ := by unfold argsOk; kernel_rfl
section
variable {X : Cx} {pins : List (Addr × Obj)} {σ : St} {H : Hp} {s : Shared} {Q : VK} {l p it : Addr} {ns : List Int} {ud : Value}
theorem max_loopI (hc : X.calm = true) (hu : X.A.in1.units < cLine) (ok : X.Ok) (hp0 : H p = none) (hq : ∀ o, SqL X.K (upd H p o) l (ns.map V.int)) (q : ∀ M, M ∈ ns → (∀ x ∈ ns, x ≤ M) → Q (.int M) (upd H p (.lst []))) :
    ∀ (r i : Nat) (b : Int) (s : Shared), ns.length - (i + 1) = r → i < ns.length → b ∈ ns → (∀ x ∈ ns.take (i + 1), x ≤ b) → Inv (cxIn1 X) pins σ (upd H p (.lst [.int b, .int b])) s → s.heap.IsListIter it l (i + 1) → FpOk (cxIn1 X) pins (upd H p (.lst [.int b, .int b])) it →
      codeAny (model X.prog X.w) X.A (.builtin "max.loop" ⟨[.ref it, .none, .ref p], [(Str.ofString "default", ud)]⟩) (minR X pins σ Q) s := by
  have hname : (toString "max" ++ toString ".loop" : String) = "max.loop" := by decide
  intro r
  induction r with
  | zero =>
    intro i b s hr hi hb hle I st hf
    have hp : (upd H p (.lst [.int b, .int b])) p = some (.lst [.int b, .int b]) := upd_same
    obtain ⟨_, its, n, rv, _, e⟩ := I.lstM hp
    obtain ⟨ub, uk, rfl, rb, rk⟩ := vals2 rv
    refine codeAny_builtin PySem.F.entry_max_loop ?_
    rw [Around.under_plainId PySem.F.plain_max_loop _]
    show wpAny _ X.A.in1 (seqItems? (.ref p) >>= _) _ _ _
    refine wpAny_bind (wpAny_seqItems e rfl ?_)
    show wpAny _ X.A.in1 (tryCatch (pyNext (.ref it)) _ >>= _) _ _ _
    refine wpAny_bind (wpAny_tryCatch (min_end hc I st (hq _) (by rw [List.length_map]; (first | lia | omega)) hf fun s1 I1 => ?_))
    obtain ⟨_, its, n, rv, _, e⟩ := I1.lstM hp
    show wpAny _ X.A.in1 (updateSeq p (fun _ => #[]) >>= _) _ _ _
    refine wpAny_bind (wpAny_updateSeq e rfl (wpAny_bind (wpAny_letGo (wpAny_pure ?_))))
    have I2 := Inv.out1 ok (I1.lset (f := fun _ => #[]) (t' := s1.toks) (its' := []) hp e rfl .nil (Nat.zero_le _))
    rw [upd_upd] at I2
    refine ⟨.int b, _, I2, rb, q b hb fun x hx => hle x ?_⟩
    rw [List.take_of_length_le (by (first | lia | omega))]
    exact hx
  | succ r ih =>
    intro i b s hr hi hb hle I st hf
    have hp : (upd H p (.lst [.int b, .int b])) p = some (.lst [.int b, .int b]) := upd_same
    obtain ⟨_, its, n, rv, _, e⟩ := I.lstM hp
    obtain ⟨ub, uk, rfl, rb, rk⟩ := vals2 rv
    have hi1 : i + 1 < ns.length := by (first | lia | omega)
    have hx : (ns.map V.int)[i + 1]? = some (.int (ns[i + 1]'hi1)) := by rw [List.getElem?_map, List.getElem?_eq_getElem hi1]; rfl
    have hxm : ns[i + 1]'hi1 ∈ ns := List.getElem_mem _
    have htk : ns.take (i + 1 + 1) = ns.take (i + 1) ++ [ns[i + 1]'hi1] := List.take_succ_eq_append_getElem hi1
    generalize ns[i + 1]'hi1 = a at hx hxm htk
    refine codeAny_builtin PySem.F.entry_max_loop ?_
    rw [Around.under_plainId PySem.F.plain_max_loop _]
    show wpAny _ X.A.in1 (seqItems? (.ref p) >>= _) _ _ _
    refine wpAny_bind (wpAny_seqItems e rfl ?_)
    show wpAny _ X.A.in1 (tryCatch (pyNext (.ref it)) _ >>= _) _ _ _
    refine wpAny_bind (wpAny_tryCatch (min_item I st (hq _) hx hf fun u s1 I1 st1 ru => ?_))
    obtain ⟨ta, rfl⟩ := ru
    obtain ⟨tb, rfl⟩ := rk
    show wpAny _ X.A.in1 (tryCatch (holding [Value.int a ta, Value.int a ta] (richCompare .Gt (.int a ta) (.int b tb) >>= _)) _ >>= _) _ _ _
    refine wpAny_bind (wpAny_tryCatch (wpAny_holding (wpAny_bind (show wpAny _ _ (compareOp .Gt (.int a ta) (.int b tb)) _ _ _ from gt_int ?_))))
    refine wpAny_bind (wpAny_holding (wpAny_truthy_bool ?_))
    refine wpAny_bind (wpAny_letGo (wpAny_pure ?_))
    obtain ⟨_, its2, n2, rv2, _, e2⟩ := I1.lstM hp
    by_cases c : b < a
    · rw [decide_eq_true c]
      simp only [if_true]
      refine wpAny_bind (wpAny_updateSeq e2 rfl (wpAny_bind (wpAny_letGo ?_)))
      rw [hname]
      have I2 := I1.lset (f := fun _ => #[.int a ta, .int a ta]) (t' := s1.toks) (its' := [.int a ta, .int a ta]) (ys := [.int a, .int a]) hp e2 rfl (.cons ⟨ta, rfl⟩ (.cons ⟨ta, rfl⟩ .nil)) (by show 2 ≤ sizeLine; decide)
      have hf2 := fp_upd (o := .lst [.int a, .int a]) hf ⟨_, hp⟩
      rw [upd_upd] at I2 hf2
      refine wpAny_pure ⟨plainId_quiet PySem.F.plain_max_loop _, ih (i + 1) a _ (by (first | lia | omega)) hi1 hxm (fun x hx => ?_) I2 ?_ hf2⟩
      · rw [htk] at hx
        rcases List.mem_append.mp hx with hx | hx
        · have := hle x hx
          (first | lia | omega)
        · rw [List.mem_singleton.mp hx]
          exact Int.le_refl _
      · obtain ⟨o, eo, _, back⟩ := iter_data st1
        exact back _ ((Heap.get?_update_other _ _ (ne_of_none hp hf.1)).trans eo)
    · rw [decide_eq_false c]
      simp only [Bool.false_eq_true, if_false]
      refine wpAny_bind (wpAny_letGo ?_)
      rw [hname]
      refine wpAny_pure ⟨plainId_quiet PySem.F.plain_max_loop _, ih (i + 1) b _ (by (first | lia | omega)) hi1 hb (fun x hx => ?_) I1 st1 hf⟩
      rw [htk] at hx
      rcases List.mem_append.mp hx with hx | hx
      · exact hle x hx
      · rw [List.mem_singleton.mp hx]
        (first | lia | omega)
/-- min(list of ints, default=d): the least, or d -/
def rMaxD (K : PySem.W.Frag) (x d : V) (H : Hp) (Q : VK) : Prop := ∃ (l : Addr) (ns : List Int), x = .ref l ∧ SqL K H l (ns.map V.int) ∧ ∀ p, H p = none → (∀ o, SqL K (upd H p o) l (ns.map V.int)) ∧ (ns = [] → Q d (upd H p (.lst []))) ∧ ∀ M, M ∈ ns → (∀ x ∈ ns, x ≤ M) → Q (.int M) (upd H p (.lst []))
theorem call_max_d {x d : V} {u : Value} (hc : X.calm = true) (hu : X.A.in1.units < cLine) (I : Inv X pins σ H s) (rx : RelV x u) (rd : RelV d ud) (h : rMaxD X.K x d H Q) :
    wpAny (model X.prog X.w) X.A (call (.builtin "max") [u] [(Str.ofString "default", ud)]) (EP X pins σ Q) X.xe s := by
  have hname : (toString "max" ++ toString ".loop" : String) = "max.loop" := by decide
  obtain ⟨l, ns, rfl, hq, alt⟩ := h
  cases rx
  obtain ⟨its, rv, pl, hz⟩ := I.list hq
  refine PyProof.Rows.kmk_tree PySem.F.kind_max PySem.F.plain_max PySem.F.entry_max (args_max_d _ _) ?_
  show wpAny _ X.A.in1 (Builtin.Builtins.bindParams "max" ["key", "default"] 0 ⟨[], [(Str.ofString "default", ud)]⟩ >>= _) _ _ s
  refine wpAny_bind (wpAny_of_eq (show Builtin.Builtins.bindParams "max" ["key", "default"] 0 ⟨[], [(Str.ofString "default", ud)]⟩ = pure [none, some ud] from rfl) ?_)
  refine wpAny_bind (wpAny_pure ?_)
  refine wpAny_bind (wpAny_pyIter_list pl.isList ?_)
  refine wpAny_bind (wpAny_newList ?_ (Nat.zero_le _))
  rw [hname]
  refine wpAny_pure ⟨plainId_quiet PySem.F.plain_max_loop _, ?_⟩
  have hS : (s.heap.push { cls := .type "list_iterator", data := .fields #[.ref l, .int 0 0] }).objs.size = s.heap.objs.size + 1 := size_push' ..
  have I0 : Inv (cxIn1 X) pins σ H { s with heap := s.heap.push { cls := .type "list_iterator", data := .fields #[.ref l, .int 0 0] }, toks := s.toks } := I.in1.kept fun b o e => Heap.get?_push_of_some _ e
  have I1 := I0.lnew (its := []) (t' := s.toks) .nil (Nat.zero_le _)
  have fr : H (s.heap.push { cls := .type "list_iterator", data := .fields #[.ref l, .int 0 0] }).objs.size = none := I0.fresh
  have ne : s.heap.objs.size ≠ (s.heap.push { cls := .type "list_iterator", data := .fields #[.ref l, .int 0 0] }).objs.size := by rw [hS]; exact Nat.ne_of_lt (Nat.lt_succ_self _)
  have hf : FpOk (cxIn1 X) pins (upd H (s.heap.push { cls := .type "list_iterator", data := .fields #[.ref l, .int 0 0] }).objs.size (.lst [])) s.heap.objs.size := I.in1.fpOk (Nat.le_refl _) (by rw [upd_ne ne]; exact I.fresh)
  have st : ((s.heap.push { cls := .type "list_iterator", data := .fields #[.ref l, .int 0 0] }).push { cls := .type "list", data := .seq ([] : List Value).toArray }).IsListIter s.heap.objs.size l 0 := ⟨_, Heap.get?_push_of_some _ (Heap.get?_push_size _ rfl), rfl, rfl⟩
  have hp0 : (upd H (s.heap.push { cls := .type "list_iterator", data := .fields #[.ref l, .int 0 0] }).objs.size (.lst [])) (s.heap.push { cls := .type "list_iterator", data := .fields #[.ref l, .int 0 0] }).objs.size = some (.lst []) := upd_same
  obtain ⟨_, its0, n0, rv0, _, e0⟩ := I1.lstM hp0
  cases rv0
  refine codeAny_builtin PySem.F.entry_max_loop ?_
  rw [Around.under_plainId PySem.F.plain_max_loop _]
  show wpAny _ X.A.in1 (seqItems? (.ref _) >>= _) _ _ _
  refine wpAny_bind (wpAny_seqItems e0 rfl ?_)
  show wpAny _ X.A.in1 (tryCatch (pyNext (.ref s.heap.objs.size)) _ >>= _) _ _ _
  obtain ⟨hq0, q0, q1⟩ := alt _ fr
  cases ns with
  | nil =>
    refine wpAny_bind (wpAny_tryCatch (min_end hc I1 st (hq0 _) (Nat.zero_le _) hf fun s1 I2 => ?_))
    refine wpAny_bind (wpAny_rule (wpAny_pure ?_))
    exact ⟨d, _, Inv.out1 I.ok I2, rd, q0 rfl⟩
  | cons a ns =>
    refine wpAny_bind (wpAny_tryCatch (min_item (x := .int a) I1 st (hq0 _) rfl hf fun u s1 I2 st1 ru => ?_))
    obtain ⟨_, its2, n2, rv2, _, e2⟩ := I2.lstM hp0
    show wpAny _ X.A.in1 (updateSeq _ (fun _ => #[u, u]) >>= _) _ _ _
    refine wpAny_bind (wpAny_updateSeq e2 rfl ?_)
    rw [hname]
    have I3 := I2.lset (f := fun _ => #[u, u]) (t' := s1.toks) (its' := [u, u]) (ys := [.int a, .int a]) hp0 e2 rfl (.cons ru (.cons ru .nil)) (by show 2 ≤ sizeLine; decide)
    have hf2 := fp_upd (o := .lst [.int a, .int a]) hf ⟨_, hp0⟩
    rw [upd_upd] at I3 hf2
    refine wpAny_pure ⟨plainId_quiet PySem.F.plain_max_loop _, max_loopI (ns := a :: ns) hc hu I.ok fr hq0 q1 _ 0 a _ rfl (Nat.zero_lt_succ _) (List.mem_cons_self ..) (fun x hx => ?_) I3 ?_ hf2⟩
    · rw [List.mem_singleton.mp hx]
      exact Int.le_refl _
    · obtain ⟨o, eo, _, back⟩ := iter_data st1
      exact back _ ((Heap.get?_update_other _ _ (ne_of_none hp0 hf.1)).trans eo)
end
section
variable {X : Cx} {e dx : Expr} {te td : TE} {p pos kp : Pos}
theorem pe_max_d (hu : X.A.units + 200 < cLine) (hc : X.calm = true) (hgm : Gl X (Str.ofString "max")) (hmm : X.mg (Str.ofString "max") = none) (pa : PA X [e] (tCons te tNil)) (hde : PE X dx td)
    (hst : backTo pos (starEach [e] X.env) = (false, eval e X.env) :: backTo pos (starEach [] X.env) := by rfl) (hpl : (backTo pos (starEach [e] X.env)).any (·.1) = false := by rfl) :
    PE X (.Call (.Name (Str.ofString "max") p) [e] [⟨some (Str.ofString "default"), dx, kp⟩] pos) (fun σ H Q => te σ H fun v H1 => td σ H1 fun d H2 => rMaxD X.K v d H2 Q) := by
  intro pins s σ H Q I h
  refine wpAny_Call_Name_kw (ld_blt I hgm hmm bt_max ?_)
  refine callWith_kw (thn (pa pos pins s σ H (fun vs H1 => match vs with | [v] => td σ H1 fun d H2 => rMaxD X.K v d H2 Q | _ => False) I h) fun us s1 ⟨vs, H1, I1, r, q⟩ => ?_) hst hpl
  match vs, r, q with
  | [v], r, q =>
    obtain ⟨u, rfl, ru⟩ := r.one
    have pk : PK X [⟨some (Str.ofString "default"), dx, kp⟩] (tCons td tNil) := pk_cons hde pk_nil
    refine thn (pk pos pins s1 σ H1 (fun zs H2 => match zs with | [d] => rMaxD X.K v d H2 Q | _ => False) I1 q) fun ws s2 ⟨zs, H2, I2, rz, q2⟩ => ?_
    match zs, rz, q2 with
    | [d], rz, q2 =>
      obtain ⟨ud, rfl, rd⟩ := vals1 rz
      exact call_max_d hc (by show X.A.units + 1 < cLine; (first | lia | omega)) I2 ru rd q2
end
end L2

/-! list.count(True), list.index(True) of a list of truths -/
namespace L2
open PySem PySem.Spec PyProof.Rows PySem.W
end L2

/-! len(set(l)) of texts: how many unlike ones -/
namespace L2
open PySem PySem.Spec PyProof.Rows PySem.W Srd Sts Stg
end L2

/-! == and != of two things: both read as data, or both plain -/
namespace L2
open PySem PySem.Spec PyProof.Rows PySem.W
end L2

/-! for k, v in d.items() of a dict of the module (nothing is known of its keys' hashes) -/
namespace L2
open PySem PySem.Spec PyProof.Rows
section
variable {prog : Program} {w : World} {A : Around} {E : Value → Shared → Prop} {s : Shared}
theorem items_viewR {d : Addr} {o : Obj} (hd : (d == sysModules) = false) (ho : s.heap.get? d = some o) (hc : o.cls = .type "dict") {Q : Value → Shared → Prop}
    (q : Q (.ref s.heap.objs.size) { s with heap := s.heap.push { cls := .type "dict_items", data := .fields #[.ref d] } }) {pos : Pos} : wpAny (model prog w) A (callWith pos (.builtin "dict.items") [.ref d] [] []) Q E s := by
  have hT : s.TypeIs (.ref d) "dict" := ⟨o, ho, hc⟩
  refine Calls.callWith_builtin rfl (PySem.evalArgs_none ?_)
  refine wpAny_call_entry F.slot_dict_items hT F.entry_dict_items ?_ (F.args_dict_items_1 _)
  unfold Builtin.«dict.items»
  refine wpAny_bind ?_
  unfold Builtin.Dict.noArgs
  refine wpAny_bind (wpAny_notOrdered_dict hT ?_)
  show wpAny _ _ (pure d) _ _ s
  refine wpAny_pure ?_
  show wpAny _ _ (Builtin.Dict.showsAll d >>= _) _ _ s
  unfold Builtin.Dict.showsAll
  rw [if_neg (by rw [hd]; exact Bool.false_ne_true)]
  refine wpAny_bind (wpAny_pure ?_)
  exact wpAny_bind (wpAny_newObj_type (wpAny_pure ⟨_, rfl, q⟩))
theorem items_iterR {v d : Addr} {o : Obj} {es : Array DictEntry} {ep : Nat} {Q : Value → Shared → Prop} (hv : s.heap.IsItemsView v d) (ho : s.heap.get? d = some o) (hdat : o.data = .dict es ep)
    (hQ : Q (.ref s.heap.objs.size) { s with heap := s.heap.push { cls := .type "dict_itemiterator", data := .fields #[.none, .bool false, .ref d, .int 0 0, .int es.size 0, .int ep 0, .none, .none] } }) :
    wpAny (model prog w) A (pyIter (.ref v)) Q E s := by
  obtain ⟨ov, hov, hcv, hdv⟩ := id hv
  refine wpAny_pyIter_slot hv.typeIs F.slot_dict_items_iter (wpAny_call_entry F.slot_dict_items_iter hv.typeIs F.entry_dict_items_iter ?_ (F.args_dict_items_iter_1 _))
  unfold Builtin.«dict_items.__iter__»
  refine wpAny_bind (wpAny_pure (wpAny_bind ?_))
  unfold Builtin.Dict_items.dictOf
  refine wpAny_bind (wpAny_field hov hdv (x := .ref d) rfl (wpAny_pure (wpAny_bind ?_)))
  unfold Builtin.Dict_items.newIterator
  refine wpAny_bind (wpAny_dictEntries ho hdat (wpAny_bind (wpAny_dictEpoch ho hdat ?_)))
  have hown : Builtin.Dict_items.ownsTuple "dict_itemiterator" = true := by decide
  simp only [hown, if_true]
  refine wpAny_newObj_type (wpAny_pure ⟨_, rfl, "dict_itemiterator", _, ⟨_, Heap.get?_push_size _ rfl, rfl⟩, F.slot_dict_itemiterator_next.lookup, ?_⟩)
    (by simp only [sizeOk, Builtin.Dict_items.ownedTupleFields, List.size_toArray, List.length_append, List.length_cons, List.length_nil, sizeLine_eq]; (first | lia | omega))
  simpa [rawInt, Builtin.Dict_items.ownedTupleFields] using hQ
set_option maxHeartbeats 1000000 in
theorem items_nextR {it d : Addr} {od : Obj} {es : Array DictEntry} {i ep : Nat} {ok ov : Value} {Q : Option Value → Shared → Prop} (hit : IsItemIter s.heap it d i es.size ep ok ov) (hod : s.heap.get? d = some od) (hdd : od.data = .dict es ep) (hlt' : i < es.size)
    (hQ : ∀ h', IsItemIterOut h' it d (i + 1) es.size ep es[i].key es[i].val s.heap.objs.size → h'.get? s.heap.objs.size = some { cls := .type "tuple", data := .seq #[es[i].key, es[i].val] } → h'.objs.size = s.heap.objs.size + 1 →
      (∀ b o, b ≠ it → s.heap.get? b = some o → h'.get? b = some o) → Q (some (.ref s.heap.objs.size)) { s with heap := h' }) :
    wpAny (model prog w) A (pyNext (.ref it)) Q E s := by
  obtain ⟨hp, g, dr, tk, os⟩ := s
  have hT : Shared.TypeIs ⟨hp, g, dr, tk, os⟩ (.ref it) "dict_itemiterator" := ⟨_, hit, rfl⟩
  unfold pyNext
  refine wpAny_bind (wpAny_attempt (wpAny_callSpecial?_slot (name := Str.ofString "__next__") hT F.slot_dict_itemiterator_next (wpAny_call_entry F.slot_dict_itemiterator_next hT F.entry_dict_itemiterator_next ?_ (F.args_dict_itemiterator_next_1 _))))
  refine wpAny_bind (wpAny_pure (wpAny_bind (wpAny_bind ?_)))
  first | refine wpAny_bind (wpAny_typeNameOfWhole_itemiter hT (wpAny_pure ?_)) | refine wpAny_bind (wpAny_typeNameOf_itemiter hT (wpAny_pure ?_))
  refine wpAny_bind (wpAny_fieldsOf hit rfl ?_)
  have hown : Builtin.Dict_items.ownsTuple "dict_itemiterator" = true := by decide
  simp only [hown, if_true]
  show wpAny _ _ (if (Value.ref d == Value.none) = true then _ else _) _ _ _
  rw [if_neg (show ¬ ((Value.ref d == Value.none) = true) from Bool.false_ne_true)]
  refine wpAny_bind (wpAny_pure (wpAny_bind (wpAny_dictEntries hod hdd ?_)))
  rw [if_neg (by simp)]
  refine wpAny_bind (wpAny_pure (wpAny_bind (wpAny_dictEpoch hod hdd ?_)))
  rw [if_neg (by simp)]
  refine wpAny_pure ?_
  simp only [show ¬ ((i : Int) < 0) from by (first | lia | omega), if_false, Int.toNat_natCast, Array.getElem?_eq_getElem hlt']
  refine wpAny_bind ?_
  first | refine wpAny_bind (wpAny_typeNameOfWhole_itemiter hT (wpAny_pure ?_)) | refine wpAny_bind (wpAny_typeNameOf_itemiter hT (wpAny_pure ?_))
  refine wpAny_bind (wpAny_isOneOf_itemiter hT ?_)
  show wpAny _ _ (setField (.ref it) 3 (rawInt ((i : Int) + 1)) >>= _) _ _ ⟨hp, g, dr, tk, os⟩
  refine wpAny_bind (wpAny_setField_rec hit (by simp) fun h₁ he₁ hs₁ => ?_)
  replace hs₁ : Heap.SameBut it hp h₁ := hs₁
  replace he₁ : IsItemIter h₁ it d (i + 1) es.size ep ok ov := by
    have e : ((i + 1 : Nat) : Int) = (i : Int) + 1 := by (first | lia | omega)
    unfold IsItemIter; rw [e]; simpa [rawInt] using he₁
  have hT₁ : Shared.TypeIs ⟨h₁, g, dr, tk, os⟩ (.ref it) "dict_itemiterator" := ⟨_, he₁, rfl⟩
  refine wpAny_bind (wpAny_holding (wpAny_bind (wpAny_isOneOf_itemiter hT₁ (wpAny_bind (wpAny_isOneOf_itemiter hT₁ ?_)))))
  show wpAny _ _ (Builtin.Dict_items.pairFromOwner (.ref it) 6 es[i].key es[i].val) _ _ ⟨h₁, g, dr, tk, os⟩
  unfold Builtin.Dict_items.pairFromOwner
  refine wpAny_bind (wpAny_newTuple ?_)
  have he₂ : IsItemIter (h₁.push { cls := .type "tuple", data := .seq #[es[i].key, es[i].val] }) it d (i + 1) es.size ep ok ov := Heap.get?_push_of_some _ he₁
  generalize hh₂ : h₁.push { cls := .type "tuple", data := .seq #[es[i].key, es[i].val] } = h₂ at he₂
  have hz₁ : h₁.objs.size = hp.objs.size := hs₁.1
  have hil : it < hp.objs.size := Heap.lt_size hit
  have ht₂ : h₂.get? hp.objs.size = some { cls := .type "tuple", data := .seq #[es[i].key, es[i].val] } := by rw [← hh₂, ← hz₁]; exact Heap.get?_push_size _ rfl
  have hz₂ : h₂.objs.size = hp.objs.size + 1 := by rw [← hh₂, Heap.size_push, hz₁]
  have hk₂ : ∀ b o, b ≠ it → hp.get? b = some o → h₂.get? b = some o := fun b o hb e => by rw [← hh₂]; exact Heap.get?_push_of_some _ (hs₁.extBut b o hb e)
  show wpAny _ _ (Builtin.Dict_items.ownedTupleIsFree (.ref it) >>= _) _ _ ⟨h₂, g, dr, tk, os⟩
  rw [hz₁]
  clear hh₂ he₁ hs₁ hT₁ hz₁ h₁
  refine wpAny_bind ?_
  unfold Builtin.Dict_items.ownedTupleIsFree
  refine wpAny_bind (wpAny_field he₂ rfl (x := .none) rfl (wpAny_pure ?_))
  simp only [if_true]
  refine wpAny_bind (wpAny_field he₂ rfl (x := ok) rfl (wpAny_bind (wpAny_field he₂ rfl (x := ov) rfl ?_)))
  refine wpAny_bind (wpAny_setField_rec he₂ (by simp) fun h₃ he₃ hs₃ => ?_)
  replace hs₃ : Heap.SameBut it h₂ h₃ := hs₃
  replace he₃ : IsItemIter h₃ it d (i + 1) es.size ep es[i].key ov := he₃
  refine wpAny_bind (wpAny_setField_rec he₃ (by simp) fun h₄ he₄ hs₄ => ?_)
  replace hs₄ : Heap.SameBut it h₃ h₄ := hs₄
  replace he₄ : IsItemIter h₄ it d (i + 1) es.size ep es[i].key es[i].val := he₄
  refine wpAny_bind (wpAny_setField_rec he₄ (by simp) fun h₅ he₅ hs₅ => ?_)
  replace hs₅ : Heap.SameBut it h₄ h₅ := hs₅
  replace he₅ : IsItemIterOut h₅ it d (i + 1) es.size ep es[i].key es[i].val hp.objs.size := he₅
  refine wpAny_bind (wpAny_setField_rec he₅ (by simp) fun h₆ he₆ hs₆ => ?_)
  replace hs₆ : Heap.SameBut it h₅ h₆ := hs₆
  replace he₆ : IsItemIterOut h₆ it d (i + 1) es.size ep es[i].key es[i].val hp.objs.size := he₆
  refine wpAny_bind (wpAny_letGo (wpAny_pure (wpAny_pure ⟨_, rfl, wpAny_pure (hQ h₆ he₆ ?_ ?_ ?_)⟩)))
  · exact hs₆.extBut _ _ (Nat.ne_of_gt hil) (hs₅.extBut _ _ (Nat.ne_of_gt hil) (hs₄.extBut _ _ (Nat.ne_of_gt hil) (hs₃.extBut _ _ (Nat.ne_of_gt hil) ht₂)))
  · show h₆.objs.size = hp.objs.size + 1
    rw [hs₆.1, hs₅.1, hs₄.1, hs₃.1, hz₂]
  · exact fun b o hb e => hs₆.extBut b o hb (hs₅.extBut b o hb (hs₄.extBut b o hb (hs₃.extBut b o hb (hk₂ b o hb e))))
set_option maxHeartbeats 1000000 in
theorem items_endR {it d : Addr} {od : Obj} {es : Array DictEntry} {i ep : Nat} {ok ov : Value} {Q : Option Value → Shared → Prop} (hh : A.handled = none) (hit : IsItemIter s.heap it d i es.size ep ok ov) (hod : s.heap.get? d = some od) (hdd : od.data = .dict es ep) (hge : es.size ≤ i)
    (hQ : ∀ h', Heap.ExtBut it s.heap h' → Q none { s with heap := h' }) : wpAny (model prog w) A (pyNext (.ref it)) Q E s := by
  have hT : s.TypeIs (.ref it) "dict_itemiterator" := ⟨_, hit, rfl⟩
  unfold pyNext
  refine wpAny_bind (wpAny_attempt (wpAny_callSpecial?_slot (name := Str.ofString "__next__") hT F.slot_dict_itemiterator_next (wpAny_call_entry F.slot_dict_itemiterator_next hT F.entry_dict_itemiterator_next ?_ (F.args_dict_itemiterator_next_1 _))))
  refine wpAny_bind (wpAny_pure (wpAny_bind (wpAny_bind ?_)))
  first | refine wpAny_bind (wpAny_typeNameOfWhole_itemiter hT (wpAny_pure ?_)) | refine wpAny_bind (wpAny_typeNameOf_itemiter hT (wpAny_pure ?_))
  refine wpAny_bind (wpAny_fieldsOf hit rfl ?_)
  have hown : Builtin.Dict_items.ownsTuple "dict_itemiterator" = true := by decide
  simp only [hown, if_true]
  show wpAny _ _ (if (Value.ref d == Value.none) = true then _ else _) _ _ s
  rw [if_neg (show ¬ ((Value.ref d == Value.none) = true) from Bool.false_ne_true)]
  refine wpAny_bind (wpAny_pure (wpAny_bind (wpAny_dictEntries hod hdd ?_)))
  rw [if_neg (by simp)]
  refine wpAny_bind (wpAny_pure (wpAny_bind (wpAny_dictEpoch hod hdd ?_)))
  rw [if_neg (by simp)]
  refine wpAny_pure ?_
  simp only [show ¬ ((i : Int) < 0) from by (first | lia | omega), if_false, Int.toNat_natCast, Array.getElem?_eq_none hge]
  refine wpAny_bind ?_
  first | refine wpAny_bind (wpAny_typeNameOfWhole_itemiter hT (wpAny_pure ?_)) | refine wpAny_bind (wpAny_typeNameOf_itemiter hT (wpAny_pure ?_))
  show wpAny _ _ (setField (.ref it) 2 .none >>= _) _ _ s
  refine wpAny_bind (wpAny_setField hit rfl (by simp) ?_)
  show wpAny _ _ (newExc (.type "StopIteration") [] >>= _) _ _ _
  refine wpAny_bind ?_
  simp only [newExc, newTuple]
  refine wpAny_bind (wpAny_newObj_type ?_ (by size_fits))
  refine wpAny_bind (m := firstArgMember _ _) (wpAny_of_eq (a := Value.none) (by first | rfl | (simp only [firstArgMember]; rfl)) ?_)
  refine wpAny_newObj_type ?_ (by size_fits)
  simp only [raiseNew]
  refine wpAny_bind (wpAny_handled ?_)
  rw [show A.in1.handled = none from hh]
  refine wpAny_bind (wpAny_pure (wpAny_throw ?_))
  refine wpAny_bind (wpAny_isInstance (T := "StopIteration") (b := true) ⟨_, Heap.get?_push_size _ rfl, rfl⟩ isSubtype_stop ?_)
  exact wpAny_pure (hQ _ (((Heap.SameBut.update ..).extBut.push _).push _))
end
theorem RowsV.length {es : List DictEntry} {D : List (Str × V)} (h : RowsV es D) : es.length = D.length := by
  induction h with
  | nil => rfl
  | cons _ _ _ ih => rw [List.length_cons, List.length_cons, ih]
theorem RowsV.get {es : List DictEntry} {D : List (Str × V)} (h : RowsV es D) : ∀ (i : Nat) (e : DictEntry), es[i]? = some e → ∃ k t v, D[i]? = some (k, v) ∧ e.key = .str k t ∧ RelV v e.val := by
  induction h with
  | nil => intro i e h; cases i <;> cases h
  | @cons e x t v es D hk hv _ ih =>
    intro i e' h
    cases i with
    | zero =>
      cases h
      exact ⟨x, t, v, rfl, hk, hv⟩
    | succ i => exact ih i e' h
/-- the pairs of a dict of the module, one by one -/
def Itk (D : List (Str × V)) : It :=
  ⟨fun i _ => i < D.length, fun i H x H' => ∃ p k v, H p = none ∧ x = .ref p ∧ D[i]? = some (k, v) ∧ H' = upd H p (.tup [.str k, v]), fun i _ => D.length ≤ i⟩
theorem turn_items {P : Program} {w : World} {K : PySem.W.Frag} {elts : List Expr} {x1} {tp : Pos} {A it : Addr} {es : Array DictEntry} {ep : Nat} {sl : Array (Option Value)} {D : List (Str × V)} (hlk : K.lookup A = some ⟨.type "dict", none, .dict es ep, sl⟩) (hr : RowsV es.toList D) :
    Turn P w K (.Tuple elts x1 tp) (Itk D) [it] it (fun i h => ∃ ok ov, IsItemIter h it A i es.size ep ok ov) where
  mem := by simp
  obj := fun i h st b hb => by
    obtain ⟨ok, ov, he⟩ := st
    obtain rfl := List.mem_singleton.mp hb
    exact ⟨_, he, fun v z => by cases z⟩
  keep := fun i h h' st k => by
    obtain ⟨ok, ov, he⟩ := st
    exact ⟨ok, ov, k it (by simp) _ he⟩
  item := by
    intro X hP hw hK hc i pins s σ H E I hf st hg
    subst hP hw hK
    obtain ⟨ok, ov, he⟩ := st
    have hod := I.kIn A _ hlk
    have hlen := hr.length
    rw [Array.length_toList] at hlen
    have hlt : i < es.size := by rw [hlen]; exact hg
    obtain ⟨k, t, v, hD, hkey, hval⟩ := hr.get i es[i] (by simp [hlt])
    have fe := hf it (by simp)
    refine items_nextR he hod rfl hlt fun h1 he1 ht1 hz1 hk1 => ⟨_, rfl, wpAny_letOwnedTupleGo_items he1 fun h2 he2 hs2 => ?_⟩
    have hfresh : H s.heap.objs.size = none := I.hok.fresh (Nat.le_refl _)
    have nee : s.heap.objs.size ≠ it := Nat.ne_of_gt (Heap.lt_size he)
    have kp : ∀ b o, b ∉ [it] → s.heap.get? b = some o → h2.get? b = some o := fun b o hb q => by
      have b1 : b ≠ it := fun z => hb (by rw [z]; simp)
      exact (hs2.2 b b1).trans (hk1 b o b1 q)
    have hp2 : h2.get? s.heap.objs.size = some { cls := .type "tuple", data := .seq #[es[i].key, es[i].val] } := (hs2.2 _ nee).trans ht1
    have nb : ∀ b o, s.heap.get? b = some o → b ≠ s.heap.objs.size := fun b o q => Nat.ne_of_lt (Heap.lt_size q)
    have tracked : ∀ b o, H b = some o → b ∉ [it] := fun b o q hb => by
      obtain rfl := List.mem_singleton.mp hb
      rw [fe.1] at q
      cases q
    have hok2 : HOk X.prog X.w (upd H s.heap.objs.size (.tup [.str k, v])) h2 := fun b o q => by
      by_cases hb : b = s.heap.objs.size
      · subst hb
        rw [upd_same] at q
        cases q
        exact ⟨by show 2 ≤ sizeLine; decide, [es[i].key, es[i].val], .cons ⟨t, hkey⟩ (.cons hval .nil), _, hp2, rfl, _, rfl⟩
      · rw [upd_ne hb] at q
        refine (I.hok b o q).stay (fun c v hcv r => kp c v ?_ r) (fun c r => by rw [upd_ne (ne_of_none r hfresh)]; exact r) fun c ys r => by rw [upd_ne (ne_of_none r hfresh)]; exact r
        rcases hcv with rfl | hcv
        · exact tracked _ _ q
        · exact tracked _ _ hcv
    have I2 : Inv X pins σ (upd H s.heap.objs.size (.tup [.str k, v])) { s with heap := h2, gens := s.gens, drawn := s.drawn, toks := s.toks } := by
      refine I.step (ch := [it]) (fun b hb => ?_) (fun b o _ _ hb q _ => kp b o hb q) (fun b o _ _ hb q _ => ⟨o.slots, kp b o hb q⟩) (fun b o _ q n => by rw [upd_ne (nb b o q)]; exact n) (fun b o hb q => ⟨o, kp b o hb q⟩)
        (fun b ys q => by rw [upd_ne (ne_of_none q hfresh)]; exact q) (fun b o ys q => by rw [upd_ne (ne_of_none q hfresh)]; exact q) (fun b ps q => ⟨#[], by rw [upd_ne (ne_of_none q hfresh), q]; simp⟩) (fun m hm => ?_) hok2 I.bare
      · have f : FpOk X pins H b := hf b hb
        exact ⟨f.2.2.2.1, f.2.1, f.2.2.2.2.1, f.2.2.2.2.2⟩
      · obtain ⟨o, es', ep', ho, r⟩ := hm
        refine ⟨o, es', ep', kp _ o (fun hb => ?_) ho, r⟩
        exact (hf _ hb).2.1 rfl
    refine ⟨.ref s.heap.objs.size, _, I2, rfl, ⟨_, k, v, hfresh, rfl, hD, rfl⟩, ⟨_, _, he2⟩, fun b hb => ?_⟩
    obtain rfl := List.mem_singleton.mp hb
    rw [upd_ne nee.symm]
    exact fe.1
  done := by
    intro X hP hw hK hc i pins s σ H E I hf st hg
    subst hP hw hK
    obtain ⟨ok, ov, he⟩ := st
    have hod := I.kIn A _ hlk
    have hlen := hr.length
    rw [Array.length_toList] at hlen
    obtain ⟨f0, f1, f2, f3, f4, f5⟩ := hf it (by simp)
    exact items_endR (I.ok.hd hc) he hod rfl (by rw [hlen]; exact hg) fun h' eb => ⟨rfl, I.turned (t' := s.toks) (fun b o hb q => eb b o hb q) f0 f1 f3 f4 f5⟩
  self := fun _ _ _ _ _ st h => by
    obtain ⟨ok, ov, he⟩ := st
    exact PySem.W.kcp_self he h
section
variable {X : Cx} {elts : List Expr} {x1 : Nat} {tp : Pos}
def iItems (K : PySem.W.Frag) (to : TE) : TI := fun σ H R => to σ H fun x H1 => ∃ A D, x = .ref A ∧ KTab K A D ∧ (A == sysModules) = false ∧ R (Itk D) H1
theorem pi_items {o : Expr} {to : TE} {apos pos : Pos} (ho : PE X o to) (hbase : attributeBase o "items" X.env (eval o X.env) = eval o X.env := by rfl) (hline : (apos.endLine == pos.line) = true := by rfl) :
    PI X (.Tuple elts x1 tp) (.Call (.Attribute o "items" apos) [] [] pos) (iItems X.K to) := by
  intro pins s σ H R I h
  refine wpAny_Call_method0_late hbase hline (thn (ho pins s σ H _ I h) fun v s1 ⟨x, H1, I1, r1, A, D, ex, hK, hA, q⟩ => ?_)
  subst ex
  obtain rfl : v = Value.ref A := r1
  obtain ⟨es, ep, sl, hlk, hr⟩ := hK
  have hod := I1.kIn A _ hlk
  refine ⟨"dict", "dict.items", F.plainAttrs_dict, F.slot_dict_items, F.type_dict_items, ⟨_, hod, rfl⟩, fun a e => by cases e; exact ⟨_, hod, rfl⟩, items_viewR hA hod rfl ?_⟩
  have hk1 : ∀ b o, s1.heap.get? b = some o → (s1.heap.push { cls := .type "dict_items", data := .fields #[.ref A] }).get? b = some o := fun b o e => Heap.get?_push_of_some _ e
  refine items_iterR (es := es) (ep := ep) ⟨_, Heap.get?_push_size _ rfl, rfl, rfl⟩ (hk1 A _ hod) rfl ?_
  have hk2 : ∀ b o, s1.heap.get? b = some o → ((s1.heap.push { cls := .type "dict_items", data := .fields #[.ref A] }).push { cls := .type "dict_itemiterator", data := .fields #[.none, .bool false, .ref A, .int 0 0, .int es.size 0, .int ep 0, .none, .none] }).get? b = some o := fun b o e => Heap.get?_push_of_some _ (hk1 b o e)
  refine ⟨(s1.heap.push { cls := .type "dict_items", data := .fields #[.ref A] }).objs.size, [(s1.heap.push { cls := .type "dict_items", data := .fields #[.ref A] }).objs.size], _, _, H1, rfl, I1.kept (t' := s1.toks) hk2, turn_items hlk hr, ⟨_, _, Heap.get?_push_size _ rfl⟩, fun b hb => ?_, q⟩
  have hb' : s1.heap.objs.size ≤ b := by
    rw [List.mem_singleton.mp hb, Heap.size_push]
    exact Nat.le_succ _
  exact I1.fpOk hb' (I1.hok.fresh hb')
end
theorem for_items {D' : List (Str × V)} {g : TG} {tb : TS} {D : Ends} {σ : St} {H : Hp} (Pv : Nat → St → Hp → Prop) (h0 : Pv 0 σ H)
    (hs : ∀ i k v p σ H, D'[i]? = some (k, v) → Pv i σ H → H p = none → g (.ref p) σ (upd H p (.tup [.str k, v])) fun σ2 H2 => tb { D with nx := Pv (i + 1), ct := Pv (i + 1), bk := D.nx } σ2 H2) (hd : ∀ σ H, Pv D'.length σ H → D.nx σ H) :
    ∃ W : Nat → Nat → St → Hp → Prop, (∃ m, W 0 m σ H) ∧ ∀ i m σ H, W i m σ H →
      ((Itk D').stop i H ∧ D.nx σ H) ∨ ((Itk D').go i H ∧ ∃ N : St → Hp → Prop, (∀ σ' H', N σ' H' → ∃ m', m' < m ∧ W (i + 1) m' σ' H') ∧ ∀ x H', (Itk D').yld i H x H' → g x σ H' fun σ2 H2 => tb { D with nx := N, ct := N, bk := D.nx } σ2 H2) := by
  refine ⟨fun i m σ H => m = D'.length - i ∧ i ≤ D'.length ∧ Pv i σ H, ⟨D'.length, by simp, Nat.zero_le _, h0⟩, ?_⟩
  rintro i m σ H ⟨rfl, hi, p⟩
  by_cases hlt : i < D'.length
  · refine .inr ⟨hlt, Pv (i + 1), fun σ' H' p' => ⟨D'.length - (i + 1), by (first | lia | omega), rfl, hlt, p'⟩, fun x H' y => ?_⟩
    obtain ⟨b, k, v, hb, hx, hy, hH⟩ := y
    subst hx hH
    exact hs i k v b σ H hy p hb
  · have e : i = D'.length := by (first | lia | omega)
    subst e
    exact .inl ⟨Nat.le_refl _, hd σ H p⟩
end L2

/-! dict(tuple of pairs) -/
namespace Srd
open PySem PyProof.Rows
theorem lk_tuple_keys : typeLookup (.type "tuple") "keys" = pure none := by rw [typeLookup_type, builtinLookup_eq_fast]; kernel_rfl
section
variable {prog : Program} {w : World} {A : Around} {E : Value → Shared → Prop} {h : Heap} {g : Array GenState} {d : Drawn} {t : Nat} {os : OsState} {a : Addr}
theorem miss_entry_tuple {tk : Tok} {Q : Fin → Shared → Prop} {its : Array Value} {n : Nat} {sl : Array (Option Value)} (hh : A.handled = none) (hx : h.get? a = some { cls := .type "tuple", dict := none, data := .seq its n, slots := sl }) (hq : ∀ (x : Addr) (h' : Heap) (tk : Nat), (∀ b u, h.get? b = some u → h'.get? b = some u) → (∃ ob, h'.get? x = some ob ∧ ob.cls = .type "AttributeError") → h.objs.size ≤ h'.objs.size → E (.ref x) ⟨h', g, d, tk, os⟩) :
    wpAny (model prog w) A (Builtin.«object.__getattribute__» ⟨[.ref a, .str "keys" tk], []⟩) Q E ⟨h, g, d, t, os⟩ := by
  have hT : (⟨h, g, d, t, os⟩ : Shared).TypeIs (.ref a) "tuple" := ⟨_, hx, rfl⟩
  have f4 := lk_tuple_keys
  repeat (any_goals (first | assumption | with_reducible apply raise_attr hh | wp_step))
  decide +kernel
theorem lk_tuple_getattr : typeLookup (.type "tuple") "__getattr__" = pure none := by rw [typeLookup_type, builtinLookup_eq_fast]; kernel_rfl
theorem miss_call_tuple {tk : Tok} {R : Result → Shared → Prop} {its : Array Value} {n : Nat} {sl : Array (Option Value)} (hh : A.handled = none) (hx : h.get? a = some { cls := .type "tuple", dict := none, data := .seq its n, slots := sl }) (hq : ∀ (x : Addr) (h' : Heap) (tk : Nat), (∀ b u, h.get? b = some u → h'.get? b = some u) → (∃ ob, h'.get? x = some ob ∧ ob.cls = .type "AttributeError") → h.objs.size ≤ h'.objs.size → R (.error (.ref x)) ⟨h', g, d, tk, os⟩) :
    codeAny (model prog w) A (.call (.builtin "tuple.__getattribute__") ⟨[.ref a, .str "keys" tk], []⟩) R ⟨h, g, d, t, os⟩ :=
  codeAny_call_builtin F.slot_tuple_getattribute.plain F.entry_tuple_ga (F.slot_tuple_getattribute.check _ _ _ _ _ _ _ _ (show (⟨h, g, d, t, os⟩ : Shared).TypeIs (.ref a) "tuple" from ⟨_, hx, rfl⟩) (F.args_tuple_getattribute_2 _ _) (miss_entry_tuple hh hx hq))
theorem miss_by_tuple {tk : Tok} {Q : Value → Shared → Prop} {its : Array Value} {n : Nat} {sl : Array (Option Value)} (hh : A.handled = none) (hx : h.get? a = some { cls := .type "tuple", dict := none, data := .seq its n, slots := sl }) (hq : ∀ (x : Addr) (h' : Heap) (tk : Nat), (∀ b u, h.get? b = some u → h'.get? b = some u) → (∃ ob, h'.get? x = some ob ∧ ob.cls = .type "AttributeError") → h.objs.size ≤ h'.objs.size → E (.ref x) ⟨h', g, d, tk, os⟩) :
    wpAny (model prog w) A (getAttrBy (.ref a) (.str "keys" tk) false) Q E ⟨h, g, d, t, os⟩ := by
  have hT : (⟨h, g, d, t, os⟩ : Shared).TypeIs (.ref a) "tuple" := ⟨_, hx, rfl⟩
  have f2 := F.slot_tuple_getattribute.lookup
  have f3 := F.slot_tuple_getattribute.bind (.ref a)
  have f4 := lk_tuple_getattr
  repeat (any_goals (first | assumption | wp_step))
  refine miss_call_tuple hh hx fun x h' tk' k1 k2 k3 => ?_
  obtain ⟨ob, e2, c2⟩ := k2
  dsimp only
  unfold getattributeRaised
  refine wpAny_bind (wpAny_isInstance (T := "AttributeError") (b := true) ⟨ob, e2, c2⟩ isSubtype_attr ?_)
  rw [if_pos rfl]
  unfold hookBehind
  rw [if_neg (by decide)]
  refine wpAny_bind (wpAny_of_eq f4 ?_)
  unfold hookOrError attributeErrorLeaves
  dsimp only
  rw [if_pos (by decide)]
  exact wpAny_bind (wpAny_throw (hq x h' tk' k1 ⟨ob, e2, c2⟩ k3))
theorem miss_attr_tuple {Q : Option Value → Shared → Prop} {its : Array Value} {n : Nat} {sl : Array (Option Value)} (hh : A.handled = none) (hx : h.get? a = some { cls := .type "tuple", dict := none, data := .seq its n, slots := sl }) (hq : ∀ (h' : Heap) (tk : Nat), (∀ b u, h.get? b = some u → h'.get? b = some u) → h.objs.size ≤ h'.objs.size → Q none ⟨h', g, d, tk, os⟩) :
    wpAny (model prog w) A (getAttr? (.ref a) "keys") Q E ⟨h, g, d, t, os⟩ := by
  unfold getAttr? getAttrBy?
  repeat (any_goals (first | assumption | with_reducible apply miss_by_tuple hh hx | wp_step))
  intro x h' tk' k1 k2 k3
  obtain ⟨ob, e2, c2⟩ := k2
  dsimp only
  refine wpAny_bind (wpAny_isInstance (T := "AttributeError") (b := true) ⟨ob, e2, c2⟩ isSubtype_attr ?_)
  rw [if_pos rfl]
  exact wpAny_pure (hq h' tk' k1 k3)
end
section
variable {prog : Program} {w : World} {K : Type} [DecidableEq K] {knd : KeyKind prog w K} {A : Around} {E : Value → Shared → Prop} {R : Result → Shared → Prop}
set_option maxHeartbeats 1000000 in
theorem dict_loopU {h0 : Heap} {D I l : Addr} {items : Array Value} {ps : List (K × Value)} (hh : A.in1.handled = none) (ht : PairsAt knd h0 D items ps) (hDI : D < I) (hlI : l ≠ I) (hn : items.size ≤ 100000) : ∀ (k i : Nat) (j : Int) (jt : Tok) (s : Shared), items.size - i = k → i ≤ items.size → (s.heap.IsTupleIter I l i ∧ s.heap.IsTuple l items) → l < D → s.heap.DictOf knd D (merged [] (ps.take i)) → (∀ b o, b < D → h0.get? b = some o → s.heap.get? b = some o) →
      (∀ h' tk, h'.DictOf knd D (merged [] ps) → (∀ b o, b < D → h0.get? b = some o → h'.get? b = some o) → R (.ok (.ret .none)) { s with heap := h', toks := tk }) → codeAny (model prog w) A (.builtin "dict.update.loop" ⟨[.ref D, .ref I, .int j jt, .none], []⟩) R s := by
  have W := Walks.tuple (prog := prog) (w := w) (A := A.in1) hh I l hlI items
  have DK : ∀ {h h' : Heap} {kvs : List (K × Value)}, h.DictOf knd D kvs → (∀ b o, b ≤ D → h.get? b = some o → h'.get? b = some o) → h'.DictOf knd D kvs := fun {h h' kvs} ⟨o, es, ep, ho, r⟩ hk => ⟨o, es, ep, hk D o (Nat.le_refl _) ho, r⟩
  intro k
  induction k with
  | zero =>
    intro i j jt s hk hi hst hlD hd hb hR
    obtain rfl : i = items.size := by (first | lia | omega)
    refine codeAny_builtin entry_dict_update_loop ?_
    rw [Around.under_plainId plain_dict_update_loop _]
    change wpAny _ A.in1 (pyNext (.ref I) >>= _) _ _ s
    refine wpAny_bind (W.done s _ _ hst fun h' tk hm => ?_)
    change wpAny _ A.in1 (Builtin.Dict.addKeywords D [] >>= fun _ => ret Value.none) _ _ _
    refine wpAny_bind ?_
    unfold Builtin.Dict.addKeywords
    refine wpAny_pure (wpAny_pure ?_)
    rw [ht.1, List.take_length] at hd
    exact hR h' tk (DK hd fun b o hb' e => hm b o (fun z => Nat.lt_irrefl _ (Nat.lt_of_le_of_lt (List.mem_singleton.mp z ▸ hb') hDI)) e) fun b o hb' e => hm b o (fun z => Nat.lt_irrefl _ (Nat.lt_trans (List.mem_singleton.mp z ▸ hb') hDI)) (hb b o hb' e)
  | succ k ih =>
    intro i j jt s hk hi hst hlD hd hb hR
    have hlt : i < items.size := by (first | lia | omega)
    refine codeAny_builtin entry_dict_update_loop ?_
    rw [Around.under_plainId plain_dict_update_loop _]
    change wpAny _ A.in1 (pyNext (.ref I) >>= _) _ _ s
    refine wpAny_bind (W.item i s _ _ hlt hst fun v h' tk hP hst' hm => ?_)
    have hd' : h'.DictOf knd D (merged [] (ps.take i)) := DK hd fun b o hb' e => hm b o (fun z => Nat.lt_irrefl _ (Nat.lt_of_le_of_lt (List.mem_singleton.mp z ▸ hb') hDI)) e
    have hb1 : ∀ b o, b < D → h0.get? b = some o → h'.get? b = some o := fun b o hb' e => hm b o (fun z => Nat.lt_irrefl _ (Nat.lt_trans (List.mem_singleton.mp z ▸ hb') hDI)) (hb b o hb' e)
    have hpl : i < ps.length := by have := ht.1; (first | lia | omega)
    have hp := ht.2 i v ps[i] hP (List.getElem?_eq_getElem hpl) h' hb1
    refine wpAny_bind (wpAny_holding (wpAny_bind (wpAny_tryCatch (pair_items (s := { s with heap := h', toks := tk }) hp fun uk huk => ?_))))
    dsimp only
    have hml : (merged [] (ps.take i)).length ≤ sizeLine := by
      have := merged_length_le ([] : List (K × Value)) (ps.take i)
      rw [List.length_take] at this
      have h0l : ([] : List (K × Value)).length = 0 := rfl
      have := ht.1
      rw [sizeLine_eq]
      (first | lia | omega)
    refine wpAny_holding (wpAny_dictSet_pairs (s := { s with heap := h', toks := tk }) (hsz := hml) huk hd' fun h2 hd2 sb => ?_)
    have hk2 : ∀ b o, b ≠ D → h'.get? b = some o → h2.get? b = some o := fun b o hb e => (sb.2 b hb).trans e
    refine wpAny_pure ⟨plainId_quiet plain_dict_update_loop _, ih (i + 1) (j + 1) 0 _ (by (first | lia | omega)) hlt ?_ hlD ?_ (fun b o hb' e => hk2 b o (Nat.ne_of_lt hb') (hb1 b o hb' e)) fun h3 tk3 hw3 hb3 => hR h3 tk3 hw3 hb3⟩
    · refine W.frame _ h' h2 hst' fun b hb o e => hk2 b o (fun z => ?_) e
      simp only [List.mem_cons, List.not_mem_nil, or_false] at hb
      rcases hb with rfl | rfl
      · exact Nat.lt_irrefl _ (z ▸ hDI)
      · exact Nat.lt_irrefl _ (z ▸ hlD)
    · rw [merged_take_succ [] ps i ps[i] (List.getElem?_eq_getElem hpl)]
      exact hd2
set_option maxHeartbeats 1000000 in
theorem call_dict_pairsU {s : Shared} {l : Addr} {items : Array Value} {n : Nat} {sl : Array (Option Value)} {ps : List (K × Value)} {Q : Value → Shared → Prop} (hh : A.handled = none) (hl : s.heap.get? l = some { cls := .type "tuple", dict := none, data := .seq items n, slots := sl }) (ht : PairsAt knd s.heap s.heap.objs.size items ps) (hn : items.size ≤ 100000)
    (q : ∀ (h' : Heap) (tk : Nat), h'.DictOf knd s.heap.objs.size (merged [] ps) → (∀ b o, s.heap.get? b = some o → h'.get? b = some o) → Q (.ref s.heap.objs.size) { s with heap := h', toks := tk }) :
    wpAny (model prog w) A (call (.type "dict") [.ref l]) Q E s := by
  refine callType_codes (Q₁ := fun obj s₁ => obj = .ref s.heap.objs.size ∧ s₁ = { s with heap := s.heap.push { cls := .type "dict", data := .dict #[] } }) F.kt_called_dict (F.kt_typeCall_dict_1 _) F.entry_dict_init (kt_code_dict_new _ ⟨rfl, rfl⟩) ?_
  rintro obj s₁ ⟨rfl, rfl⟩
  have hnew : (s.heap.push { cls := .type "dict", data := .dict #[] }).DictOf knd s.heap.objs.size [] := Heap.DictOf.new s.heap
  have hl1 : (s.heap.push { cls := .type "dict", data := .dict #[] }).get? l = some { cls := .type "tuple", dict := none, data := .seq items n, slots := sl } := Heap.get?_push_of_some _ hl
  have hlD : l < s.heap.objs.size := Heap.lt_size hl
  have k0 : ∀ b o, b < s.heap.objs.size → s.heap.get? b = some o → (s.heap.push { cls := .type "dict", data := .dict #[] }).get? b = some o := fun b o _ e => Heap.get?_push_of_some _ e
  have z0 : (s.heap.push { cls := .type "dict", data := .dict #[] }).objs.size = s.heap.objs.size + 1 := Heap.size_push ..
  refine ⟨hnew.typeIs, F.args_dict_init_2 _ _, ?_⟩
  generalize s.heap.push { cls := .type "dict", data := .dict #[] } = h1 at hnew hl1 k0 z0
  unfold Builtin.«dict.__init__»
  refine wpAny_bind ?_
  unfold Builtin.Dict.selfAndRest
  refine wpAny_bind (wpAny_notOrdered_dict hnew.typeIs ?_)
  show wpAny _ _ (pure (s.heap.objs.size, [Value.ref l])) _ _ _
  refine wpAny_pure ?_
  show wpAny _ _ (Builtin.Dict.updateFrom "dict.__init__" s.heap.objs.size (.ref l) [] .none) _ _ _
  unfold Builtin.Dict.updateFrom
  refine wpAny_bind (wpAny_typeOf (T := "tuple") ⟨_, hl1, rfl⟩ ?_)
  rw [if_pos (by decide)]
  refine wpAny_bind (miss_attr_tuple hh hl1 fun h2 tk2 k2 z2 => ?_)
  rw [if_pos (show (none : Option Value).isNone = true from rfl)]
  refine wpAny_bind (wpAny_rule ?_)
  have hl2 := k2 _ _ hl1
  have hL2 : h2.IsTuple l items := ⟨_, hl2, rfl, n, rfl⟩
  refine wpAny_bind (wpAny_pyIter_tuple hL2 ?_)
  have hd2 : h2.DictOf knd s.heap.objs.size [] := let ⟨o, es, ep, ho, r⟩ := hnew; ⟨o, es, ep, k2 _ _ ho, r⟩
  have hd3 : (h2.push { cls := .type "tuple_iterator", data := .fields #[.ref l, .int 0 0] }).DictOf knd s.heap.objs.size [] := hd2.push _
  have hsz : s.heap.objs.size < h2.objs.size := by (first | lia | omega)
  refine wpAny_pure ⟨plainId_quiet plain_dict_update_loop _, ?_⟩
  refine dict_loopU (knd := knd) (h0 := s.heap) (by simpa using hh) ht hsz (Nat.ne_of_lt (Nat.lt_trans hlD hsz)) hn (items.size - 0) 0 0 0 _ rfl (Nat.zero_le _) ⟨⟨_, Heap.get?_push_size _ rfl, rfl, rfl⟩, hL2.push _⟩ hlD hd3 (fun b o hb e => Heap.get?_push_of_some _ (k2 _ _ (k0 b o hb e))) fun h' tk hd' hb' => ?_
  exact ⟨rfl, q h' tk hd' fun b o e => hb' b o (Heap.lt_size e) e⟩
end
end Srd
namespace L2
open PySem PySem.Spec PyProof.Rows
section
variable {X : Cx}
theorem call_dict_tup (hc : X.calm = true) : CallR X (.type "dict") (fun xs H Q => ∃ l ob ys kvs, xs = [.ref l] ∧ H l = some (.frz ob (.tup ys)) ∧ ob.dict = none ∧ ys.length ≤ 90000 ∧ Paired (fun (y : V) (kv : Key × V) => ∃ t, y = .ref t ∧ H t = some (.tup [kV kv.1, kv.2])) ys kvs ∧ ∀ d, H d = none → Q (.ref d) (upd H d (.dK (putAll kvs)))) := by
  intro pins s σ H xs us Q I r h
  obtain ⟨l, ob, ys, kvs, rfl, hq, hdi, hlen, hp, q⟩ := h
  obtain ⟨u, rfl, ru⟩ := vals1 r
  cases ru
  obtain ⟨ho, hz, its, rv, o, ho2, ocl, n, oda⟩ := I.hok l _ hq
  have hl := rv.length
  obtain rfl : o = ob := Option.some.inj (ho2.symm.trans ho)
  clear ho2
  obtain ⟨ocls, odict, odata, oslots⟩ := o
  simp only at ocl hdi oda
  subst ocl hdi oda
  -- the pairs as they stand
  have key : ∀ {ys : List V} {kvs : List (Key × V)} {its : List Value}, Paired (fun (y : V) (kv : Key × V) => ∃ t, y = .ref t ∧ H t = some (.tup [kV kv.1, kv.2])) ys kvs → Vals ys its → ∃ ps : List (Key × Value), KV kvs ps ∧ its.length = ps.length ∧ ∀ (i : Nat) v p, its[i]? = some v → ps[i]? = some p → Srd.PairAt (mixKind X.prog X.w) s.heap v p.1 p.2 := by
    intro ys kvs its hp
    induction hp generalizing its with
    | nil =>
      intro rv
      cases rv
      exact ⟨[], .nil, rfl, fun i v p h => (nomatch h)⟩
    | @cons y kv ys kvs r t ih =>
      intro rv
      cases rv with
      | @cons _ v _ its ry rr =>
        obtain ⟨ps, h1, h2, h3⟩ := ih rr
        obtain ⟨ta, rfl, ht⟩ := r
        obtain rfl : v = Value.ref ta := ry
        obtain ⟨_, us, rus, o, ho, hc', n, hd⟩ := I.hok ta _ ht
        obtain ⟨u1, u2, rfl, r1, r2⟩ := Vals.two rus
        refine ⟨(kv.1, u2) :: ps, .cons ⟨rfl, r2⟩ h1, by rw [List.length_cons, List.length_cons, h2], fun i v p e1 e2 => ?_⟩
        cases i with
        | zero =>
          injection e1 with e1
          injection e2 with e2
          subst e1 e2
          exact ⟨ta, o, n, u1, rfl, ho, hc', hd, kV_is r1⟩
        | succ i => exact h3 i v p e1 e2
  obtain ⟨ps, h1, h2, h3⟩ := key hp rv
  refine Srd.call_dict_pairsU (knd := mixKind X.prog X.w) (ps := ps) (I.ok.hd hc) ho ⟨by rw [List.size_toArray]; exact h2, fun i v p e1 e2 h' hk => ?_⟩ (by rw [List.size_toArray]; (first | lia | omega)) fun h' tk hd' hk => ?_
  · obtain ⟨b, o, n, uk, e, ho2, r⟩ := h3 i v p (by rw [← e1]; simp) e2
    exact ⟨b, o, n, uk, e, hk b o (Heap.lt_size ho2) ho2, r⟩
  · have hkl : kvs.length = ps.length := h1.length
    have hpl := putAll_len kvs
    exact ⟨.ref _, _, I.laid (t' := tk) (fun b o e => hk b o e) (Nat.le_refl _) (show ObjOk X.prog X.w _ h' _ (.dK (putAll kvs)) from ⟨by rw [sizeLine_eq]; (first | lia | omega), beq_eq_false_iff_ne.mpr (Ne.symm (Nat.ne_of_lt I.big)), _, kv_all h1 .nil, hd'⟩), rfl, q _ (I.hok.fresh (Nat.le_refl _))⟩
end
end L2

namespace K21
open PySem L2 FgM Fg
def top (i : Nat) : Stmt := PySem.Challenge.pw_formgrove_k21_a_book_written_and_read.main.body.getD i (.Pass ⟨0, 0, 0, 0⟩)
abbrev s_is_tag : Stmt := top 8
abbrev s_parts_of : Stmt := top 15
abbrev s_depth_of : Stmt := top 16
abbrev s_shown_expr : Stmt := top 17
abbrev s_shown_part : Stmt := top 18
abbrev s_Source___init__ : Stmt := inClass (top 19) 0
abbrev s_Source_sees : Stmt := inClass (top 19) 1
abbrev s_Source_skips : Stmt := inClass (top 19) 2
abbrev s_Source_must_skip : Stmt := inClass (top 19) 3
abbrev s_Source_at_end : Stmt := inClass (top 19) 4
abbrev s_Source_take_letters : Stmt := inClass (top 19) 5
abbrev s_Source_take_name : Stmt := inClass (top 19) 6
abbrev s_Source_take_expr : Stmt := inClass (top 19) 7
abbrev s_Source_take_turn : Stmt := inClass (top 19) 8
abbrev s_Source_take_marked : Stmt := inClass (top 19) 9
abbrev s_Source_take_single : Stmt := inClass (top 19) 10
abbrev s_Source_take_inner : Stmt := inClass (top 19) 11
abbrev s_shown : Stmt := top 23
abbrev s_read : Stmt := top 24
abbrev s_read_pairs : Stmt := top 25
abbrev s_take_pair : Stmt := top 26
abbrev s_refuse_doubles : Stmt := top 27
abbrev s_refuse_unnamed : Stmt := top 28
abbrev s_names_in : Stmt := top 29
abbrev s_names_outside : Stmt := top 30
abbrev s_refuse_rings : Stmt := top 31
abbrev s_ring_or_before : Stmt := top 32
abbrev s_l_next : Stmt := top 35
abbrev s_l_word : Stmt := top 36
abbrev s_l_names : Stmt := top 37
abbrev s_l_leaf : Stmt := top 38
abbrev s_l_braced : Stmt := top 39
abbrev s_l_several : Stmt := top 40
abbrev s_l_made : Stmt := top 41
abbrev s_l_book : Stmt := top 42
abbrev s_l_alike : Stmt := top 43
abbrev s_law : Stmt := top 44
theorem sc_is_tag : FnScope ["text"] ["text"] (defScope s_is_tag) := ⟨rfl, rfl, rfl, by decide +kernel, rfl, by decide +kernel, by decide +kernel⟩
theorem sc_parts_of : FnScope ["expr"] ["expr"] (defScope s_parts_of) := ⟨rfl, rfl, rfl, by decide +kernel, rfl, by decide +kernel, by decide +kernel⟩
theorem sc_depth_of : FnScope ["expr"] ["expr"] (defScope s_depth_of) := ⟨rfl, rfl, rfl, by decide +kernel, rfl, by decide +kernel, by decide +kernel⟩
theorem sc_shown_expr : FnScope ["expr", "texts"] ["expr"] (defScope s_shown_expr) := ⟨rfl, rfl, rfl, by decide +kernel, rfl, by decide +kernel, by decide +kernel⟩
theorem sc_shown_part : FnScope ["around", "part", "text"] ["around", "part"] (defScope s_shown_part) := ⟨rfl, rfl, rfl, by decide +kernel, rfl, by decide +kernel, by decide +kernel⟩
theorem sc_Source___init__ : FnScope ["self", "text"] ["self", "text"] (defScope s_Source___init__) := ⟨rfl, rfl, rfl, by decide +kernel, rfl, by decide +kernel, by decide +kernel⟩
theorem sc_Source_sees : FnScope ["self", "piece"] ["self", "piece"] (defScope s_Source_sees) := ⟨rfl, rfl, rfl, by decide +kernel, rfl, by decide +kernel, by decide +kernel⟩
theorem sc_Source_skips : FnScope ["self", "piece"] ["self", "piece"] (defScope s_Source_skips) := ⟨rfl, rfl, rfl, by decide +kernel, rfl, by decide +kernel, by decide +kernel⟩
theorem sc_Source_must_skip : FnScope ["self", "piece"] ["self", "piece"] (defScope s_Source_must_skip) := ⟨rfl, rfl, rfl, by decide +kernel, rfl, by decide +kernel, by decide +kernel⟩
theorem sc_Source_at_end : FnScope ["self"] ["self"] (defScope s_Source_at_end) := ⟨rfl, rfl, rfl, by decide +kernel, rfl, by decide +kernel, by decide +kernel⟩
theorem sc_Source_take_letters : FnScope ["self", "first", "last", "begin"] ["self", "first", "last"] (defScope s_Source_take_letters) := ⟨rfl, rfl, rfl, by decide +kernel, rfl, by decide +kernel, by decide +kernel⟩
theorem sc_Source_take_name : FnScope ["self", "name"] ["self"] (defScope s_Source_take_name) := ⟨rfl, rfl, rfl, by decide +kernel, rfl, by decide +kernel, by decide +kernel⟩
theorem sc_Source_take_expr : FnScope ["self", "levels", "parts"] ["self", "levels"] (defScope s_Source_take_expr) := ⟨rfl, rfl, rfl, by decide +kernel, rfl, by decide +kernel, by decide +kernel⟩
theorem sc_Source_take_turn : FnScope ["self", "levels", "parts"] ["self", "levels"] (defScope s_Source_take_turn) := ⟨rfl, rfl, rfl, by decide +kernel, rfl, by decide +kernel, by decide +kernel⟩
theorem sc_Source_take_marked : FnScope ["self", "levels", "part", "sort", "mark"] ["self", "levels"] (defScope s_Source_take_marked) := ⟨rfl, rfl, rfl, by decide +kernel, rfl, by decide +kernel, by decide +kernel⟩
theorem sc_Source_take_single : FnScope ["self", "levels", "part", "tag"] ["self", "levels"] (defScope s_Source_take_single) := ⟨rfl, rfl, rfl, by decide +kernel, rfl, by decide +kernel, by decide +kernel⟩
theorem sc_Source_take_inner : FnScope ["self", "levels", "inner"] ["self", "levels"] (defScope s_Source_take_inner) := ⟨rfl, rfl, rfl, by decide +kernel, rfl, by decide +kernel, by decide +kernel⟩
theorem sc_shown : FnScope ["book"] ["book"] (defScope s_shown) := ⟨rfl, rfl, rfl, by decide +kernel, rfl, by decide +kernel, by decide +kernel⟩
theorem sc_read : FnScope ["text", "book"] ["text"] (defScope s_read) := ⟨rfl, rfl, rfl, by decide +kernel, rfl, by decide +kernel, by decide +kernel⟩
theorem sc_read_pairs : FnScope ["text", "source", "pairs"] ["text"] (defScope s_read_pairs) := ⟨rfl, rfl, rfl, by decide +kernel, rfl, by decide +kernel, by decide +kernel⟩
theorem sc_take_pair : FnScope ["source", "name"] ["source"] (defScope s_take_pair) := ⟨rfl, rfl, rfl, by decide +kernel, rfl, by decide +kernel, by decide +kernel⟩
theorem sc_refuse_doubles : FnScope ["book", "seen", "name", "expr"] ["book"] (defScope s_refuse_doubles) := ⟨rfl, rfl, rfl, by decide +kernel, rfl, by decide +kernel, by decide +kernel⟩
theorem sc_refuse_unnamed : FnScope ["book", "pairs", "name", "expr", "used"] ["book"] (defScope s_refuse_unnamed) := ⟨rfl, rfl, rfl, by decide +kernel, rfl, by decide +kernel, by decide +kernel⟩
theorem sc_names_in : FnScope ["expr", "found", "part"] ["expr"] (defScope s_names_in) := ⟨rfl, rfl, rfl, by decide +kernel, rfl, by decide +kernel, by decide +kernel⟩
theorem sc_names_outside : FnScope ["expr", "found", "part"] ["expr"] (defScope s_names_outside) := ⟨rfl, rfl, rfl, by decide +kernel, rfl, by decide +kernel, by decide +kernel⟩
theorem sc_refuse_rings : FnScope ["book", "uses", "left", "going"] ["book"] (defScope s_refuse_rings) := ⟨rfl, rfl, rfl, by decide +kernel, rfl, by decide +kernel, by decide +kernel⟩
theorem sc_ring_or_before : FnScope ["uses", "names"] ["uses", "names"] (defScope s_ring_or_before) := ⟨rfl, rfl, rfl, by decide +kernel, rfl, by decide +kernel, by decide +kernel⟩
theorem sc_l_next : FnScope ["_law_script", "_law_state"] ["_law_script", "_law_state"] (defScope s_l_next) := ⟨rfl, rfl, rfl, by decide +kernel, rfl, by decide +kernel, by decide +kernel⟩
theorem sc_l_word : FnScope ["_law_cell", "_law_letters", "_law_word_here", "_law_k", "_law_number"] ["_law_cell", "_law_letters"] (defScope s_l_word) := ⟨rfl, rfl, rfl, by decide +kernel, rfl, by decide +kernel, by decide +kernel⟩
theorem sc_l_names : FnScope ["_law_cell", "_law_many", "_law_great", "_law_base", "_law_at"] ["_law_cell", "_law_many"] (defScope s_l_names) := ⟨rfl, rfl, rfl, by decide +kernel, rfl, by decide +kernel, by decide +kernel⟩
theorem sc_l_leaf : FnScope ["_law_cell", "_law_room", "_law_some", "_law_tag", "_law_name"] ["_law_cell", "_law_room", "_law_some"] (defScope s_l_leaf) := ⟨rfl, rfl, rfl, by decide +kernel, rfl, by decide +kernel, by decide +kernel⟩
theorem sc_l_braced : FnScope ["_law_made_here", "_law_words"] ["_law_made_here", "_law_words"] (defScope s_l_braced) := ⟨rfl, rfl, rfl, by decide +kernel, rfl, by decide +kernel, by decide +kernel⟩
theorem sc_l_several : FnScope ["_law_script", "_law_state", "_law_room", "_law_cell", "_law_names_here", "_law_many", "_law_made_here", "_law_parts"] ["_law_script", "_law_state", "_law_room", "_law_cell", "_law_names_here"] (defScope s_l_several) := ⟨rfl, rfl, rfl, by decide +kernel, rfl, by decide +kernel, by decide +kernel⟩
theorem sc_l_made : FnScope ["_law_script", "_law_state", "_law_room", "_law_names_here", "_law_cell", "_law_way", "_law_made_here", "_law_tag", "_law_mark", "_law_word_here"] ["_law_script", "_law_state", "_law_room", "_law_names_here"] (defScope s_l_made) := ⟨rfl, rfl, rfl, by decide +kernel, rfl, by decide +kernel, by decide +kernel⟩
theorem sc_l_book : FnScope ["_law_script", "_law_state", "_law_cell", "_law_many", "_law_names_here", "_law_ranks", "_law_pairs", "_law_texts", "_law_k", "_law_later", "_law_made_here"] ["_law_script", "_law_state"] (defScope s_l_book) := ⟨rfl, rfl, rfl, by decide +kernel, rfl, by decide +kernel, by decide +kernel⟩
theorem sc_l_alike : FnScope ["_law_told", "_law_due", "_law_k"] ["_law_told", "_law_due"] (defScope s_l_alike) := ⟨rfl, rfl, rfl, by decide +kernel, rfl, by decide +kernel, by decide +kernel⟩
theorem sc_law : FnScope ["_law_script", "_law_state", "_law_first", "_law_second", "_law_book_here", "_law_text", "_law_told"] ["_law_script"] (defScope s_law) := ⟨rfl, rfl, rfl, by decide +kernel, rfl, by decide +kernel, by decide +kernel⟩
abbrev blts : List Str := ["all", "any", "dict", "isinstance", "len", "list", "max", "min", "range", "str", "tuple"]
section
variable {P : Program} {w : World} {K : PySem.W.Frag} {mg : Str → Option Value} {base : Heap} {f : Addr} {fd : FuncData}
theorem ok_is_tag (B : ∀ x ∈ blts, mg x = none) (Cc : ∃ t : Tok, mg "LONGEST_TAG" = some (.int 8 t)) (F : Fun K "is_tag" "is_tag" s_is_tag f fd) : FnOk P w K mg base CX0 1 f fd ["text"] spIsTag := by
  refine F.ok sc_is_tag (fun vs H Q E h => ?_) (fun cdv A outer s H vs Q E hr h => ?_)
  · obtain ⟨z, rfl, _⟩ := h
    rfl
  obtain ⟨z, rfl, hz, q⟩ := h
  obtain ⟨t8, c_LONGEST_TAG⟩ := Cc
  unfold tagB at q
  refine ⟨_, (pss_one (ps_ret (pe_and (pe_chain op_le op_le pe_int (pe_callB call_len_str rfl (B "len" (by decide)) PySem.boot_len (pa_cons (pv 0) pa_nil)) (pe_glob (v := .int 8) rfl c_LONGEST_TAG ⟨_, rfl⟩)) (pe_one (pe_callB (call_all rfl) rfl (B "all" (by decide)) bt_all (pa_cons (pe_comp_az (pv 0) rfl (by decide) (by decide) rfl (by decide) rfl (by decide) (fun _ => rfl)) pa_nil)))))), ?_⟩
  refine ⟨_, rfl, z, rfl, len1000 (by (first | lia | omega)), _, _, rfl, rfl, _, rfl, ?_⟩
  refine ite2 (fun c => ?_) (fun c => ?_)
  · have c1 : 1 ≤ z.length := by
      have := of_decide_eq_true c
      (first | lia | omega)
    rw [decide_eq_true c1, Bool.true_and] at q
    refine ⟨_, _, rfl, rfl, _, rfl, ?_⟩
    refine ite2 (fun c => ?_) (fun c => ?_)
    · have c2 : z.length ≤ 8 := by
        have := of_decide_eq_true c
        (first | lia | omega)
      rw [decide_eq_true c2, Bool.true_and] at q
      refine ⟨_, rfl, z, rfl, len1000 (by (first | lia | omega)), fun p hp => ⟨p, z.cps.toList.map azB, rfl, SqL.of ?_, ?_⟩⟩
      · rw [upd_same, List.map_map]
        rfl
      · have e : (z.cps.toList.map azB).all id = z.cps.toList.all azB := by
          rw [List.all_map]
          rfl
        rw [e]
        exact q _ (Same.new hp)
    · have c2 : ¬ z.length ≤ 8 := fun h => c (decide_eq_true (by show ((z.length : Nat) : Int) ≤ 8; (first | lia | omega)))
      rw [decide_eq_false c2, Bool.false_and] at q
      exact q H (Same.refl H)
  · have c1 : ¬ 1 ≤ z.length := fun h => c (decide_eq_true (by show (1 : Int) ≤ ((z.length : Nat) : Int); (first | lia | omega)))
    rw [decide_eq_false c1, Bool.false_and, Bool.false_and] at q
    exact ⟨_, rfl, iteF (q H (Same.refl H))⟩
/-! expressions -/
mutual
inductive Ex where
  | nil : Ex
  | tag : Str → Ex → Ex
  | name : Str → Ex
  | several : Bool → Exs → Ex
  | rep : Nat → Ex → Ex
inductive Exs where
  | nil : Exs
  | cons : Ex → Exs → Exs
end
def repW (m : Nat) : Str := if m = 0 then "many" else if m = 1 then "some" else "maybe"
def repM (m : Nat) : Str := if m = 0 then "*" else if m = 1 then "+" else "?"
def sevW (b : Bool) : Str := if b = true then "turn" else "or"
def sevS (b : Bool) : Str := if b = true then " " else " | "
def kw : Ex → Str
  | .nil => "nil"
  | .tag _ _ => "tag"
  | .name _ => "name"
  | .several b _ => sevW b
  | .rep m _ => repW m
def isNil : Ex → Bool
  | .nil => true
  | _ => false
def five : List Str := ["turn", "or", "many", "some", "maybe"]
def sevB (b : Bool) : List Str := if b = true then ["turn", "or"] else ["or"]
def brc (l : List Str) (k t : Str) : Str := if l.contains k = true then "{" ++ t ++ "}" else t
mutual
def tx : Ex → Str
  | .nil => "{}"
  | .tag t i => if isNil i = true then t else t ++ "(" ++ tx i ++ ")"
  | .name n => n
  | .several b ps => Txt.join (sevS b) (txs (sevB b) ps)
  | .rep m p => brc five (kw p) (tx p) ++ repM m
def txs (l : List Str) : Exs → List Str
  | .nil => []
  | .cons e r => brc l (kw e) (tx e) :: txs l r
end
mutual
def sz : Ex → Nat
  | .nil => 1
  | .tag _ i => sz i + 1
  | .name _ => 1
  | .several _ ps => szs ps + 1
  | .rep _ p => sz p + 1
def szs : Exs → Nat
  | .nil => 0
  | .cons e r => sz e + szs r
end
mutual
def dp : Ex → Nat
  | .nil => 0
  | .tag _ i => dp i + 1
  | .name _ => 0
  | .several _ ps => dps ps + 1
  | .rep _ p => dp p + 1
def dps : Exs → Nat
  | .nil => 0
  | .cons e r => max (dp e) (dps r)
end
mutual
def w8 : Ex → Prop
  | .nil => True
  | .tag t i => t.length ≤ 8 ∧ w8 i
  | .name n => n.length ≤ 8
  | .several _ ps => w8s ps
  | .rep _ p => w8 p
def w8s : Exs → Prop
  | .nil => True
  | .cons e r => w8 e ∧ w8s r
end
def cnt : Exs → Nat
  | .nil => 0
  | .cons _ r => cnt r + 1
theorem brc_len (l : List Str) (k t : Str) : (brc l k t).length ≤ t.length + 2 := by
  unfold brc
  split
  · rw [app_len, app_len]
    show 1 + t.length + 1 ≤ _
    (first | lia | omega)
  · (first | lia | omega)
theorem txs_count (l : List Str) : ∀ ps : Exs, (txs l ps).length = cnt ps
  | .nil => rfl
  | .cons e r => by simp only [txs, cnt, List.length_cons, txs_count l r]
mutual
theorem tx_len : ∀ e : Ex, w8 e → (tx e).length + 6 ≤ 20 * sz e
  | .nil, _ => by show 2 + 6 ≤ 20 * 1; (first | lia | omega)
  | .tag t i, h => by
    have h1 : t.length ≤ 8 := h.1
    have := tx_len i h.2
    rw [tx, sz]
    split
    · (first | lia | omega)
    · rw [app_len, app_len, app_len]
      show t.length + 1 + (tx i).length + 1 + 6 ≤ _
      (first | lia | omega)
  | .name n, h => by
    have h1 : n.length ≤ 8 := h
    show n.length + 6 ≤ 20 * 1
    (first | lia | omega)
  | .several b ps, h => by
    have h1 := txs_len (sevB b) ps h
    have h2 := len_le_sum (sevS b) (txs (sevB b) ps)
    have h3 : (sevS b).length ≤ 3 := by cases b <;> decide
    rw [tx, sz]
    have h4 : (txs (sevB b) ps).length * (sevS b).length ≤ (txs (sevB b) ps).length * 3 := Nat.mul_le_mul_left _ h3
    (first | lia | omega)
  | .rep m p, h => by
    have h1 := tx_len p h
    have h2 := brc_len five (kw p) (tx p)
    have h3 : (repM m).length = 1 := by unfold repM; split; rfl; split <;> rfl
    rw [tx, sz, app_len, h3]
    (first | lia | omega)
theorem txs_len (l : List Str) : ∀ ps : Exs, w8s ps → ((txs l ps).map (·.length)).sum + (txs l ps).length * 3 ≤ 20 * szs ps
  | .nil, _ => Nat.zero_le _
  | .cons e r, h => by
    have h1 := tx_len e h.1
    have h2 := txs_len l r h.2
    have h3 := brc_len l (kw e) (tx e)
    simp only [txs, szs, List.map_cons, List.sum_cons, List.length_cons]
    (first | lia | omega)
end
/-! as they lie -/
mutual
inductive RepE (H : Hp) : Addr → Ex → Prop
  | nil {p : Addr} : H p = some (.tup [.str "nil"]) → RepE H p .nil
  | tag {p q : Addr} {t : Str} {i : Ex} : H p = some (.tup [.str "tag", .str t, .ref q]) → RepE H q i → RepE H p (.tag t i)
  | name {p : Addr} {n : Str} : H p = some (.tup [.str "name", .str n]) → RepE H p (.name n)
  | several {p q : Addr} {b : Bool} {vs : List V} {ps : Exs} : H p = some (.tup [.str (sevW b), .ref q]) → H q = some (.tup vs) → RepEs H vs ps → RepE H p (.several b ps)
  | rep {p q : Addr} {m : Nat} {e : Ex} : H p = some (.tup [.str (repW m), .ref q]) → RepE H q e → RepE H p (.rep m e)
inductive RepEs (H : Hp) : List V → Exs → Prop
  | nil : RepEs H [] .nil
  | cons {p : Addr} {e : Ex} {vs : List V} {r : Exs} : RepE H p e → RepEs H vs r → RepEs H (.ref p :: vs) (.cons e r)
end
mutual
theorem RepE.mono {H H' : Hp} (k : TK H H') : ∀ {p : Addr} {e : Ex}, RepE H p e → RepE H' p e
  | _, _, .nil h => .nil (k _ _ h)
  | _, _, .tag h r => .tag (k _ _ h) (RepE.mono k r)
  | _, _, .name h => .name (k _ _ h)
  | _, _, .several h1 h2 r => .several (k _ _ h1) (k _ _ h2) (RepEs.mono k r)
  | _, _, .rep h r => .rep (k _ _ h) (RepE.mono k r)
theorem RepEs.mono {H H' : Hp} (k : TK H H') : ∀ {vs : List V} {ps : Exs}, RepEs H vs ps → RepEs H' vs ps
  | _, _, .nil => .nil
  | _, _, .cons h r => .cons (RepE.mono k h) (RepEs.mono k r)
end
/-- an expression's tuple begins with its word -/
theorem RepE.top {H : Hp} {p : Addr} {e : Ex} (h : RepE H p e) : ∃ r, H p = some (.tup (.str (kw e) :: r)) ∧ r.isEmpty = isNil e := by
  cases h with
  | nil h => exact ⟨_, h, rfl⟩
  | tag h _ => exact ⟨_, h, rfl⟩
  | name h => exact ⟨_, h, rfl⟩
  | several h _ _ => exact ⟨_, h, rfl⟩
  | rep h _ => exact ⟨_, h, rfl⟩
theorem nil_kw (e : Ex) : (decide (kw e = "nil") && isNil e) = isNil e := by
  cases e with
  | nil => rfl
  | _ => simp [isNil]
theorem in_strs (k : Str) (l : List Str) : inV (.str k) (l.map V.str) = l.contains k := by
  induction l with
  | nil => rfl
  | cons x l ih =>
    show (eqV (.str x) (.str k) || inV (.str k) (l.map V.str)) = _
    rw [ih, List.contains_cons]
    congr 1
    show (x == k) = (k == x)
    by_cases e : x = k
    · subst e; rfl
    · rw [beq_eq_false_iff_ne.mpr e, beq_eq_false_iff_ne.mpr (Ne.symm e)]
theorem at0 {x : V} {r : List V} : atI (x :: r) 0 = some x := atI_nat (j := 0) rfl
def toL : Exs → List Ex
  | .nil => []
  | .cons e r => e :: toL r
theorem txs_map (l : List Str) : ∀ ps : Exs, txs l ps = (toL ps).map fun e => brc l (kw e) (tx e)
  | .nil => rfl
  | .cons e r => by rw [txs, txs_map l r]; rfl
theorem toL_mem : ∀ {ps : Exs} {e : Ex}, e ∈ toL ps → dp e ≤ dps ps ∧ sz e ≤ szs ps ∧ (w8s ps → w8 e)
  | .cons a r, e, h => by
    rcases List.mem_cons.mp h with rfl | h
    · exact ⟨Nat.le_max_left _ _, Nat.le_add_right _ _, fun h => h.1⟩
    · obtain ⟨h1, h2, h3⟩ := toL_mem h
      exact ⟨Nat.le_trans h1 (Nat.le_max_right _ _), Nat.le_trans h2 (Nat.le_add_left _ _), fun h => h3 h.2⟩
theorem toL_len : ∀ ps : Exs, (toL ps).length = cnt ps
  | .nil => rfl
  | .cons e r => by simp only [toL, cnt, List.length_cons, toL_len r]
theorem sz_pos : ∀ e : Ex, 1 ≤ sz e
  | .nil => Nat.le_refl _
  | .tag _ i => by rw [sz]; (first | lia | omega)
  | .name _ => Nat.le_refl _
  | .several _ ps => by rw [sz]; (first | lia | omega)
  | .rep _ p => by rw [sz]; (first | lia | omega)
theorem cnt_le : ∀ ps : Exs, cnt ps ≤ szs ps
  | .nil => Nat.le_refl _
  | .cons e r => by
    have := sz_pos e
    have := cnt_le r
    rw [cnt, szs]
    (first | lia | omega)
/-- the word around, and what is braced in it -/
def Aro (ar : Str) (l : List Str) : Prop := (∃ b, ar = sevW b ∧ l = sevB b) ∨ ∃ m, ar = repW m ∧ l = five
/-- the constants of the module -/
structure Con20 (K : PySem.W.Frag) (mg : Str → Option Value) (A_NIL A_MARKS A_BRACED : Addr) : Prop where
  nil : mg "NIL" = some (.ref A_NIL)
  nilT : ∀ H, SqT K H A_NIL [.str "nil"]
  marks : mg "MARKS" = some (.ref A_MARKS)
  marksT : ∃ D, KTab K A_MARKS D ∧ ∀ m, D.lookup (repW m) = some (.str (repM m))
  braced : mg "BRACED" = some (.ref A_BRACED)
  bracedT : ∃ D, KTab K A_BRACED D ∧ ∀ ar l, Aro ar l → ∃ C, D.lookup ar = some (.ref C) ∧ ∀ H, SqT K H C (l.map V.str)
/-! texts of expressions, as they are read: what they begin with, what may stand behind -/
def Upr (n : Str) : Prop := cs n ≠ [] ∧ ∀ c ∈ cs n, 65 ≤ c ∧ c ≤ 90
mutual
def wfE : Ex → Prop
  | .nil => True
  | .tag t i => (Lets t ∧ t.length ≤ 8) ∧ wfE i
  | .name n => Upr n ∧ n.length ≤ 8
  | .several _ ps => 2 ≤ cnt ps ∧ wfEs ps
  | .rep m p => m ≤ 2 ∧ wfE p
def wfEs : Exs → Prop
  | .nil => True
  | .cons e r => wfE e ∧ wfEs r
end
theorem wfEs_mem : ∀ {ps : Exs} {e : Ex}, wfEs ps → e ∈ toL ps → wfE e
  | .cons a r, e, h, m => by
    rcases List.mem_cons.mp m with rfl | m
    · exact h.1
    · exact wfEs_mem h.2 m
/-- what a text may begin with: {, a small letter, a great one -/
def Hd (c : Nat) : Prop := c = 123 ∨ (97 ≤ c ∧ c ≤ 122) ∨ (65 ≤ c ∧ c ≤ 90)
/-- the text of a part, braced by its word -/
def tL (l : List Str) (e : Ex) : List Nat := cs (brc l (kw e) (tx e))
theorem cs_app (x y : Str) : cs (x ++ y) = cs x ++ cs y := app_cps x y
theorem tL_in {l : List Str} {e : Ex} (h : l.contains (kw e) = true) : tL l e = 123 :: (cs (tx e) ++ [125]) := by
  unfold tL brc
  rw [if_pos h, cs_app, cs_app]
  rfl
theorem tL_out {l : List Str} {e : Ex} (h : l.contains (kw e) = false) : tL l e = cs (tx e) := by
  unfold tL brc
  rw [h, if_neg Bool.false_ne_true]
theorem jn_cons (sep : Str) (y : Str) : ∀ ys : List Str, jn sep (y :: ys) = cs y ++ ys.flatMap fun z => cs sep ++ cs z
  | [] => by simp [jn]
  | z :: ys => by
    rw [List.flatMap_cons, ← List.append_assoc, List.append_assoc (cs y)]
    show cs y ++ (cs sep ++ jn sep (z :: ys)) = _
    rw [jn_cons sep z ys]
    simp only [List.append_assoc]
/-- the text of several, part by part -/
theorem tx_several (b : Bool) (e : Ex) (ps : Exs) : cs (tx (.several b (.cons e ps))) = tL (sevB b) e ++ (toL ps).flatMap fun p => cs (sevS b) ++ tL (sevB b) p := by
  rw [tx, cs_join, txs, jn_cons, txs_map, List.flatMap_map]
  rfl
mutual
theorem tx_head : ∀ e : Ex, wfE e → ∃ c r, cs (tx e) = c :: r ∧ Hd c
  | .nil, _ => ⟨123, [125], rfl, .inl rfl⟩
  | .tag t i, h => by
    obtain ⟨⟨⟨hn, hl⟩, _⟩, _⟩ := h
    have hn : cs t ≠ [] := hn
    obtain ⟨c, r, e⟩ := List.exists_cons_of_ne_nil hn
    have hc : 97 ≤ c ∧ c ≤ 122 := hl c (by show c ∈ cs t; rw [e]; exact List.mem_cons_self ..)
    rw [tx]
    split
    · exact ⟨c, r, e, .inr (.inl hc)⟩
    · rw [cs_app, cs_app, cs_app, e]
      exact ⟨c, _, rfl, .inr (.inl hc)⟩
  | .name n, h => by
    obtain ⟨⟨hn, hl⟩, _⟩ := h
    obtain ⟨c, r, e⟩ := List.exists_cons_of_ne_nil hn
    exact ⟨c, r, e, .inr (.inr (hl c (by rw [e]; exact List.mem_cons_self ..)))⟩
  | .several b (.cons e ps), h => by
    obtain ⟨c, r, h1, h2⟩ := tL_head (sevB b) e h.2.1
    rw [tx_several, h1]
    exact ⟨c, _, rfl, h2⟩
  | .several b .nil, h => absurd h.1 (by show ¬ 2 ≤ 0; decide)
  | .rep m p, h => by
    obtain ⟨c, r, h1, h2⟩ := tL_head five p h.2
    rw [tx, cs_app]
    show ∃ c r, tL five p ++ _ = _ ∧ _
    rw [h1]
    exact ⟨c, _, rfl, h2⟩
theorem tL_head : ∀ (l : List Str) (e : Ex), wfE e → ∃ c r, tL l e = c :: r ∧ Hd c := fun l e h => by
  cases hc : l.contains (kw e) with
  | true => exact ⟨123, _, tL_in hc, .inl rfl⟩
  | false =>
    rw [tL_out hc]
    exact tx_head e h
end
/-! what may stand behind -/
def fE (r : List Nat) : Prop := r = [] ∨ ∃ c r', r = c :: r' ∧ (c = 59 ∨ c = 125 ∨ c = 41)
def fT (r : List Nat) : Prop := fE r ∨ ∃ r', r = 32 :: 124 :: 32 :: r'
def fM (r : List Nat) : Prop := fT r ∨ ∃ c r', r = 32 :: c :: r' ∧ Hd c
def fS (r : List Nat) : Prop := fM r ∨ ∃ c r', r = c :: r' ∧ (c = 42 ∨ c = 43 ∨ c = 63)
theorem fE_bar {r : List Nat} (h : fE r) : ¬ [32, 124, 32] <+: r ∧ ¬ [32] <+: r := by
  rcases h with rfl | ⟨c, r', rfl, h⟩
  · exact ⟨fun ⟨_, z⟩ => (by cases z), fun ⟨_, z⟩ => (by cases z)⟩
  · refine ⟨fun ⟨_, z⟩ => ?_, fun ⟨_, z⟩ => ?_⟩ <;> (injection z with z _; (first | lia | omega))
theorem fT_bar {r : List Nat} (h : fT r) : [32, 124, 32] <+: r ∨ ¬ [32] <+: r := by
  rcases h with h | ⟨r', rfl⟩
  · exact .inr (fE_bar h).2
  · exact .inl ⟨r', rfl⟩
theorem fM_head {r : List Nat} (h : fM r) : r = [] ∨ ∃ c r', r = c :: r' ∧ (c = 59 ∨ c = 125 ∨ c = 41 ∨ c = 32) := by
  rcases h with (h | ⟨r', rfl⟩) | ⟨c, r', rfl, _⟩
  · rcases h with rfl | ⟨c, r', rfl, h⟩
    · exact .inl rfl
    · exact .inr ⟨c, r', rfl, by (first | lia | omega)⟩
  · exact .inr ⟨32, _, rfl, by (first | lia | omega)⟩
  · exact .inr ⟨32, _, rfl, by (first | lia | omega)⟩
theorem fM_mark {r : List Nat} (h : fM r) {m : Nat} (hm : m = 42 ∨ m = 43 ∨ m = 63) : ¬ [m] <+: r := fun ⟨_, z⟩ => by
  rcases fM_head h with rfl | ⟨c, r', rfl, h⟩
  · cases z
  · injection z with z _
    (first | lia | omega)
theorem fS_head {r : List Nat} (h : fS r) {c : Nat} {r' : List Nat} (e : r = c :: r') : ¬ (97 ≤ c ∧ c ≤ 122) ∧ ¬ (65 ≤ c ∧ c ≤ 90) ∧ c ≠ 40 := by
  rcases h with h | ⟨d, q, rfl, h⟩
  · rcases fM_head h with rfl | ⟨d, q, rfl, h⟩
    · cases e
    · injection e with e _
      (first | lia | omega)
  · injection e with e _
    (first | lia | omega)
/-- behind a part of an or -/
theorem fT_or {ps : List Ex} {r : List Nat} (hr : fE r) : fT ((ps.flatMap fun p => [32, 124, 32] ++ tL ["or"] p) ++ r) := by
  cases ps with
  | nil => exact .inl hr
  | cons p ps => exact .inr ⟨_, rfl⟩
/-- behind a part of a turn -/
theorem fM_turn {ps : List Ex} {r : List Nat} (hr : fT r) (hw : ∀ p ∈ ps, wfE p) : fM ((ps.flatMap fun p => [32] ++ tL ["turn", "or"] p) ++ r) := by
  cases ps with
  | nil => exact .inl hr
  | cons p ps =>
    obtain ⟨c, q, e, h⟩ := tL_head ["turn", "or"] p (hw p (List.mem_cons_self ..))
    refine .inr ⟨c, q ++ ((ps.flatMap fun p => [32] ++ tL ["turn", "or"] p) ++ r), ?_, h⟩
    rw [List.flatMap_cons, e]
    simp
/-- behind a part of a turn no bar is seen while parts come -/
theorem turn_more {p : Ex} {ps : List Ex} {r : List Nat} (hw : wfE p) : ¬ [32, 124, 32] <+: (((p :: ps).flatMap fun p => [32] ++ tL ["turn", "or"] p) ++ r) ∧ [32] <+: (((p :: ps).flatMap fun p => [32] ++ tL ["turn", "or"] p) ++ r) := by
  obtain ⟨c, q, e, h⟩ := tL_head ["turn", "or"] p hw
  rw [List.flatMap_cons, e]
  refine ⟨fun ⟨_, z⟩ => ?_, ⟨_, rfl⟩⟩
  injection z with _ z
  injection z with z _
  unfold Hd at h
  (first | lia | omega)
/-- {} is seen just where nil stands -/
theorem sees_nil {e : Ex} {r : List Nat} (hw : wfE e) : [123, 125] <+: (tL five e ++ r) ↔ isNil e = true := by
  constructor
  · rintro ⟨q, z⟩
    cases hc : five.contains (kw e) with
    | true =>
      obtain ⟨c, r', h1, h2⟩ := tx_head e hw
      rw [tL_in hc, h1] at z
      injection z with _ z
      injection z with z _
      unfold Hd at h2
      (first | lia | omega)
    | false =>
      rw [tL_out hc] at z
      cases e with
      | nil => rfl
      | tag t i =>
        obtain ⟨⟨⟨hn, hl⟩, _⟩, _⟩ := hw
        obtain ⟨c, r', e⟩ := List.exists_cons_of_ne_nil (show cs t ≠ [] from hn)
        have hcc : 97 ≤ c ∧ c ≤ 122 := hl c (by show c ∈ cs t; rw [e]; exact List.mem_cons_self ..)
        rw [tx] at z
        split at z
        · rw [e] at z
          injection z with z _
          (first | lia | omega)
        · rw [cs_app, cs_app, cs_app, e] at z
          injection z with z _
          (first | lia | omega)
      | name n =>
        obtain ⟨⟨hn, hl⟩, _⟩ := hw
        obtain ⟨c, r', e⟩ := List.exists_cons_of_ne_nil hn
        have hcc := hl c (by rw [e]; exact List.mem_cons_self ..)
        rw [tx, e] at z
        injection z with z _
        (first | lia | omega)
      | several b ps =>
        have hc : five.contains (sevW b) = false := hc
        cases b <;> exact absurd hc (by decide)
      | rep m p =>
        exfalso
        revert hc
        show ¬ five.contains (repW m) = false
        unfold repW
        split
        · decide
        · split <;> decide
  · intro h
    cases e with
    | nil => exact ⟨r, rfl⟩
    | _ => cases h
/-- { is seen just where the part is braced, or nil -/
theorem brace_of {e : Ex} {r : List Nat} (hw : wfE e) (hn : isNil e = false) : [123] <+: (tL five e ++ r) ↔ five.contains (kw e) = true := by
  constructor
  · rintro ⟨q, z⟩
    cases hc : five.contains (kw e) with
    | true => rfl
    | false =>
      exfalso
      rw [tL_out hc] at z
      cases e with
      | nil => cases hn
      | tag t i =>
        obtain ⟨⟨⟨hn, hl⟩, _⟩, _⟩ := hw
        obtain ⟨c, r', e⟩ := List.exists_cons_of_ne_nil (show cs t ≠ [] from hn)
        have hcc : 97 ≤ c ∧ c ≤ 122 := hl c (by show c ∈ cs t; rw [e]; exact List.mem_cons_self ..)
        rw [tx] at z
        split at z
        · rw [e] at z
          injection z with z _
          (first | lia | omega)
        · rw [cs_app, cs_app, cs_app, e] at z
          injection z with z _
          (first | lia | omega)
      | name n =>
        obtain ⟨⟨hn, hl⟩, _⟩ := hw
        obtain ⟨c, r', e⟩ := List.exists_cons_of_ne_nil hn
        have hcc := hl c (by rw [e]; exact List.mem_cons_self ..)
        rw [tx, e] at z
        injection z with z _
        (first | lia | omega)
      | several b ps =>
        have hc : five.contains (sevW b) = false := hc
        cases b <;> exact absurd hc (by decide)
      | rep m p =>
        revert hc
        show ¬ five.contains (repW m) = false
        unfold repW
        split
        · decide
        · split <;> decide
  · intro h
    rw [tL_in h]
    exact ⟨_, rfl⟩
structure SrC (K : PySem.W.Frag) (C : Addr) : Prop where
  cls : Cls K C
  nt : NoAttr K C "text"
  na : NoAttr K C "at"
/-! a text that is being read, and the place -/
def srF (T : Str) (n : Nat) : List (Str × V) := [("text", .str T), ("at", .int (n : Int))]
def SrAt (C : Addr) (H : Hp) (a dx : Addr) (T : Str) (n : Nat) : Prop := H a = some (.ins C dx (srF T n))
def rsT (T : Str) (n : Nat) : List Nat := (cs T).drop n
/-- all but the source is as it was -/
def Bar1 (a : Addr) (H H' : Hp) : Prop := ∀ b o, b ≠ a → H b = some o → H' b = some o
theorem Bar1.refl {a : Addr} {H : Hp} : Bar1 a H H := fun _ _ _ h => h
theorem Bar1.trans {a : Addr} {H H1 H2 : Hp} (x : Bar1 a H H1) (y : Bar1 a H1 H2) : Bar1 a H H2 := fun b o h1 h => y b o h1 (x b o h1 h)
theorem Bar1.same {a : Addr} {H H1 : Hp} (x : Same H H1) : Bar1 a H H1 := fun b o _ h => x b o h
theorem Bar1.up {a : Addr} {H : Hp} {o : HO} : Bar1 a H (upd H a o) := fun b o' h1 h => by rw [upd_ne h1]; exact h
def spSInit (C : Addr) : Sp := fun vs H Q _ => ∃ (a dx : Addr) (T : Str), vs = [.ref a, .str T] ∧ H a = some (.ins C dx []) ∧ ∀ H', Bar1 a H H' → SrAt C H' a dx T 0 → Q .non H'
def spSees (C : Addr) : Sp := fun vs H Q _ => ∃ (a dx : Addr) (T : Str) (n : Nat) (p : Str), vs = [.ref a, .str p] ∧ SrAt C H a dx T n ∧ n ≤ T.length ∧ Q (.bl (decide (cs p <+: rsT T n))) H
def spSkips (C : Addr) : Sp := fun vs H Q _ => ∃ (a dx : Addr) (T : Str) (n : Nat) (p : Str), vs = [.ref a, .str p] ∧ SrAt C H a dx T n ∧ n ≤ T.length ∧ p.length ≤ 1000 ∧ (¬ cs p <+: rsT T n → Q (.bl false) H) ∧ (cs p <+: rsT T n → ∀ H', Bar1 a H H' → SrAt C H' a dx T (n + p.length) → Q (.bl true) H')
def spMust (C : Addr) : Sp := fun vs H Q _ => ∃ (a dx : Addr) (T : Str) (n : Nat) (p : Str), vs = [.ref a, .str p] ∧ SrAt C H a dx T n ∧ n ≤ T.length ∧ p.length ≤ 1000 ∧ cs p <+: rsT T n ∧ ∀ H', Bar1 a H H' → SrAt C H' a dx T (n + p.length) → Q .non H'
def spSEnd (C : Addr) : Sp := fun vs H Q _ => ∃ (a dx : Addr) (T : Str) (n : Nat), vs = [.ref a] ∧ SrAt C H a dx T n ∧ T.length ≤ 90000 ∧ Q (.bl (decide (n = T.length))) H
variable {C : Addr}
theorem ok_Source___init__ (B : ∀ x ∈ blts, mg x = none) (c : SrC K C) (F : Fun K "__init__" "Source.__init__" s_Source___init__ f fd) : FnOk P w K mg base CX0 1 f fd ["self", "text"] (spSInit C) := by
  refine F.ok sc_Source___init__ (fun vs H Q E h => ?_) (fun cdv A outer s H vs Q E hr h => ?_)
  · obtain ⟨a, dx, T, rfl, _⟩ := h
    rfl
  obtain ⟨a, dx, T, rfl, ha, q⟩ := h
  refine ⟨_, (pss_cons (ps_fld (pv 0) (pv 1) rfl)
    (pss_one (ps_fld (pv 0) pe_int rfl))), ?_⟩
  refine ⟨_, rfl, _, rfl, a, C, dx, [], rfl, ha, c.cls, c.nt, by decide, ?_⟩
  refine ⟨_, rfl, a, C, dx, _, rfl, upd_same, c.cls, c.na, (show 1 < 1000 by decide), ?_⟩
  exact q _ (Bar1.up.trans Bar1.up) upd_same
theorem ok_Source_sees (B : ∀ x ∈ blts, mg x = none) (c : SrC K C) (F : Fun K "sees" "Source.sees" s_Source_sees f fd) : FnOk P w K mg base CX0 1 f fd ["self", "piece"] (spSees C) := by
  refine F.ok sc_Source_sees (fun vs H Q E h => ?_) (fun cdv A outer s H vs Q E hr h => ?_)
  · obtain ⟨a, dx, T, n, p, rfl, _⟩ := h
    rfl
  obtain ⟨a, dx, T, n, p, rfl, ha, hn, q⟩ := h
  refine ⟨_, (pss_one (ps_ret (pe_bm PySem.F.plainAttrs_str PySem.F.slot_str_startswith PySem.F.type_str_startswith mt_starts (pe_fld (pv 0) rfl) (pa_cons (pv 1) (pa_cons (pe_fld (pv 0) rfl) pa_nil))))), ?_⟩
  refine ⟨_, rfl, a, C, dx, _, _, rfl, ha, c.cls, c.nt, rfl, rfl, _, rfl, _, rfl, a, C, dx, _, _, rfl, ha, c.cls, c.na, rfl, T, p, n, rfl, rfl, hn, q⟩
theorem ok_Source_skips (B : ∀ x ∈ blts, mg x = none) (c_Source : SrC K C) (g_Source_sees : HasM P w K mg base C "sees" ["self", "piece"] 1 (spSees C)) (F : Fun K "skips" "Source.skips" s_Source_skips f fd) : FnOk P w K mg base CX0 2 f fd ["self", "piece"] (spSkips C) := by
  refine F.ok sc_Source_skips (fun vs H Q E h => ?_) (fun cdv A outer s H vs Q E hr h => ?_)
  · obtain ⟨a, dx, T, n, p, rfl, _⟩ := h
    rfl
  obtain ⟨a, dx, T, n, p, rfl, ha, hn, hp, q1, q2⟩ := h
  have c := c_Source
  refine ⟨_, (pss_cons (ps_if (pt_not (pt_truth (pe_hasm g_Source_sees hr (pv 0) c_Source.cls (pa_cons (pv 1) pa_nil)) (fun _ => rfl)))
      (pss_one (ps_ret pe_bl))
      pss_nil)
    (pss_cons (ps_fldaug (pv 0) (pe_callB call_len_str rfl (B "len" (by decide)) PySem.boot_len (pa_cons (pv 1) pa_nil)) in_add)
    (pss_one (ps_ret pe_bl)))), ?_⟩
  refine ⟨_, rfl, a, dx, _, rfl, ha, rfl, _, rfl, a, dx, T, n, p, rfl, ha, hn, _, rfl, ?_⟩
  by_cases e : cs p <+: rsT T n
  · rw [decide_eq_true e]
    refine iteF ?_
    refine ⟨_, rfl, a, C, dx, _, _, rfl, ha, c.cls, c.na, rfl, _, rfl, p, rfl, len1000 (by (first | lia | omega)), _, _, rfl, rfl, dx, _, ha, (show 2 < 1000 by decide), ?_⟩
    exact q2 e _ Bar1.up upd_same
  · rw [decide_eq_false e]
    exact iteT (q1 e)
theorem ok_Source_must_skip (B : ∀ x ∈ blts, mg x = none) (c_Source : SrC K C) (g_Source_skips : HasM P w K mg base C "skips" ["self", "piece"] 2 (spSkips C)) (F : Fun K "must_skip" "Source.must_skip" s_Source_must_skip f fd) : FnOk P w K mg base CX0 3 f fd ["self", "piece"] (spMust C) := by
  refine F.ok sc_Source_must_skip (fun vs H Q E h => ?_) (fun cdv A outer s H vs Q E hr h => ?_)
  · obtain ⟨a, dx, T, n, p, rfl, _⟩ := h
    rfl
  obtain ⟨a, dx, T, n, p, rfl, ha, hn, hp, he, q⟩ := h
  refine ⟨_, (pss_one (ps_if (pt_not (pt_truth (pe_hasm g_Source_skips hr (pv 0) c_Source.cls (pa_cons (pv 1) pa_nil)) (fun _ => rfl)))
      (pss_one ps_never)
      pss_nil)), ?_⟩
  refine ⟨_, rfl, a, dx, _, rfl, ha, rfl, _, rfl, a, dx, T, n, p, rfl, ha, hn, hp, fun z => absurd he z, fun _ H' b h' => ⟨_, rfl, iteF ?_⟩⟩
  exact q H' b h'
theorem ok_Source_at_end (B : ∀ x ∈ blts, mg x = none) (c : SrC K C) (F : Fun K "at_end" "Source.at_end" s_Source_at_end f fd) : FnOk P w K mg base CX0 1 f fd ["self"] (spSEnd C) := by
  refine F.ok sc_Source_at_end (fun vs H Q E h => ?_) (fun cdv A outer s H vs Q E hr h => ?_)
  · obtain ⟨a, dx, T, n, rfl, _⟩ := h
    rfl
  obtain ⟨a, dx, T, n, rfl, ha, hT, q⟩ := h
  refine ⟨_, (pss_one (ps_ret (pe_cmpR op_eq (pe_fld (pv 0) rfl) (pe_callB call_len_str rfl (B "len" (by decide)) PySem.boot_len (pa_cons (pe_fld (pv 0) rfl) pa_nil)) (nomark _)))), ?_⟩
  refine ⟨_, rfl, a, C, dx, _, _, rfl, ha, c.cls, c.na, rfl, _, rfl, a, C, dx, _, _, rfl, ha, c.cls, c.nt, rfl, T, rfl, len1000 (by (first | lia | omega)), rfl, ?_⟩
  have e : decide (V.int (n : Int) = V.int ((T.length : Nat) : Int)) = decide (n = T.length) := by
    by_cases h : n = T.length
    · rw [h, decide_eq_true rfl, decide_eq_true rfl]
    · rw [decide_eq_false h]
      exact decide_eq_false fun z => h (by injection z with z; (first | lia | omega))
  show Q (.bl (decide (V.int (n : Int) = V.int ((T.length : Nat) : Int)))) H
  rw [e]
  exact q
theorem tw_of {P : Nat → Bool} : ∀ {l : List Nat} {i : Nat}, (∀ c ∈ l.take i, P c = true) → (∀ c, l[i]? = some c → P c = false) → l.takeWhile P = l.take i
  | [], i, _, _ => by simp
  | x :: l, 0, _, h => by
    rw [List.takeWhile_cons, h x rfl]
    rfl
  | x :: l, i + 1, h1, h2 => by
    have hx : P x = true := h1 x (List.mem_cons_self ..)
    rw [List.takeWhile_cons, if_pos hx, tw_of (i := i) (fun c hc => h1 c (List.mem_cons_of_mem _ hc)) (fun c hc => h2 c hc)]
    rfl
def spLetters (C : Addr) : Sp := fun vs H Q _ => ∃ (a dx : Addr) (T : Str) (n : Nat) (lo hi : Nat), vs = [.ref a, .str ⟨#[lo]⟩, .str ⟨#[hi]⟩] ∧ SrAt C H a dx T n ∧ n ≤ T.length ∧ T.length ≤ 90000 ∧
  ∀ (z : Str) (H' : Hp), cs z = (rsT T n).takeWhile (fun c => decide (lo ≤ c) && decide (c ≤ hi)) → Bar1 a H H' → SrAt C H' a dx T (n + z.length) → Q (.str z) H'
set_option maxHeartbeats 1000000 in
theorem ok_Source_take_letters (B : ∀ x ∈ blts, mg x = none) (c_Source : SrC K C) (g_Source_at_end : HasM P w K mg base C "at_end" ["self"] 1 (spSEnd C)) (F : Fun K "take_letters" "Source.take_letters" s_Source_take_letters f fd) : FnOk P w K mg base CX0 2 f fd ["self", "first", "last"] (spLetters C) := by
  refine F.ok sc_Source_take_letters (fun vs H Q E h => ?_) (fun cdv A outer s H vs Q E hr h => ?_)
  · obtain ⟨a, dx, T, n, lo, hi, rfl, _⟩ := h
    rfl
  obtain ⟨a, dx, T, n, lo, hi, rfl, ha, hn, hT, q⟩ := h
  have c := c_Source
  have hl : (cs T).length = T.length := Array.length_toList
  refine ⟨_, (pss_cons (ps_set (i := 3) sc_Source_take_letters.nd rfl (Or.inl rfl) (pe_fld (pv 0) rfl))
    (pss_cons (ps_while PassesOwn.never (PW.pt (pw_and (pt_not (pt_truth (pe_hasm0 g_Source_at_end hr (pv 0) c_Source.cls) (fun _ => rfl))) (pw_and1 (pt_chain op_le_str op_le_str (pv 1) (pe_ix ix_str (pe_fld (pv 0) rfl) (pe_fld (pv 0) rfl) (fun _ _ => rfl)) (pv 2)))))
      (pss_one (ps_fldaug (pv 0) pe_int in_add)))
    (pss_one (ps_ret (pe_slice sl_str (pe_fld (pv 0) rfl) (po_some (pv 3)) (po_some (pe_fld (pv 0) rfl))))))), ?_⟩
  refine ⟨_, rfl, a, C, dx, _, _, rfl, ha, c.cls, c.na, rfl, ?_⟩
  have done : ∀ (i : Nat) (H1 : Hp), Bar1 a H H1 → SrAt C H1 a dx T (n + i) → n + i ≤ T.length → (∀ d ∈ (rsT T n).take i, (decide (lo ≤ d) && decide (d ≤ hi)) = true) → (∀ d, (rsT T n)[i]? = some d → (decide (lo ≤ d) && decide (d ≤ hi)) = false) →
      tRet (tSl (fun x lo hi H Q => ∃ z, x = V.str z ∧ z.length ≤ sizeLine ∧ Q (V.str (StrLaws.sliceText z lo hi)) H) (tFld K (tVar 0) "text") (tPart (tVar 3)) (tPart (tFld K (tVar 0) "at"))) { nx := fun _ H' => Q .non H', rt := Q } [some (.ref a), some (.str ⟨#[lo]⟩), some (.str ⟨#[hi]⟩), some (.int (n : Int))] H1 := fun i H1 b1 h1 hle hp hq => by
    refine ⟨_, rfl, a, C, dx, _, _, rfl, h1, c.cls, c.nt, rfl, _, rfl, _, rfl, _, rfl, a, C, dx, _, _, rfl, h1, c.cls, c.na, rfl, ((n + i : Nat) : Int), rfl, T, rfl, len1000 (by (first | lia | omega)), ?_⟩
    have e : StrLaws.sliceText T (some (n : Int)) (some ((n + i : Nat) : Int)) = ⟨((rsT T n).take i).toArray⟩ := by
      rw [StrLaws.sliceText_nat T (by (first | lia | omega)) hle, Nat.add_sub_cancel_left]
      rfl
    rw [e]
    have ez : cs (⟨((rsT T n).take i).toArray⟩ : Str) = (rsT T n).take i := by unfold cs; exact List.toList_toArray
    have lz : (⟨((rsT T n).take i).toArray⟩ : Str).length = i := by
      have : (cs (⟨((rsT T n).take i).toArray⟩ : Str)).length = (⟨((rsT T n).take i).toArray⟩ : Str).length := Array.length_toList
      rw [← this, ez, List.length_take]
      unfold rsT
      rw [List.length_drop, hl]
      (first | lia | omega)
    exact q _ H1 (ez.trans (tw_of hp hq).symm) b1 (by rw [lz]; exact h1)
  refine ⟨fun m σ H1 => ∃ i : Nat, m = T.length - (n + i) ∧ σ = [some (.ref a), some (.str ⟨#[lo]⟩), some (.str ⟨#[hi]⟩), some (.int (n : Int))] ∧ Bar1 a H H1 ∧ SrAt C H1 a dx T (n + i) ∧ n + i ≤ T.length ∧ ∀ d ∈ (rsT T n).take i, (decide (lo ≤ d) && decide (d ≤ hi)) = true, ⟨_, 0, rfl, rfl, Bar1.refl, ha, hn, fun _ h => nomatch h⟩, ?_⟩
  rintro m σ H1 ⟨i, rfl, rfl, b1, h1, hle, hp⟩
  refine ⟨_, rfl, a, dx, _, rfl, h1, rfl, a, dx, T, n + i, rfl, h1, hT, _, rfl, ?_⟩
  by_cases e : n + i = T.length
  · rw [decide_eq_true e]
    refine iteF (iteF ?_)
    refine done i H1 b1 h1 hle hp fun d hd => ?_
    have := (List.getElem?_eq_some_iff.mp hd).1
    unfold rsT at this
    rw [List.length_drop, hl] at this
    (first | lia | omega)
  · rw [decide_eq_false e]
    have hlt : n + i < (cs T).length := by (first | lia | omega)
    have hc0 : (cs T)[n + i]? = some (cs T)[n + i] := List.getElem?_eq_getElem hlt
    obtain ⟨d, hd⟩ : ∃ d, (cs T)[n + i] = d := ⟨_, rfl⟩
    rw [hd] at hc0
    have hd0 : (rsT T n)[i]? = some d := by unfold rsT; rw [List.getElem?_drop]; exact hc0
    refine iteT ?_
    refine ⟨_, rfl, _, rfl, a, C, dx, _, _, rfl, h1, c.cls, c.nt, rfl, _, rfl, a, C, dx, _, _, rfl, h1, c.cls, c.na, rfl, T, ((n + i : Nat) : Int), d, rfl, rfl, len1000 (by (first | lia | omega)), atI_nat hc0, _, _, rfl, rfl, _, rfl, ?_⟩
    have e1 := le_one lo d
    have e2 := le_one d hi
    show if (!decide (([d] : List Nat) < [lo])) = true then _ else _
    rw [e1]
    by_cases l1 : lo ≤ d
    · rw [decide_eq_true l1]
      refine iteT ⟨_, rfl, _, _, rfl, rfl, _, rfl, ?_⟩
      show if (!decide (([hi] : List Nat) < [d])) = true then _ else _
      rw [e2]
      by_cases l2 : d ≤ hi
      · rw [decide_eq_true l2]
        refine iteT ⟨fun σ' H' => ∃ m', m' < T.length - (n + i) ∧ ∃ i : Nat, m' = T.length - (n + i) ∧ σ' = [some (.ref a), some (.str ⟨#[lo]⟩), some (.str ⟨#[hi]⟩), some (.int (n : Int))] ∧ Bar1 a H H' ∧ SrAt C H' a dx T (n + i) ∧ n + i ≤ T.length ∧ ∀ d ∈ (rsT T n).take i, (decide (lo ≤ d) && decide (d ≤ hi)) = true, fun _ _ h => h, ?_⟩
        refine ⟨_, rfl, a, C, dx, _, _, rfl, h1, c.cls, c.na, rfl, _, _, rfl, rfl, dx, _, h1, (show 2 < 1000 by decide), ?_⟩
        refine ⟨_, by show T.length - (n + (i + 1)) < _; (first | lia | omega), i + 1, rfl, rfl, b1.trans Bar1.up, upd_same, by (first | lia | omega), fun x hx => ?_⟩
        rw [take_succ' hd0] at hx
        rcases List.mem_append.mp hx with hx | hx
        · exact hp x hx
        · rw [List.mem_singleton.mp hx, decide_eq_true l1, decide_eq_true l2]
          rfl
      · rw [decide_eq_false l2]
        refine iteF (done i H1 b1 h1 hle hp fun x hx => ?_)
        rw [hd0] at hx
        injection hx with hx
        rw [← hx, decide_eq_false l2, Bool.and_false]
    · rw [decide_eq_false l1]
      refine iteF ⟨_, rfl, iteF (done i H1 b1 h1 hle hp fun x hx => ?_)⟩
      rw [hd0] at hx
      injection hx with hx
      rw [← hx, decide_eq_false l1, Bool.false_and]
theorem tw_all {P : Nat → Bool} {l r : List Nat} (h1 : ∀ c ∈ l, P c = true) (h2 : ∀ c r', r = c :: r' → P c = false) : (l ++ r).takeWhile P = l := by
  have e : (l ++ r).take l.length = l := by simp
  refine (tw_of (i := l.length) (fun c hc => h1 c (by rw [e] at hc; exact hc)) fun c hc => ?_).trans e
  rw [List.getElem?_append_right (Nat.le_refl _), Nat.sub_self] at hc
  cases r with
  | nil => cases hc
  | cons x r' =>
    injection hc with hc
    rw [← hc]
    exact h2 x r' rfl
/-- a name is taken where one stands -/
def spTName (C : Addr) : Sp := fun vs H Q _ => ∃ (a dx : Addr) (T : Str) (n : Nat) (m : Str) (r : List Nat), vs = [.ref a] ∧ SrAt C H a dx T n ∧ n ≤ T.length ∧ T.length ≤ 90000 ∧ rsT T n = cs m ++ r ∧ Upr m ∧ m.length ≤ 8 ∧ (∀ c r', r = c :: r' → ¬ (65 ≤ c ∧ c ≤ 90)) ∧
  ∀ H', Bar1 a H H' → SrAt C H' a dx T (n + m.length) → Q (.str m) H'
theorem ok_Source_take_name (B : ∀ x ∈ blts, mg x = none) (Cc1 : ∃ t : Tok, mg "LONGEST_NAME" = some (.int 8 t)) (c_Source : SrC K C) (g_Source_take_letters : HasM P w K mg base C "take_letters" ["self", "first", "last"] 2 (spLetters C)) (F : Fun K "take_name" "Source.take_name" s_Source_take_name f fd) : FnOk P w K mg base CX0 3 f fd ["self"] (spTName C) := by
  refine F.ok sc_Source_take_name (fun vs H Q E h => ?_) (fun cdv A outer s H vs Q E hr h => ?_)
  · obtain ⟨a, dx, T, n, m, r, rfl, _⟩ := h
    rfl
  obtain ⟨a, dx, T, n, m, r, rfl, ha, hn, hT, er, hu, hm8, hr', q⟩ := h
  obtain ⟨t1, c_LONGEST_NAME⟩ := Cc1
  have hml : (cs m).length = m.length := Array.length_toList
  have hm1 : 1 ≤ m.length := by
    rw [← hml]
    exact List.length_pos_iff.mpr hu.1
  refine ⟨_, (pss_cons (ps_set (i := 1) sc_Source_take_name.nd rfl (Or.inl rfl) (pe_hasm g_Source_take_letters hr (pv 0) c_Source.cls (pa_cons pe_str (pa_cons pe_str pa_nil))))
    (pss_cons (ps_if (pt_not (pt_chain op_le op_le pe_int (pe_callB call_len_str rfl (B "len" (by decide)) PySem.boot_len (pa_cons (pv 1) pa_nil)) (pe_glob (v := .int 8) rfl c_LONGEST_NAME ⟨_, rfl⟩)))
      (pss_one ps_never)
      pss_nil)
    (pss_one (ps_ret (pv 1))))), ?_⟩
  refine ⟨_, rfl, a, dx, _, rfl, ha, rfl, a, dx, T, n, 65, 90, rfl, ha, hn, hT, fun z H' ez b1 h1 => ?_⟩
  have ez : z = m := by
    apply cs_inj
    rw [ez, er]
    refine tw_all (fun c hc => ?_) fun c r' e => ?_
    · have := hu.2 c hc
      rw [decide_eq_true this.1, decide_eq_true this.2]
      rfl
    · have := hr' c r' e
      by_cases l1 : 65 ≤ c
      · rw [decide_eq_false (fun l2 : c ≤ 90 => this ⟨l1, l2⟩), Bool.and_false]
      · rw [decide_eq_false l1, Bool.false_and]
  subst ez
  refine ⟨_, rfl, z, rfl, len1000 (by (first | lia | omega)), _, _, rfl, rfl, _, rfl, ite2 (fun _ => ?_) (fun c => absurd (decide_eq_true (by (first | lia | omega))) c)⟩
  refine ⟨_, _, rfl, rfl, _, rfl, ?_⟩
  have e8 : decide (((z.length : Nat) : Int) ≤ 8) = true := decide_eq_true (by (first | lia | omega))
  show if (!(decide (((z.length : Nat) : Int) ≤ 8))) = true then _ else _
  rw [e8]
  exact iteF ⟨_, rfl, q H' b1 h1⟩
/-! expressions as they lie, the module's own nil among them -/
mutual
inductive RepK (K : PySem.W.Frag) (H : Hp) : Addr → Ex → Prop
  | nil {p : Addr} : SqT K H p [.str "nil"] → RepK K H p .nil
  | tag {p q : Addr} {t : Str} {i : Ex} : SqT K H p [.str "tag", .str t, .ref q] → RepK K H q i → RepK K H p (.tag t i)
  | name {p : Addr} {n : Str} : SqT K H p [.str "name", .str n] → RepK K H p (.name n)
  | several {p q : Addr} {b : Bool} {vs : List V} {ps : Exs} : SqT K H p [.str (sevW b), .ref q] → SqT K H q vs → RepKs K H vs ps → RepK K H p (.several b ps)
  | rep {p q : Addr} {m : Nat} {e : Ex} : SqT K H p [.str (repW m), .ref q] → RepK K H q e → RepK K H p (.rep m e)
inductive RepKs (K : PySem.W.Frag) (H : Hp) : List V → Exs → Prop
  | nil : RepKs K H [] .nil
  | cons {p : Addr} {e : Ex} {vs : List V} {r : Exs} : RepK K H p e → RepKs K H vs r → RepKs K H (.ref p :: vs) (.cons e r)
end
/-- tuples stay -/
def TF (K : PySem.W.Frag) (H H' : Hp) : Prop := ∀ p xs, SqT K H p xs → SqT K H' p xs
mutual
theorem RepK.mono {K : PySem.W.Frag} {H H' : Hp} (k : TF K H H') : ∀ {p : Addr} {e : Ex}, RepK K H p e → RepK K H' p e
  | _, _, .nil h => .nil (k _ _ h)
  | _, _, .tag h r => .tag (k _ _ h) (RepK.mono k r)
  | _, _, .name h => .name (k _ _ h)
  | _, _, .several h1 h2 r => .several (k _ _ h1) (k _ _ h2) (RepKs.mono k r)
  | _, _, .rep h r => .rep (k _ _ h) (RepK.mono k r)
theorem RepKs.mono {K : PySem.W.Frag} {H H' : Hp} (k : TF K H H') : ∀ {vs : List V} {ps : Exs}, RepKs K H vs ps → RepKs K H' vs ps
  | _, _, .nil => .nil
  | _, _, .cons h r => .cons (RepK.mono k h) (RepKs.mono k r)
end
theorem TF.refl {K : PySem.W.Frag} {H : Hp} : TF K H H := fun _ _ h => h
theorem TF.trans {K : PySem.W.Frag} {H H1 H2 : Hp} (x : TF K H H1) (y : TF K H1 H2) : TF K H H2 := fun p xs h => y p xs (x p xs h)
theorem TF.bar {K : PySem.W.Frag} {H H' : Hp} {a C dx : Addr} {fs : List (Str × V)} (b : Bar1 a H H') (ha : H a = some (.ins C dx fs)) : TF K H H' := fun p xs h => by
  rcases h with (h | ⟨o, h⟩) | h
  · refine .inl (.inl (b p _ (fun e => ?_) h))
    rw [e, ha] at h
    cases h
  · refine .inl (.inr ⟨o, b p _ (fun e => ?_) h⟩)
    rw [e, ha] at h
    cases h
  · exact .inr h
theorem TF.same {K : PySem.W.Frag} {H H' : Hp} (s : Same H H') : TF K H H' := fun p xs h => by
  rcases h with (h | ⟨o, h⟩) | h
  · exact .inl (.inl (s _ _ h))
  · exact .inl (.inr ⟨o, s _ _ h⟩)
  · exact .inr h
/-- what is asked of a reading at a level: the text of e, braced by the words l, and r behind it -/
def spTake (K : PySem.W.Frag) (C : Addr) (L : Nat) (l : List Str) (ok : List Nat → Prop) : Sp := fun vs H Q _ => ∃ (a dx : Addr) (T : Str) (n : Nat) (e : Ex) (r : List Nat), vs = [.ref a, .int (L : Int)] ∧ SrAt C H a dx T n ∧ n ≤ T.length ∧ T.length ≤ 400 ∧ rsT T n = tL l e ++ r ∧ wfE e ∧ dp e + (if l.contains (kw e) = true then 1 else 0) < L ∧ ok r ∧
  ∀ (p : Addr) (H' : Hp), Bar1 a H H' → SrAt C H' a dx T (n + (tL l e).length) → RepK K H' p e → Q (.ref p) H'
def spExprT (K : PySem.W.Frag) (C : Addr) (L : Nat) : Sp := spTake K C L [] fE
def spTurnT (K : PySem.W.Frag) (C : Addr) (L : Nat) : Sp := spTake K C L ["or"] fT
def spMarkT (K : PySem.W.Frag) (C : Addr) (L : Nat) : Sp := spTake K C L ["turn", "or"] fM
def spSingT (K : PySem.W.Frag) (C : Addr) (L : Nat) : Sp := spTake K C L five fS
def inL (i : Ex) : List Nat := if isNil i = true then [] else 40 :: (cs (tx i) ++ [41])
def spInnT (K : PySem.W.Frag) (C : Addr) (L : Nat) : Sp := fun vs H Q _ => ∃ (a dx : Addr) (T : Str) (n : Nat) (i : Ex) (r : List Nat), vs = [.ref a, .int (L : Int)] ∧ SrAt C H a dx T n ∧ n ≤ T.length ∧ T.length ≤ 400 ∧ rsT T n = inL i ++ r ∧ wfE i ∧ dp i + 1 < L ∧ fS r ∧
  ∀ (p : Addr) (H' : Hp), Bar1 a H H' → SrAt C H' a dx T (n + (inL i).length) → RepK K H' p i → Q (.ref p) H'
/-- on from a place -/
theorem rsT_add {T : Str} {n : Nat} {x r : List Nat} (h : rsT T n = x ++ r) (hn : n ≤ T.length) : rsT T (n + x.length) = r ∧ n + x.length ≤ T.length := by
  have hl : (cs T).length = T.length := Array.length_toList
  unfold rsT at h ⊢
  have := congrArg List.length h
  rw [List.length_drop, List.length_append, hl] at this
  refine ⟨?_, by (first | lia | omega)⟩
  rw [← List.drop_drop, h, List.drop_left]
variable {A_NIL : Addr}
set_option maxHeartbeats 1000000 in
theorem ok_Source_take_inner (L : Nat) (B : ∀ x ∈ blts, mg x = none) (c_NIL : mg "NIL" = some (.ref A_NIL)) (nilT : ∀ H, SqT K H A_NIL [.str "nil"]) (c_Source : SrC K C) (g_Source_skips : HasM P w K mg base C "skips" ["self", "piece"] 2 (spSkips C)) (g_Source_take_expr : HasM P w K mg base C "take_expr" ["self", "levels"] (5 * L + 4) (spExprT K C L)) (g_Source_must_skip : HasM P w K mg base C "must_skip" ["self", "piece"] 3 (spMust C)) (F : Fun K "take_inner" "Source.take_inner" s_Source_take_inner f fd) : FnOk P w K mg base CX0 (5 * L + 5) f fd ["self", "levels"] (spInnT K C (L + 1)) := by
  refine F.ok sc_Source_take_inner (fun vs H Q E h => ?_) (fun cdv A outer s H vs Q E hr h => ?_)
  · obtain ⟨a, dx, T, n, i, r, rfl, _⟩ := h
    rfl
  obtain ⟨a, dx, T, n, i, r, rfl, ha, hn, hT, er, hw, hd, hf, q⟩ := h
  refine ⟨_, (pss_cons (ps_if (pt_not (pt_truth (pe_hasm g_Source_skips hr (pv 0) c_Source.cls (pa_cons pe_str pa_nil) (by (first | lia | omega))) (fun _ => rfl)))
      (pss_one (ps_ret (pe_glob (v := .ref A_NIL) rfl c_NIL rfl)))
      pss_nil)
    (pss_cons (ps_set (i := 2) sc_Source_take_inner.nd rfl (Or.inl rfl) (pe_hasm g_Source_take_expr hr (pv 0) c_Source.cls (pa_cons (pe_op op_sub (pv 1) pe_int) pa_nil) (by (first | lia | omega))))
    (pss_cons (ps_expr (pe_hasm g_Source_must_skip hr (pv 0) c_Source.cls (pa_cons pe_str pa_nil) (by (first | lia | omega))))
    (pss_one (ps_ret (pv 2)))))), ?_⟩
  refine ⟨_, rfl, a, dx, _, rfl, ha, rfl, a, dx, T, n, "(", rfl, ha, hn, (by decide), fun z => ?_, fun z H1 b1 h1 => ?_⟩
  · refine ⟨_, rfl, iteT ?_⟩
    have hi : isNil i = true := by
      cases hc : isNil i with
      | true => rfl
      | false =>
        refine absurd ⟨cs (tx i) ++ [41] ++ r, ?_⟩ z
        rw [er]
        unfold inL
        rw [hc, if_neg Bool.false_ne_true]
        simp [cs]
        rfl
    cases i with
    | nil => exact q A_NIL H Bar1.refl ha (.nil (nilT H))
    | _ => cases hi
  · refine ⟨_, rfl, iteF ?_⟩
    have hi : isNil i = false := by
      cases hc : isNil i with
      | false => rfl
      | true =>
        exfalso
        unfold inL at er
        rw [hc, if_pos rfl, List.nil_append] at er
        obtain ⟨y, z⟩ := z
        rw [er] at z
        exact (fS_head hf (c := 40) (r' := y) z.symm).2.2 rfl
    have ei : inL i = 40 :: (cs (tx i) ++ [41]) := by unfold inL; rw [hi, if_neg Bool.false_ne_true]
    have e1 : rsT T n = [40] ++ (tL [] i ++ (41 :: r)) := by
      rw [er, ei]
      show _ = [40] ++ (cs (tx i) ++ (41 :: r))
      simp
    obtain ⟨e2, n2⟩ := rsT_add e1 hn
    have h1 : SrAt C H1 a dx T (n + 1) := h1
    refine ⟨_, rfl, a, dx, _, rfl, h1, rfl, _, rfl, _, _, rfl, rfl, a, dx, T, n + 1, i, 41 :: r, ?_, h1, n2, hT, e2, hw, ?_, .inr ⟨41, r, rfl, by (first | lia | omega)⟩, fun p H2 b2 h2 rp => ?_⟩
    · show [V.ref a, V.int (((L + 1 : Nat) : Int) - 1)] = _
      rw [show (((L + 1 : Nat) : Int) - 1) = (L : Int) by (first | lia | omega)]
    · show dp i + 0 < L
      (first | lia | omega)
    obtain ⟨e3, n3⟩ := rsT_add e2 n2
    refine ⟨_, rfl, a, dx, _, rfl, h2, rfl, a, dx, T, _, ")", rfl, h2, n3, (by decide), ⟨r, e3.symm⟩, fun H3 b3 h3 => ?_⟩
    refine ⟨_, rfl, q p H3 ((b1.trans b2).trans b3) ?_ (rp.mono (TF.bar b3 h2))⟩
    have : n + (inL i).length = n + 1 + (tL [] i).length + (Str.ofString ")").length := by
      rw [ei, List.length_cons, List.length_append]
      show n + ((cs (tx i)).length + 1 + 1) = n + 1 + (cs (tx i)).length + 1
      (first | lia | omega)
    rw [this]
    exact h3
theorem tx_tag {t : Str} {i : Ex} : cs (tx (.tag t i)) = cs t ++ inL i := by
  rw [tx]
  unfold inL
  split
  · rw [List.append_nil]
  · rw [cs_app, cs_app, cs_app]
    show cs t ++ [40] ++ cs (tx i) ++ [41] = _
    simp
set_option maxHeartbeats 2000000 in
theorem ok_Source_take_single (L : Nat) (B : ∀ x ∈ blts, mg x = none) (c_NIL : mg "NIL" = some (.ref A_NIL)) (nilT : ∀ H, SqT K H A_NIL [.str "nil"]) (c_Source : SrC K C) (g_Source_skips : HasM P w K mg base C "skips" ["self", "piece"] 2 (spSkips C)) (g_Source_take_expr : HasM P w K mg base C "take_expr" ["self", "levels"] (5 * L + 4) (spExprT K C L)) (g_Source_must_skip : HasM P w K mg base C "must_skip" ["self", "piece"] 3 (spMust C)) (g_Source_take_letters : HasM P w K mg base C "take_letters" ["self", "first", "last"] 2 (spLetters C)) (g_Source_take_name : HasM P w K mg base C "take_name" ["self"] 3 (spTName C)) (g_is_tag : Has P w K mg base "is_tag" ["text"] 1 spIsTag) (g_Source_take_inner : HasM P w K mg base C "take_inner" ["self", "levels"] (5 * L + 5) (spInnT K C (L + 1))) (F : Fun K "take_single" "Source.take_single" s_Source_take_single f fd) : FnOk P w K mg base CX0 (5 * L + 6) f fd ["self", "levels"] (spSingT K C (L + 1)) := by
  refine F.ok sc_Source_take_single (fun vs H Q E h => ?_) (fun cdv A outer s H vs Q E hr h => ?_)
  · obtain ⟨a, dx, T, n, i, r, rfl, _⟩ := h
    rfl
  obtain ⟨a, dx, T, n, e, r, rfl, ha, hn, hT, er, hw, hd, hf, q⟩ := h
  refine ⟨_, (pss_cons (ps_if (pt_truth (pe_hasm g_Source_skips hr (pv 0) c_Source.cls (pa_cons pe_str pa_nil) (by (first | lia | omega))) (fun _ => rfl))
      (pss_one (ps_ret (pe_glob (v := .ref A_NIL) rfl c_NIL rfl)))
      pss_nil)
    (pss_cons (ps_if (pt_truth (pe_hasm g_Source_skips hr (pv 0) c_Source.cls (pa_cons pe_str pa_nil) (by (first | lia | omega))) (fun _ => rfl))
      (pss_cons (ps_set (i := 2) sc_Source_take_single.nd rfl (Or.inl rfl) (pe_hasm g_Source_take_expr hr (pv 0) c_Source.cls (pa_cons (pe_op op_sub (pv 1) pe_int) pa_nil) (by (first | lia | omega))))
        (pss_cons (ps_expr (pe_hasm g_Source_must_skip hr (pv 0) c_Source.cls (pa_cons pe_str pa_nil) (by (first | lia | omega))))
        (pss_one (ps_ret (pv 2)))))
      pss_nil)
    (pss_cons (ps_set (i := 3) sc_Source_take_single.nd rfl (Or.inl rfl) (pe_hasm g_Source_take_letters hr (pv 0) c_Source.cls (pa_cons pe_str (pa_cons pe_str pa_nil)) (by (first | lia | omega))))
    (pss_cons (ps_if (pt_cmpR op_eq (pv 3) pe_str (nomark _))
      (pss_one (ps_ret (pe_tup (pa_cons pe_str (pa_cons (pe_hasm0 g_Source_take_name hr (pv 0) c_Source.cls (by (first | lia | omega))) pa_nil)))))
      pss_nil)
    (pss_cons (ps_if (pt_not (pt_truth (pe_has g_is_tag hr rfl (pa_cons (pv 3) pa_nil) (by (first | lia | omega))) (fun _ => rfl)))
      (pss_one ps_never)
      pss_nil)
    (pss_one (ps_ret (pe_tup (pa_cons pe_str (pa_cons (pv 3) (pa_cons (pe_hasm g_Source_take_inner hr (pv 0) c_Source.cls (pa_cons (pv 1) pa_nil) (by (first | lia | omega))) pa_nil))))))))))), ?_⟩
  refine ⟨_, rfl, a, dx, _, rfl, ha, rfl, a, dx, T, n, "{}", rfl, ha, hn, (by decide), fun z => ?_, fun z H1 b1 h1 => ?_⟩
  rotate_left
  · have hi : isNil e = true := (sees_nil (r := r) hw).mp (by rw [← er]; exact z)
    refine ⟨_, rfl, iteT ?_⟩
    cases e with
    | nil => exact q A_NIL H1 b1 h1 (.nil (nilT H1))
    | _ => cases hi
  have hi : isNil e = false := by
    cases hc : isNil e with
    | false => rfl
    | true => exact absurd (by rw [er]; exact (sees_nil (r := r) hw).mpr hc) z
  refine ⟨_, rfl, iteF ?_⟩
  refine ⟨_, rfl, a, dx, _, rfl, ha, rfl, a, dx, T, n, "{", rfl, ha, hn, (by decide), fun z2 => ?_, fun z2 H1 b1 h1 => ?_⟩
  rotate_left
  · have hb : five.contains (kw e) = true := (brace_of (r := r) hw hi).mp (by rw [← er]; exact z2)
    refine ⟨_, rfl, iteT ?_⟩
    have e1 : rsT T n = [123] ++ (tL [] e ++ (125 :: r)) := by
      rw [er, tL_in hb]
      show _ = [123] ++ (cs (tx e) ++ (125 :: r))
      simp
    obtain ⟨e2, n2⟩ := rsT_add e1 hn
    have h1 : SrAt C H1 a dx T (n + 1) := h1
    rw [if_pos hb] at hd
    refine ⟨_, rfl, a, dx, _, rfl, h1, rfl, _, rfl, _, _, rfl, rfl, a, dx, T, n + 1, e, 125 :: r, ?_, h1, n2, hT, e2, hw, ?_, .inr ⟨125, r, rfl, by (first | lia | omega)⟩, fun p H2 b2 h2 rp => ?_⟩
    · show [V.ref a, V.int (((L + 1 : Nat) : Int) - 1)] = _
      rw [show (((L + 1 : Nat) : Int) - 1) = (L : Int) by (first | lia | omega)]
    · show dp e + 0 < L
      (first | lia | omega)
    obtain ⟨e3, n3⟩ := rsT_add e2 n2
    refine ⟨_, rfl, a, dx, _, rfl, h2, rfl, a, dx, T, _, "}", rfl, h2, n3, (by decide), ⟨r, e3.symm⟩, fun H3 b3 h3 => ?_⟩
    refine ⟨_, rfl, q p H3 ((b1.trans b2).trans b3) ?_ (rp.mono (TF.bar b3 h2))⟩
    have : n + (tL five e).length = n + 1 + (tL [] e).length + (Str.ofString "}").length := by
      rw [tL_in hb, List.length_cons, List.length_append]
      show n + ((cs (tx e)).length + 1 + 1) = n + 1 + (cs (tx e)).length + 1
      (first | lia | omega)
    rw [this]
    exact h3
  have hb : five.contains (kw e) = false := by
    cases hc : five.contains (kw e) with
    | false => rfl
    | true => exact absurd (by rw [er]; exact (brace_of (r := r) hw hi).mpr hc) z2
  refine ⟨_, rfl, iteF ?_⟩
  rw [tL_out hb] at er q
  refine ⟨_, rfl, a, dx, _, rfl, ha, rfl, a, dx, T, n, 97, 122, rfl, ha, hn, (by (first | lia | omega)), fun t0 H1 et b1 h1 => ?_⟩
  cases e with
  | nil => cases hi
  | several b ps =>
    have hb : five.contains (sevW b) = false := hb
    cases b <;> exact absurd hb (by decide)
  | rep m p =>
    exfalso
    revert hb
    show ¬ five.contains (repW m) = false
    unfold repW
    split
    · decide
    · split <;> decide
  | name m =>
    obtain ⟨hu, h8⟩ := hw
    have er : rsT T n = cs m ++ r := er
    obtain ⟨c, y, ec⟩ := List.exists_cons_of_ne_nil hu.1
    have hc : 65 ≤ c ∧ c ≤ 90 := hu.2 c (by rw [ec]; exact List.mem_cons_self ..)
    have e0 : t0 = "" := by
      apply cs_inj
      rw [et, er, ec, List.cons_append, List.takeWhile_cons, decide_eq_false (by (first | lia | omega) : ¬ 97 ≤ c)]
      rfl
    subst e0
    have h1 : SrAt C H1 a dx T n := h1
    refine ⟨_, rfl, rfl, _, rfl, ite2 (fun _ => ?_) (fun z => absurd (decide_eq_true rfl) z)⟩
    refine ⟨_, rfl, a, dx, _, rfl, h1, rfl, a, dx, T, n, m, r, rfl, h1, hn, (by (first | lia | omega)), er, hu, h8, fun c r' e => (fS_head hf e).2.1, fun H2 b2 h2 => ?_⟩
    refine ⟨(by show (2 : Nat) ≤ sizeLine; decide), fun p hp => ?_⟩
    have s3 := Same.new (o := .tup [.str "name", .str m]) hp
    have hml : (cs m).length = m.length := Array.length_toList
    refine q p _ ((b1.trans b2).trans (Bar1.same s3)) ?_ (.name (SqT.of upd_same))
    show SrAt C _ a dx T (n + (cs m).length)
    rw [hml]
    exact s3 _ _ h2
  | tag t i =>
    obtain ⟨⟨hl, h8⟩, hwi⟩ := hw
    rw [hb, if_neg Bool.false_ne_true] at hd
    have hd : dp i + 1 + 0 < L + 1 := hd
    rw [tx_tag, List.append_assoc] at er
    have hml : (cs t).length = t.length := Array.length_toList
    have hne : cs t ≠ [] := hl.1
    have e0 : t0 = t := by
      apply cs_inj
      rw [et, er]
      refine tw_all (fun c hc => ?_) fun c r' e => ?_
      · have := hl.2 c hc
        rw [decide_eq_true this.1, decide_eq_true this.2]
        rfl
      · have hn' : ¬ (97 ≤ c ∧ c ≤ 122) := by
          unfold inL at e
          split at e
          · exact (fS_head hf e).1
          · injection e with e _
            (first | lia | omega)
        by_cases l1 : 97 ≤ c
        · rw [decide_eq_false (fun l2 : c ≤ 122 => hn' ⟨l1, l2⟩), Bool.and_false]
        · rw [decide_eq_false l1, Bool.false_and]
    subst e0
    obtain ⟨e2, n2⟩ := rsT_add er hn
    rw [hml] at e2 n2
    refine ⟨_, rfl, rfl, _, rfl, ite2 (fun z => ?_) (fun _ => ?_)⟩
    · exfalso
      have z : V.str t0 = V.str "" := of_decide_eq_true z
      injection z with z
      rw [z] at hne
      exact hne rfl
    refine ⟨_, rfl, t0, rfl, by (first | lia | omega), fun H2 s2 => ⟨_, rfl, ?_⟩⟩
    rw [tagB_letsS hl h8]
    refine iteF ?_
    have h2 : SrAt C H2 a dx T (n + t0.length) := s2 _ _ h1
    refine ⟨_, rfl, _, rfl, a, dx, _, rfl, h2, rfl, _, rfl, a, dx, T, n + t0.length, i, r, rfl, h2, n2, hT, e2, hwi, by (first | lia | omega), hf, fun p H3 b3 h3 rp => ?_⟩
    refine ⟨(by show (3 : Nat) ≤ sizeLine; decide), fun pp hp => ?_⟩
    have s4 := Same.new (o := .tup [.str "tag", .str t0, .ref p]) hp
    refine q pp _ (((b1.trans (Bar1.same s2)).trans b3).trans (Bar1.same s4)) ?_ (.tag (SqT.of upd_same) (rp.mono (TF.same s4)))
    rw [tx_tag, List.length_append, hml, ← Nat.add_assoc]
    exact s4 _ _ h3
def mks : List (Str × V) := [("many", .str "*"), ("some", .str "+"), ("maybe", .str "?")]
theorem mks_get {i : Nat} {k : Str} {v : V} (h : mks[i]? = some (k, v)) : i < 3 ∧ k = repW i ∧ v = .str (repM i) := by
  match i, h with
  | 0, h => cases h; exact ⟨by decide, rfl, rfl⟩
  | 1, h => cases h; exact ⟨by decide, rfl, rfl⟩
  | 2, h => cases h; exact ⟨by decide, rfl, rfl⟩
  | i + 3, h => cases h
theorem repM_cs {i : Nat} (h : i < 3) : ∃ c, cs (repM i) = [c] ∧ (c = 42 ∨ c = 43 ∨ c = 63) ∧ (repM i).length = 1 := by
  match i, h with
  | 0, _ => exact ⟨42, rfl, .inl rfl, rfl⟩
  | 1, _ => exact ⟨43, rfl, .inr (.inl rfl), rfl⟩
  | 2, _ => exact ⟨63, rfl, .inr (.inr rfl), rfl⟩
theorem repM_inj {i j : Nat} (h : i < 3) (h' : j < 3) (e : cs (repM i) = cs (repM j)) : i = j := by
  match i, j, h, h' with
  | 0, 0, _, _ => rfl
  | 1, 1, _, _ => rfl
  | 2, 2, _, _ => rfl
  | 0, 1, _, _ => exact absurd e (by decide)
  | 0, 2, _, _ => exact absurd e (by decide)
  | 1, 0, _, _ => exact absurd e (by decide)
  | 1, 2, _, _ => exact absurd e (by decide)
  | 2, 0, _, _ => exact absurd e (by decide)
  | 2, 1, _, _ => exact absurd e (by decide)
variable {A_MARKS : Addr}
set_option maxHeartbeats 2000000 in
theorem ok_Source_take_marked (L : Nat) (B : ∀ x ∈ blts, mg x = none) (c_MARKS : mg "MARKS" = some (.ref A_MARKS)) (marksD : KTab K A_MARKS mks) (marksS : (A_MARKS == sysModules) = false) (c_Source : SrC K C) (g_Source_take_single : HasM P w K mg base C "take_single" ["self", "levels"] (5 * L + 6) (spSingT K C (L + 1))) (g_Source_skips : HasM P w K mg base C "skips" ["self", "piece"] 2 (spSkips C)) (F : Fun K "take_marked" "Source.take_marked" s_Source_take_marked f fd) : FnOk P w K mg base CX0 (5 * L + 7) f fd ["self", "levels"] (spMarkT K C (L + 1)) := by
  refine F.ok sc_Source_take_marked (fun vs H Q E h => ?_) (fun cdv A outer s H vs Q E hr h => ?_)
  · obtain ⟨a, dx, T, n, i, r, rfl, _⟩ := h
    rfl
  obtain ⟨a, dx, T, n, e, r, rfl, ha, hn, hT, er, hw, hd, hf, q⟩ := h
  refine ⟨_, (pss_cons (ps_set (i := 2) sc_Source_take_marked.nd rfl (Or.inl rfl) (pe_hasm g_Source_take_single hr (pv 0) c_Source.cls (pa_cons (pv 1) pa_nil) (by (first | lia | omega))))
    (pss_cons (ps_for PassesOwn.never rfl (pi_items (pe_glob (v := .ref A_MARKS) rfl c_MARKS rfl)) (pg_tup rfl (pgs_cons (pg_name (i := 3) sc_Source_take_marked.nd rfl (Or.inl rfl)) (pgs_cons (pg_name (i := 4) sc_Source_take_marked.nd rfl (Or.inl rfl)) pgs_nil)))
      (pss_one (ps_if (pt_truth (pe_hasm g_Source_skips hr (pv 0) c_Source.cls (pa_cons (pv 4) pa_nil) (by (first | lia | omega))) (fun _ => rfl))
          (pss_one (ps_ret (pe_tup (pa_cons (pv 3) (pa_cons (pv 2) pa_nil)))))
          pss_nil)))
    (pss_one (ps_ret (pv 2))))), ?_⟩
  have key : (∃ m p, e = .rep m p) ∨ (tL ["turn", "or"] e = tL five e ∧ five.contains (kw e) = (["turn", "or"] : List Str).contains (kw e)) := by
    cases e with
    | rep m p => exact .inl ⟨m, p, rfl⟩
    | several b ps =>
      have h1 : five.contains (sevW b) = (["turn", "or"] : List Str).contains (sevW b) := by cases b <;> decide
      refine .inr ⟨?_, h1⟩
      unfold tL brc
      show cs (if (["turn", "or"] : List Str).contains (sevW b) = true then _ else _) = cs (if five.contains (sevW b) = true then _ else _)
      rw [h1]
    | nil => exact .inr ⟨rfl, rfl⟩
    | name _ => exact .inr ⟨rfl, rfl⟩
    | tag _ _ => exact .inr ⟨rfl, rfl⟩
  rcases key with ⟨m, p0, rfl⟩ | ⟨ek, hk⟩
  · obtain ⟨m2, hwp⟩ := hw
    have m3 : m < 3 := by (first | lia | omega)
    have ho : (["turn", "or"] : List Str).contains (kw (.rep m p0)) = false := by
      show (["turn", "or"] : List Str).contains (repW m) = false
      unfold repW
      split
      · decide
      · split <;> decide
    have et : tL ["turn", "or"] (.rep m p0) = tL five p0 ++ cs (repM m) := by
      rw [tL_out ho, tx, cs_app]
      rfl
    rw [et] at er q
    rw [ho, if_neg Bool.false_ne_true] at hd
    have hd : dp p0 + 1 + 0 < L + 1 := hd
    rw [List.append_assoc] at er
    obtain ⟨c, ec, hc, lc⟩ := repM_cs m3
    obtain ⟨e2, n2⟩ := rsT_add er hn
    refine ⟨_, rfl, a, dx, _, rfl, ha, rfl, _, rfl, a, dx, T, n, p0, cs (repM m) ++ r, rfl, ha, hn, hT, er, hwp, by split <;> (first | lia | omega), .inr ⟨c, r, by rw [ec]; rfl, hc⟩, fun pp H1 b1 h1 rp => ?_⟩
    refine ⟨A_MARKS, mks, rfl, marksD, marksS, for_items (fun i σ H2 => ∃ v3 v4 : Option V, σ = [some (.ref a), some (.int ((L + 1 : Nat) : Int)), some (.ref pp), v3, v4] ∧ Same H1 H2 ∧ i ≤ m) ⟨none, none, rfl, Same.refl _, Nat.zero_le _⟩ ?_ ?_⟩
    · rintro i k v u σ H2 hg ⟨v3, v4, rfl, s2, him⟩ hu
      obtain ⟨i3, rfl, rfl⟩ := mks_get hg
      have s3 := Same.new (o := .tup [.str (repW i), .str (repM i)]) hu
      have s13 := s2.trans s3
      have h3 : SrAt C _ a dx T (n + (tL five p0).length) := s13 _ _ h1
      refine ⟨u, _, rfl, SqT.of upd_same, rfl, _, _, rfl, _, _, rfl, rfl, ?_⟩
      refine ⟨_, rfl, a, dx, _, rfl, h3, rfl, _, rfl, a, dx, T, _, repM i, rfl, h3, n2, by rw [(repM_cs i3).choose_spec.2.2]; decide, fun z => ⟨_, rfl, iteF ⟨_, _, rfl, s13, ?_⟩⟩, fun z H4 b4 h4 => ⟨_, rfl, iteT ?_⟩⟩
      · by_cases h : i = m
        · subst h
          exact absurd ⟨r, e2.symm⟩ z
        · (first | lia | omega)
      · have im : i = m := by
          refine repM_inj i3 m3 ?_
          obtain ⟨y, z⟩ := z
          obtain ⟨d, ed, _, _⟩ := repM_cs i3
          rw [e2, ec, ed] at z
          injection z with z _
          rw [ed, ec, z]
        subst im
        refine ⟨_, rfl, _, rfl, (by show (2 : Nat) ≤ sizeLine; decide), fun p5 hp5 => ?_⟩
        have s5 := Same.new (o := .tup [.str (repW i), .ref pp]) hp5
        refine q p5 _ (((b1.trans (Bar1.same s13)).trans b4).trans (Bar1.same s5)) ?_ (.rep (SqT.of upd_same) ((rp.mono ((TF.same s13).trans (TF.bar b4 h3))).mono (TF.same s5)))
        rw [List.length_append, ec, ← Nat.add_assoc]
        rw [lc] at h4
        exact s5 _ _ h4
    · rintro σ H2 ⟨v3, v4, rfl, s2, him⟩
      have : mks.length ≤ m := him
      exact absurd this (by show ¬ 3 ≤ m; (first | lia | omega))
  · rw [ek] at er q
    rw [← hk] at hd
    refine ⟨_, rfl, a, dx, _, rfl, ha, rfl, _, rfl, a, dx, T, n, e, r, rfl, ha, hn, hT, er, hw, hd, .inl hf, fun pp H1 b1 h1 rp => ?_⟩
    obtain ⟨e2, n2⟩ := rsT_add er hn
    refine ⟨A_MARKS, mks, rfl, marksD, marksS, for_items (fun i σ H2 => ∃ v3 v4 : Option V, σ = [some (.ref a), some (.int ((L + 1 : Nat) : Int)), some (.ref pp), v3, v4] ∧ Same H1 H2) ⟨none, none, rfl, Same.refl _⟩ ?_ ?_⟩
    · rintro i k v u σ H2 hg ⟨v3, v4, rfl, s2⟩ hu
      obtain ⟨i3, rfl, rfl⟩ := mks_get hg
      have s3 := Same.new (o := .tup [.str (repW i), .str (repM i)]) hu
      have s13 := s2.trans s3
      have h3 : SrAt C _ a dx T (n + (tL five e).length) := s13 _ _ h1
      obtain ⟨d, ed, hdd, ld⟩ := repM_cs i3
      refine ⟨u, _, rfl, SqT.of upd_same, rfl, _, _, rfl, _, _, rfl, rfl, ?_⟩
      refine ⟨_, rfl, a, dx, _, rfl, h3, rfl, _, rfl, a, dx, T, _, repM i, rfl, h3, n2, by rw [ld]; decide, fun z => ⟨_, rfl, iteF ⟨_, _, rfl, s13⟩⟩, fun z H4 b4 h4 => ?_⟩
      rw [e2, ed] at z
      exact absurd z (fM_mark hf hdd)
    · rintro σ H2 ⟨v3, v4, rfl, s2⟩
      exact ⟨_, rfl, q pp H2 (b1.trans (Bar1.same s2)) (s2 _ _ h1) (rp.mono (TF.same s2))⟩
theorem RepKs.of {K : PySem.W.Frag} {H : Hp} : ∀ {ps : Exs} {vs : List V}, Paired (fun (v : V) (e : Ex) => ∃ p, v = .ref p ∧ RepK K H p e) vs (toL ps) → RepKs K H vs ps
  | .nil, _, h => by cases h; exact .nil
  | .cons e r, _, h => by
    cases h with
    | cons x t =>
      obtain ⟨p, rfl, y⟩ := x
      exact .cons y (RepKs.of t)
theorem PR.keep {K : PySem.W.Frag} {H H' : Hp} (k : TF K H H') {vs : List V} {es : List Ex} (h : Paired (fun (v : V) (e : Ex) => ∃ p, v = .ref p ∧ RepK K H p e) vs es) : Paired (fun (v : V) (e : Ex) => ∃ p, v = .ref p ∧ RepK K H' p e) vs es := by
  induction h with
  | nil => exact .nil
  | cons x t ih =>
    obtain ⟨p, e, y⟩ := x
    exact .cons ⟨p, e, y.mono k⟩ ih
theorem PR.len {K : PySem.W.Frag} {H : Hp} {vs : List V} {es : List Ex} (h : Paired (fun (v : V) (e : Ex) => ∃ p, v = .ref p ∧ RepK K H p e) vs es) : vs.length = es.length := by
  induction h with
  | nil => rfl
  | cons _ _ ih => rw [List.length_cons, List.length_cons, ih]
theorem flat_ge {l : List Str} : ∀ es : List Ex, es.length ≤ (es.flatMap fun p => [32] ++ tL l p).length
  | [] => Nat.zero_le _
  | e :: es => by
    have := flat_ge (l := l) es
    rw [List.flatMap_cons, List.length_append, List.length_append, List.length_cons]
    show _ ≤ 1 + _ + _
    (first | lia | omega)
theorem Bar1.new {a pl : Addr} {H H1 H2 : Hp} {o : HO} (b1 : Bar1 a H H1) (n1 : H1 pl = none) (na : pl ≠ a) (b2 : Bar1 a H H2) : Bar1 a H (upd H2 pl o) := fun b u hb e => by
  have : b ≠ pl := fun z => by
    have := b1 b u hb e
    rw [z, n1] at this
    cases this
  rw [upd_ne this]
  exact b2 b u hb e
theorem TF.lst {K : PySem.W.Frag} {H : Hp} {pl : Addr} {vs ws : List V} (h : H pl = some (.lst vs)) : TF K H (upd H pl (.lst ws)) := fun p xs k => by
  rcases k with (k | ⟨o, k⟩) | k
  · refine .inl (.inl ?_)
    rw [upd_ne fun z => by rw [z, h] at k; cases k]
    exact k
  · refine .inl (.inr ⟨o, ?_⟩)
    rw [upd_ne fun z => by rw [z, h] at k; cases k]
    exact k
  · exact .inr k
theorem rsT_inj {T : Str} {x y : Nat} (hx : x ≤ T.length) (hy : y ≤ T.length) (e : rsT T x = rsT T y) : x = y := by
  have hl : (cs T).length = T.length := Array.length_toList
  have := congrArg List.length e
  unfold rsT at this
  rw [List.length_drop, List.length_drop, hl] at this
  (first | lia | omega)
theorem PR.snoc {K : PySem.W.Frag} {H : Hp} {vs : List V} {es : List Ex} {p : Addr} {e : Ex} (h : Paired (fun (v : V) (e : Ex) => ∃ p, v = .ref p ∧ RepK K H p e) vs es) (r : RepK K H p e) : Paired (fun (v : V) (e : Ex) => ∃ p, v = .ref p ∧ RepK K H p e) (vs ++ [.ref p]) (es ++ [e]) := by
  induction h with
  | nil => exact .cons ⟨p, rfl, r⟩ .nil
  | cons x t ih => exact .cons x ih
set_option maxHeartbeats 2000000 in
theorem ok_Source_take_turn (L : Nat) (B : ∀ x ∈ blts, mg x = none) (c_Source : SrC K C) (g_Source_take_marked : HasM P w K mg base C "take_marked" ["self", "levels"] (5 * L + 7) (spMarkT K C (L + 1))) (g_Source_sees : HasM P w K mg base C "sees" ["self", "piece"] 1 (spSees C)) (g_Source_skips : HasM P w K mg base C "skips" ["self", "piece"] 2 (spSkips C)) (F : Fun K "take_turn" "Source.take_turn" s_Source_take_turn f fd) : FnOk P w K mg base CX0 (5 * L + 8) f fd ["self", "levels"] (spTurnT K C (L + 1)) := by
  refine F.ok sc_Source_take_turn (fun vs H Q E h => ?_) (fun cdv A outer s H vs Q E hr h => ?_)
  · obtain ⟨a, dx, T, n, i, r, rfl, _⟩ := h
    rfl
  obtain ⟨a, dx, T, n, e, r, rfl, ha, hn, hT, er, hw, hd, hf, q⟩ := h
  refine ⟨_, (pss_cons (ps_set (i := 2) sc_Source_take_turn.nd rfl (Or.inl rfl) (pe_lst (pa_cons (pe_hasm g_Source_take_marked hr (pv 0) c_Source.cls (pa_cons (pv 1) pa_nil) (by (first | lia | omega))) pa_nil)))
    (pss_cons (ps_while PassesOwn.never (PW.pt (pw_and (pt_not (pt_truth (pe_hasm g_Source_sees hr (pv 0) c_Source.cls (pa_cons pe_str pa_nil) (by (first | lia | omega))) (fun _ => rfl))) (pw_and1 (pt_truth (pe_hasm g_Source_skips hr (pv 0) c_Source.cls (pa_cons pe_str pa_nil) (by (first | lia | omega))) (fun _ => rfl)))))
      (pss_one (ps_expr (pe_bm PySem.F.plainAttrs_list PySem.F.slot_list_append PySem.F.type_list_append mt_append (pv 2) (pa_cons (pe_hasm g_Source_take_marked hr (pv 0) c_Source.cls (pa_cons (pv 1) pa_nil) (by (first | lia | omega))) pa_nil)))))
    (pss_one (ps_ret (pe_ifExp (pt_cmpR op_eq (pe_callB call_len_seq rfl (B "len" (by decide)) PySem.boot_len (pa_cons (pv 2) pa_nil)) pe_int (nomark _)) (pe_ix ix_list (pv 2) pe_int (fun _ _ => rfl)) (pe_tup (pa_cons pe_str (pa_cons (pe_callTy call_tuple_of rfl (B "tuple" (by decide)) bt_tuple (pa_cons (pv 2) pa_nil)) pa_nil)))))))), ?_⟩
  obtain ⟨e1, es, et, hall, f1, f2⟩ : ∃ (e1 : Ex) (es : List Ex), tL ["or"] e = tL ["turn", "or"] e1 ++ (es.flatMap fun p => [32] ++ tL ["turn", "or"] p) ∧ (∀ p ∈ e1 :: es, wfE p ∧ dp p + (if (["turn", "or"] : List Str).contains (kw p) = true then 1 else 0) < L + 1) ∧ (∀ H' p, es = [] → RepK K H' p e1 → RepK K H' p e) ∧ (∀ H' p q' vs, es ≠ [] → SqT K H' p [.str "turn", .ref q'] → SqT K H' q' vs → Paired (fun (v : V) (e : Ex) => ∃ p, v = .ref p ∧ RepK K H' p e) vs (e1 :: es) → RepK K H' p e) := by
    have plain : tL ["or"] e = tL ["turn", "or"] e → (["or"] : List Str).contains (kw e) = (["turn", "or"] : List Str).contains (kw e) → _ := fun h1 h2 => (⟨e, [], by rw [h1]; simp, fun p hp => by
        rw [List.mem_singleton.mp hp, ← h2]
        exact ⟨hw, hd⟩, fun _ _ _ h => h, fun _ _ _ _ h => absurd rfl h⟩ : ∃ (e1 : Ex) (es : List Ex), tL ["or"] e = tL ["turn", "or"] e1 ++ (es.flatMap fun p => [32] ++ tL ["turn", "or"] p) ∧ (∀ p ∈ e1 :: es, wfE p ∧ dp p + (if (["turn", "or"] : List Str).contains (kw p) = true then 1 else 0) < L + 1) ∧ (∀ H' p, es = [] → RepK K H' p e1 → RepK K H' p e) ∧ (∀ H' p q' vs, es ≠ [] → SqT K H' p [.str "turn", .ref q'] → SqT K H' q' vs → Paired (fun (v : V) (e : Ex) => ∃ p, v = .ref p ∧ RepK K H' p e) vs (e1 :: es) → RepK K H' p e))
    cases e with
    | several b ps =>
      cases b with
      | true =>
        cases ps with
        | nil => exact absurd hw.1 (by show ¬ 2 ≤ 0; decide)
        | cons e1 es =>
          have ho : (["or"] : List Str).contains (kw (.several true (.cons e1 es))) = false := by show (["or"] : List Str).contains "turn" = false; decide
          rw [ho, if_neg Bool.false_ne_true] at hd
          have hd : dps (.cons e1 es) + 1 + 0 < L + 1 := hd
          refine ⟨e1, toL es, ?_, fun p hp => ⟨wfEs_mem (ps := .cons e1 es) hw.2 hp, ?_⟩, fun _ _ z => ?_, fun H' p q' vs _ k1 k2 k3 => .several (b := true) k1 k2 (RepKs.of (ps := .cons e1 es) k3)⟩
          · rw [tL_out ho, tx_several]
            rfl
          · have := (toL_mem (ps := .cons e1 es) hp).1
            split <;> (first | lia | omega)
          · have h2 : 2 ≤ cnt es + 1 := hw.1
            have := toL_len es
            rw [z] at this
            have : 0 = cnt es := this
            (first | lia | omega)
      | false => exact plain rfl (by show (["or"] : List Str).contains "or" = (["turn", "or"] : List Str).contains "or"; decide)
    | rep m p =>
      have h1 : (["or"] : List Str).contains (repW m) = (["turn", "or"] : List Str).contains (repW m) := by
        unfold repW
        split
        · decide
        · split <;> decide
      refine plain ?_ h1
      unfold tL brc
      show cs (if (["or"] : List Str).contains (repW m) = true then _ else _) = cs (if (["turn", "or"] : List Str).contains (repW m) = true then _ else _)
      rw [h1]
    | nil => exact plain rfl rfl
    | name _ => exact plain rfl rfl
    | tag _ _ => exact plain rfl rfl
  obtain ⟨eEnd, nEnd⟩ := rsT_add er hn
  rw [et, List.append_assoc] at er
  have hwe : ∀ p ∈ es, wfE p := fun p hp => (hall p (List.mem_cons_of_mem _ hp)).1
  obtain ⟨w1, d1⟩ := hall e1 (List.mem_cons_self ..)
  refine ⟨_, rfl, a, dx, _, rfl, ha, rfl, _, rfl, a, dx, T, n, e1, _, rfl, ha, hn, hT, er, w1, d1, fM_turn hf hwe, fun pp H1 b1 h1 rp => ?_⟩
  obtain ⟨e2, n2⟩ := rsT_add er hn
  refine ⟨(by show (1 : Nat) ≤ sizeLine; decide), fun pl hpl => ?_⟩
  have npa : pl ≠ a := fun z => by rw [z, show H1 a = some _ from h1] at hpl; cases hpl
  have s2 := Same.new (o := .lst [V.ref pp]) hpl
  have fin : ∀ (H2 : Hp) (m2 : Nat) (vs : List V), Bar1 a H H2 → SrAt C H2 a dx T m2 → m2 ≤ T.length → rsT T m2 = r → H2 pl = some (.lst vs) → Paired (fun (v : V) (e : Ex) => ∃ p, v = .ref p ∧ RepK K H2 p e) vs (e1 :: es) → tRet (tIf (tTest (tOp rEq (tCB (fun xs H_1 Q => ∃ p ys, xs = [V.ref p] ∧ (SqL K H_1 p ys ∨ SqT K H_1 p ys) ∧ Q (V.int (ys.length : Nat)) H_1) (tCons (tVar 2) tNil)) (tC (V.int 1)))) (tOp (rIxL K) (tVar 2) (tC (V.int 0))) (tTup (tCons (tC (V.str "turn")) (tCons (tCB (fun xs H_1 Q => ∃ p ys, xs = [V.ref p] ∧ ((SqL K H_1 p ys ∧ ∀ (l : Addr), H_1 l = none → Q (V.ref l) (upd H_1 l (HO.tup ys))) ∨ SqT K H_1 p ys ∧ Q (V.ref p) H_1)) (tCons (tVar 2) tNil)) tNil)))) { nx := fun _ H' => Q .non H', rt := Q } [some (.ref a), some (.int ((L + 1 : Nat) : Int)), some (.ref pl)] H2 := fun H2 m2 vs b2 h2 hm2 er2 hv hP => by
    have hlen := PR.len hP
    have em : m2 = n + (tL ["or"] e).length := rsT_inj hm2 nEnd (er2.trans eEnd.symm)
    rw [em] at h2
    refine ⟨_, rfl, pl, _, rfl, .inl (SqL.of hv), rfl, _, rfl, ite2 (fun z => ?_) (fun z => ?_)⟩
    · have z : V.int (vs.length : Int) = V.int 1 := of_decide_eq_true z
      injection z with z
      have he : es = [] := by
        cases es with
        | nil => rfl
        | cons x y => rw [List.length_cons, List.length_cons] at hlen; (first | lia | omega)
      cases hP with
      | cons x t =>
        obtain ⟨p, rfl, y⟩ := x
        exact ⟨_, rfl, pl, _, 0, _, rfl, rfl, SqL.of hv, at0, q p H2 b2 h2 (f1 H2 p he y)⟩
    · have he : es ≠ [] := fun k => by
        rw [k] at hlen
        exact z (decide_eq_true (by rw [hlen]; rfl))
      refine ⟨_, rfl, pl, _, rfl, .inl ⟨SqL.of hv, fun l1 g1 => ?_⟩⟩
      have s3 := Same.new (o := .tup vs) g1
      refine ⟨(by show (2 : Nat) ≤ sizeLine; decide), fun l2 g2 => ?_⟩
      have s4 := Same.new (o := .tup [.str "turn", .ref l1]) g2
      exact q l2 _ (b2.trans (Bar1.same (s3.trans s4))) ((s3.trans s4) _ _ h2) (f2 _ l2 l1 vs he (SqT.of upd_same) (SqT.of (s4 _ _ upd_same)) (PR.keep (TF.same (s3.trans s4)) hP))
  refine ⟨fun m σ H2 => ∃ (dn td : List Ex) (vs : List V) (m2 : Nat), m = td.length ∧ e1 :: es = dn ++ td ∧ σ = [some (.ref a), some (.int ((L + 1 : Nat) : Int)), some (.ref pl)] ∧ Bar1 a H H2 ∧ SrAt C H2 a dx T m2 ∧ m2 ≤ T.length ∧ rsT T m2 = (td.flatMap fun p => [32] ++ tL ["turn", "or"] p) ++ r ∧ H2 pl = some (.lst vs) ∧ Paired (fun (v : V) (e : Ex) => ∃ p, v = .ref p ∧ RepK K H2 p e) vs dn ∧ (∀ p ∈ td, p ∈ es) ∧ vs.length + td.length ≤ 1 + es.length, ⟨_, [e1], es, [.ref pp], _, rfl, rfl, rfl, b1.trans (Bar1.same s2), s2 _ _ h1, n2, e2, upd_same, .cons ⟨pp, rfl, rp.mono (TF.same s2)⟩ .nil, fun _ h => h, by show 1 + _ ≤ _; (first | lia | omega)⟩, ?_⟩
  rintro m σ H2 ⟨dn, td, vs, m2, rfl, hdt, rfl, b2, h2, hm2, er2, hv, hP, htd, hle⟩
  refine ⟨_, rfl, a, dx, _, rfl, h2, rfl, a, dx, T, m2, " | ", rfl, h2, hm2, _, rfl, ?_⟩
  cases td with
  | nil =>
    have er2 : rsT T m2 = r := er2
    rw [List.append_nil] at hdt
    have hP' := hP
    rw [← hdt] at hP'
    have fin' := fin H2 m2 vs b2 h2 hm2 er2 hv hP'
    rcases fT_bar hf with hb | hb
    · have e : decide (cs (Str.ofString " | ") <+: rsT T m2) = true := decide_eq_true (by rw [er2]; exact hb)
      rw [e]
      exact iteF (iteF fin')
    · by_cases hbar : cs (Str.ofString " | ") <+: rsT T m2
      · rw [decide_eq_true hbar]
        exact iteF (iteF fin')
      · rw [decide_eq_false hbar]
        refine iteT ⟨_, rfl, a, dx, _, rfl, h2, rfl, a, dx, T, m2, " ", rfl, h2, hm2, (by decide), fun _ => ⟨_, rfl, iteF fin'⟩, fun z => absurd z (by rw [er2]; exact hb)⟩
  | cons p td =>
    have hp0 := hall p (List.mem_cons_of_mem _ (htd p (List.mem_cons_self ..)))
    obtain ⟨t1, t2⟩ := turn_more (p := p) (ps := td) (r := r) hp0.1
    rw [← er2] at t1 t2
    have t1' : ¬ cs (Str.ofString " | ") <+: rsT T m2 := t1
    rw [decide_eq_false t1']
    refine iteT ⟨_, rfl, a, dx, _, rfl, h2, rfl, a, dx, T, m2, " ", rfl, h2, hm2, (by decide), fun z => absurd t2 z, fun _ H3 b3 h3 => ⟨_, rfl, iteT ?_⟩⟩
    have h3 : SrAt C H3 a dx T (m2 + 1) := h3
    have hv3 : H3 pl = some (.lst vs) := b3 pl _ npa hv
    have er3 : rsT T m2 = [32] ++ (tL ["turn", "or"] p ++ ((td.flatMap fun p => [32] ++ tL ["turn", "or"] p) ++ r)) := by
      rw [er2, List.flatMap_cons]
      simp only [List.append_assoc]
    obtain ⟨e4, n4⟩ := rsT_add er3 hm2
    obtain ⟨e5, n5⟩ := rsT_add e4 n4
    have hwt : ∀ x ∈ td, wfE x := fun x hx => hwe x (htd x (List.mem_cons_of_mem _ hx))
    refine ⟨fun σ' H' => ∃ m', m' < (p :: td).length ∧ ∃ (dn td : List Ex) (vs : List V) (m2 : Nat), m' = td.length ∧ e1 :: es = dn ++ td ∧ σ' = [some (.ref a), some (.int ((L + 1 : Nat) : Int)), some (.ref pl)] ∧ Bar1 a H H' ∧ SrAt C H' a dx T m2 ∧ m2 ≤ T.length ∧ rsT T m2 = (td.flatMap fun p => [32] ++ tL ["turn", "or"] p) ++ r ∧ H' pl = some (.lst vs) ∧ Paired (fun (v : V) (e : Ex) => ∃ p, v = .ref p ∧ RepK K H' p e) vs dn ∧ (∀ p ∈ td, p ∈ es) ∧ vs.length + td.length ≤ 1 + es.length, fun _ _ h => h, ?_⟩
    have esl : es.length ≤ 1000 := by
      have h1 := flat_ge (l := ["turn", "or"]) es
      have h2 := congrArg List.length e2
      unfold rsT at h2
      rw [List.length_drop, show (cs T).length = T.length from Array.length_toList, List.length_append] at h2
      (first | lia | omega)
    refine ⟨_, rfl, .inl ⟨rfl, _, SqL.of hv3⟩, _, rfl, a, dx, _, rfl, h3, rfl, _, rfl, a, dx, T, m2 + 1, p, _, rfl, h3, n4, hT, e4, hp0.1, hp0.2, fM_turn hf hwt, fun p4 H4 b4 h4 rp4 => ?_⟩
    have hv4 : H4 pl = some (.lst vs) := b4 pl _ npa hv3
    refine ⟨pl, vs, _, rfl, rfl, hv4, len1000' (by rw [List.length_cons] at hle; (first | lia | omega)), ?_⟩
    have b24 := (b2.trans b3).trans b4
    refine ⟨_, by rw [List.length_cons]; exact Nat.lt_succ_self _, dn ++ [p], td, _, _, rfl, by rw [hdt]; simp, rfl, Bar1.new b1 hpl npa b24, ?_, n5, e5, upd_same, ?_, fun x hx => htd x (List.mem_cons_of_mem _ hx), by rw [List.length_append]; rw [List.length_cons] at hle; show _ + 1 + _ ≤ _; (first | lia | omega)⟩
    · show upd H4 pl _ a = _
      rw [upd_ne npa.symm]
      exact h4
    · exact PR.snoc (PR.keep ((TF.bar (b3.trans b4) h2).trans (TF.lst hv4)) hP) (rp4.mono (TF.lst hv4))
theorem flat_ge3 {l : List Str} : ∀ es : List Ex, es.length ≤ (es.flatMap fun p => [32, 124, 32] ++ tL l p).length
  | [] => Nat.zero_le _
  | e :: es => by
    have := flat_ge3 (l := l) es
    rw [List.flatMap_cons, List.length_append, List.length_append, List.length_cons]
    show _ ≤ 3 + _ + _
    (first | lia | omega)
set_option maxHeartbeats 2000000 in
theorem ok_Source_take_expr (L : Nat) (B : ∀ x ∈ blts, mg x = none) (c_Source : SrC K C) (g_Source_take_turn : HasM P w K mg base C "take_turn" ["self", "levels"] (5 * L + 8) (spTurnT K C (L + 1))) (g_Source_skips : HasM P w K mg base C "skips" ["self", "piece"] 2 (spSkips C)) (F : Fun K "take_expr" "Source.take_expr" s_Source_take_expr f fd) : FnOk P w K mg base CX0 (5 * L + 9) f fd ["self", "levels"] (spExprT K C (L + 1)) := by
  refine F.ok sc_Source_take_expr (fun vs H Q E h => ?_) (fun cdv A outer s H vs Q E hr h => ?_)
  · obtain ⟨a, dx, T, n, i, r, rfl, _⟩ := h
    rfl
  obtain ⟨a, dx, T, n, e, r, rfl, ha, hn, hT, er, hw, hd, hf, q⟩ := h
  refine ⟨_, (pss_cons (ps_if (pt_cmpR op_eq (pv 1) pe_int (nomark _))
      (pss_one ps_never)
      pss_nil)
    (pss_cons (ps_set (i := 2) sc_Source_take_expr.nd rfl (Or.inl rfl) (pe_lst (pa_cons (pe_hasm g_Source_take_turn hr (pv 0) c_Source.cls (pa_cons (pv 1) pa_nil) (by (first | lia | omega))) pa_nil)))
    (pss_cons (ps_while PassesOwn.never (pt_truth (pe_hasm g_Source_skips hr (pv 0) c_Source.cls (pa_cons pe_str pa_nil) (by (first | lia | omega))) (fun _ => rfl))
      (pss_one (ps_expr (pe_bm PySem.F.plainAttrs_list PySem.F.slot_list_append PySem.F.type_list_append mt_append (pv 2) (pa_cons (pe_hasm g_Source_take_turn hr (pv 0) c_Source.cls (pa_cons (pv 1) pa_nil) (by (first | lia | omega))) pa_nil)))))
    (pss_one (ps_ret (pe_ifExp (pt_cmpR op_eq (pe_callB call_len_seq rfl (B "len" (by decide)) PySem.boot_len (pa_cons (pv 2) pa_nil)) pe_int (nomark _)) (pe_ix ix_list (pv 2) pe_int (fun _ _ => rfl)) (pe_tup (pa_cons pe_str (pa_cons (pe_callTy call_tuple_of rfl (B "tuple" (by decide)) bt_tuple (pa_cons (pv 2) pa_nil)) pa_nil))))))))), ?_⟩
  obtain ⟨e1, es, et, hall, f1, f2⟩ : ∃ (e1 : Ex) (es : List Ex), tL [] e = tL ["or"] e1 ++ (es.flatMap fun p => [32, 124, 32] ++ tL ["or"] p) ∧ (∀ p ∈ e1 :: es, wfE p ∧ dp p + (if (["or"] : List Str).contains (kw p) = true then 1 else 0) < L + 1) ∧ (∀ H' p, es = [] → RepK K H' p e1 → RepK K H' p e) ∧ (∀ H' p q' vs, es ≠ [] → SqT K H' p [.str "or", .ref q'] → SqT K H' q' vs → Paired (fun (v : V) (e : Ex) => ∃ p, v = .ref p ∧ RepK K H' p e) vs (e1 :: es) → RepK K H' p e) := by
    have plain : tL [] e = tL ["or"] e → ([] : List Str).contains (kw e) = (["or"] : List Str).contains (kw e) → _ := fun h1 h2 => (⟨e, [], by rw [h1]; simp, fun p hp => by
        rw [List.mem_singleton.mp hp, ← h2]
        exact ⟨hw, hd⟩, fun _ _ _ h => h, fun _ _ _ _ h => absurd rfl h⟩ : ∃ (e1 : Ex) (es : List Ex), tL [] e = tL ["or"] e1 ++ (es.flatMap fun p => [32, 124, 32] ++ tL ["or"] p) ∧ (∀ p ∈ e1 :: es, wfE p ∧ dp p + (if (["or"] : List Str).contains (kw p) = true then 1 else 0) < L + 1) ∧ (∀ H' p, es = [] → RepK K H' p e1 → RepK K H' p e) ∧ (∀ H' p q' vs, es ≠ [] → SqT K H' p [.str "or", .ref q'] → SqT K H' q' vs → Paired (fun (v : V) (e : Ex) => ∃ p, v = .ref p ∧ RepK K H' p e) vs (e1 :: es) → RepK K H' p e))
    cases e with
    | several b ps =>
      cases b with
      | false =>
        cases ps with
        | nil => exact absurd hw.1 (by show ¬ 2 ≤ 0; decide)
        | cons e1 es =>
          have ho : ([] : List Str).contains (kw (.several false (.cons e1 es))) = false := rfl
          rw [ho, if_neg Bool.false_ne_true] at hd
          have hd : dps (.cons e1 es) + 1 + 0 < L + 1 := hd
          refine ⟨e1, toL es, ?_, fun p hp => ⟨wfEs_mem (ps := .cons e1 es) hw.2 hp, ?_⟩, fun _ _ z => ?_, fun H' p q' vs _ k1 k2 k3 => .several (b := false) k1 k2 (RepKs.of (ps := .cons e1 es) k3)⟩
          · rw [tL_out ho, tx_several]
            rfl
          · have := (toL_mem (ps := .cons e1 es) hp).1
            split <;> (first | lia | omega)
          · have h2 : 2 ≤ cnt es + 1 := hw.1
            have := toL_len es
            rw [z] at this
            have : 0 = cnt es := this
            (first | lia | omega)
      | true => exact plain rfl (by show ([] : List Str).contains "turn" = (["or"] : List Str).contains "turn"; decide)
    | rep m p =>
      have h1 : ([] : List Str).contains (repW m) = (["or"] : List Str).contains (repW m) := by
        unfold repW
        split
        · decide
        · split <;> decide
      refine plain ?_ h1
      unfold tL brc
      show cs (if ([] : List Str).contains (repW m) = true then _ else _) = cs (if (["or"] : List Str).contains (repW m) = true then _ else _)
      rw [h1]
    | nil => exact plain rfl rfl
    | name _ => exact plain rfl rfl
    | tag _ _ => exact plain rfl rfl
  obtain ⟨eEnd, nEnd⟩ := rsT_add er hn
  rw [et, List.append_assoc] at er
  have hwe : ∀ p ∈ es, wfE p := fun p hp => (hall p (List.mem_cons_of_mem _ hp)).1
  obtain ⟨w1, d1⟩ := hall e1 (List.mem_cons_self ..)
  refine ⟨_, rfl, rfl, _, rfl, ite2 (fun z => absurd (of_decide_eq_true z) fun z => by injection z with z; (first | lia | omega)) (fun _ => ?_)⟩
  refine ⟨_, rfl, a, dx, _, rfl, ha, rfl, _, rfl, a, dx, T, n, e1, _, rfl, ha, hn, hT, er, w1, d1, fT_or hf, fun pp H1 b1 h1 rp => ?_⟩
  obtain ⟨e2, n2⟩ := rsT_add er hn
  refine ⟨(by show (1 : Nat) ≤ sizeLine; decide), fun pl hpl => ?_⟩
  have npa : pl ≠ a := fun z => by rw [z, show H1 a = some _ from h1] at hpl; cases hpl
  have s2 := Same.new (o := .lst [V.ref pp]) hpl
  have fin : ∀ (H2 : Hp) (m2 : Nat) (vs : List V), Bar1 a H H2 → SrAt C H2 a dx T m2 → m2 ≤ T.length → rsT T m2 = r → H2 pl = some (.lst vs) → Paired (fun (v : V) (e : Ex) => ∃ p, v = .ref p ∧ RepK K H2 p e) vs (e1 :: es) → tRet (tIf (tTest (tOp rEq (tCB (fun xs H_1 Q => ∃ p ys, xs = [V.ref p] ∧ (SqL K H_1 p ys ∨ SqT K H_1 p ys) ∧ Q (V.int (ys.length : Nat)) H_1) (tCons (tVar 2) tNil)) (tC (V.int 1)))) (tOp (rIxL K) (tVar 2) (tC (V.int 0))) (tTup (tCons (tC (V.str "or")) (tCons (tCB (fun xs H_1 Q => ∃ p ys, xs = [V.ref p] ∧ ((SqL K H_1 p ys ∧ ∀ (l : Addr), H_1 l = none → Q (V.ref l) (upd H_1 l (HO.tup ys))) ∨ SqT K H_1 p ys ∧ Q (V.ref p) H_1)) (tCons (tVar 2) tNil)) tNil)))) { nx := fun _ H' => Q .non H', rt := Q } [some (.ref a), some (.int ((L + 1 : Nat) : Int)), some (.ref pl)] H2 := fun H2 m2 vs b2 h2 hm2 er2 hv hP => by
    have hlen := PR.len hP
    have em : m2 = n + (tL [] e).length := rsT_inj hm2 nEnd (er2.trans eEnd.symm)
    rw [em] at h2
    refine ⟨_, rfl, pl, _, rfl, .inl (SqL.of hv), rfl, _, rfl, ite2 (fun z => ?_) (fun z => ?_)⟩
    · have z : V.int (vs.length : Int) = V.int 1 := of_decide_eq_true z
      injection z with z
      have he : es = [] := by
        cases es with
        | nil => rfl
        | cons x y => rw [List.length_cons, List.length_cons] at hlen; (first | lia | omega)
      cases hP with
      | cons x t =>
        obtain ⟨p, rfl, y⟩ := x
        exact ⟨_, rfl, pl, _, 0, _, rfl, rfl, SqL.of hv, at0, q p H2 b2 h2 (f1 H2 p he y)⟩
    · have he : es ≠ [] := fun k => by
        rw [k] at hlen
        exact z (decide_eq_true (by rw [hlen]; rfl))
      refine ⟨_, rfl, pl, _, rfl, .inl ⟨SqL.of hv, fun l1 g1 => ?_⟩⟩
      have s3 := Same.new (o := .tup vs) g1
      refine ⟨(by show (2 : Nat) ≤ sizeLine; decide), fun l2 g2 => ?_⟩
      have s4 := Same.new (o := .tup [.str "or", .ref l1]) g2
      exact q l2 _ (b2.trans (Bar1.same (s3.trans s4))) ((s3.trans s4) _ _ h2) (f2 _ l2 l1 vs he (SqT.of upd_same) (SqT.of (s4 _ _ upd_same)) (PR.keep (TF.same (s3.trans s4)) hP))
  refine ⟨fun m σ H2 => ∃ (dn td : List Ex) (vs : List V) (m2 : Nat), m = td.length ∧ e1 :: es = dn ++ td ∧ σ = [some (.ref a), some (.int ((L + 1 : Nat) : Int)), some (.ref pl)] ∧ Bar1 a H H2 ∧ SrAt C H2 a dx T m2 ∧ m2 ≤ T.length ∧ rsT T m2 = (td.flatMap fun p => [32, 124, 32] ++ tL ["or"] p) ++ r ∧ H2 pl = some (.lst vs) ∧ Paired (fun (v : V) (e : Ex) => ∃ p, v = .ref p ∧ RepK K H2 p e) vs dn ∧ (∀ p ∈ td, p ∈ es) ∧ vs.length + td.length ≤ 1 + es.length, ⟨_, [e1], es, [.ref pp], _, rfl, rfl, rfl, b1.trans (Bar1.same s2), s2 _ _ h1, n2, e2, upd_same, .cons ⟨pp, rfl, rp.mono (TF.same s2)⟩ .nil, fun _ h => h, by show 1 + _ ≤ _; (first | lia | omega)⟩, ?_⟩
  rintro m σ H2 ⟨dn, td, vs, m2, rfl, hdt, rfl, b2, h2, hm2, er2, hv, hP, htd, hle⟩
  cases td with
  | nil =>
    have er2 : rsT T m2 = r := er2
    rw [List.append_nil] at hdt
    have hP' := hP
    rw [← hdt] at hP'
    have fin' := fin H2 m2 vs b2 h2 hm2 er2 hv hP'
    refine ⟨_, rfl, a, dx, _, rfl, h2, rfl, a, dx, T, m2, " | ", rfl, h2, hm2, (by decide), fun _ => ⟨_, rfl, iteF fin'⟩, fun z => absurd z (by rw [er2]; exact (fE_bar hf).1)⟩
  | cons p td =>
    have hp0 := hall p (List.mem_cons_of_mem _ (htd p (List.mem_cons_self ..)))
    have t2 : cs (Str.ofString " | ") <+: rsT T m2 := by
      rw [er2, List.flatMap_cons]
      exact ⟨_, by simp only [List.append_assoc]; rfl⟩
    refine ⟨_, rfl, a, dx, _, rfl, h2, rfl, a, dx, T, m2, " | ", rfl, h2, hm2, (by decide), fun z => absurd t2 z, fun _ H3 b3 h3 => ⟨_, rfl, iteT ?_⟩⟩
    have h3 : SrAt C H3 a dx T (m2 + 3) := h3
    have hv3 : H3 pl = some (.lst vs) := b3 pl _ npa hv
    have er3 : rsT T m2 = [32, 124, 32] ++ (tL ["or"] p ++ ((td.flatMap fun p => [32, 124, 32] ++ tL ["or"] p) ++ r)) := by
      rw [er2, List.flatMap_cons]
      simp only [List.append_assoc]
    obtain ⟨e4, n4⟩ := rsT_add er3 hm2
    obtain ⟨e5, n5⟩ := rsT_add e4 n4
    have hwt : ∀ x ∈ td, wfE x := fun x hx => hwe x (htd x (List.mem_cons_of_mem _ hx))
    refine ⟨fun σ' H' => ∃ m', m' < (p :: td).length ∧ ∃ (dn td : List Ex) (vs : List V) (m2 : Nat), m' = td.length ∧ e1 :: es = dn ++ td ∧ σ' = [some (.ref a), some (.int ((L + 1 : Nat) : Int)), some (.ref pl)] ∧ Bar1 a H H' ∧ SrAt C H' a dx T m2 ∧ m2 ≤ T.length ∧ rsT T m2 = (td.flatMap fun p => [32, 124, 32] ++ tL ["or"] p) ++ r ∧ H' pl = some (.lst vs) ∧ Paired (fun (v : V) (e : Ex) => ∃ p, v = .ref p ∧ RepK K H' p e) vs dn ∧ (∀ p ∈ td, p ∈ es) ∧ vs.length + td.length ≤ 1 + es.length, fun _ _ h => h, ?_⟩
    have esl : es.length ≤ 1000 := by
      have h1 := flat_ge3 (l := ["or"]) es
      have h2 := congrArg List.length e2
      unfold rsT at h2
      rw [List.length_drop, show (cs T).length = T.length from Array.length_toList, List.length_append] at h2
      (first | lia | omega)
    refine ⟨_, rfl, .inl ⟨rfl, _, SqL.of hv3⟩, _, rfl, a, dx, _, rfl, h3, rfl, _, rfl, a, dx, T, m2 + 3, p, _, rfl, h3, n4, hT, e4, hp0.1, hp0.2, fT_or hf, fun p4 H4 b4 h4 rp4 => ?_⟩
    have hv4 : H4 pl = some (.lst vs) := b4 pl _ npa hv3
    refine ⟨pl, vs, _, rfl, rfl, hv4, len1000' (by rw [List.length_cons] at hle; (first | lia | omega)), ?_⟩
    have b24 := (b2.trans b3).trans b4
    refine ⟨_, by rw [List.length_cons]; exact Nat.lt_succ_self _, dn ++ [p], td, _, _, rfl, by rw [hdt]; simp, rfl, Bar1.new b1 hpl npa b24, ?_, n5, e5, upd_same, ?_, fun x hx => htd x (List.mem_cons_of_mem _ hx), by rw [List.length_append]; rw [List.length_cons] at hle; show _ + 1 + _ ≤ _; (first | lia | omega)⟩
    · show upd H4 pl _ a = _
      rw [upd_ne npa.symm]
      exact h4
    · exact PR.snoc (PR.keep ((TF.bar (b3.trans b4) h2).trans (TF.lst hv4)) hP) (rp4.mono (TF.lst hv4))
/-- the text of a pair of a book -/
def pairL (m : Str) (e : Ex) : List Nat := cs m ++ ([32, 61, 32] ++ tL [] e)
def spPair (K : PySem.W.Frag) (C : Addr) : Sp := fun vs H Q _ => ∃ (a dx : Addr) (T : Str) (n : Nat) (m : Str) (e : Ex) (r : List Nat), vs = [.ref a] ∧ SrAt C H a dx T n ∧ n ≤ T.length ∧ T.length ≤ 400 ∧ rsT T n = pairL m e ++ r ∧ Upr m ∧ m.length ≤ 8 ∧ wfE e ∧ dp e < 12 ∧ fE r ∧
  ∀ (p q : Addr) (H' : Hp), Bar1 a H H' → SrAt C H' a dx T (n + (pairL m e).length) → H' p = some (.tup [.str m, .ref q]) → RepK K H' q e → Q (.ref p) H'
set_option maxHeartbeats 1000000 in
theorem ok_take_pair (B : ∀ x ∈ blts, mg x = none) (Cc1 : ∃ t : Tok, mg "DEEPEST" = some (.int 12 t)) (c_Source : SrC K C) (g_Source_take_name : HasM P w K mg base C "take_name" ["self"] 3 (spTName C)) (g_Source_must_skip : HasM P w K mg base C "must_skip" ["self", "piece"] 3 (spMust C)) (g_Source_take_expr : HasM P w K mg base C "take_expr" ["self", "levels"] 64 (spExprT K C 12)) (F : Fun K "take_pair" "take_pair" s_take_pair f fd) : FnOk P w K mg base CX0 65 f fd ["source"] (spPair K C) := by
  refine F.ok sc_take_pair (fun vs H Q E h => ?_) (fun cdv A outer s H vs Q E hr h => ?_)
  · obtain ⟨a, dx, T, n, m, e, r, rfl, _⟩ := h
    rfl
  obtain ⟨a, dx, T, n, m, e, r, rfl, ha, hn, hT, er, hu, h8, hw, hd, hf, q⟩ := h
  obtain ⟨t1, c_DEEPEST⟩ := Cc1
  have hml : (cs m).length = m.length := Array.length_toList
  refine ⟨_, (pss_cons (ps_set (i := 1) sc_take_pair.nd rfl (Or.inl rfl) (pe_hasm0 g_Source_take_name hr (pv 0) c_Source.cls))
    (pss_cons (ps_expr (pe_hasm g_Source_must_skip hr (pv 0) c_Source.cls (pa_cons pe_str pa_nil)))
    (pss_one (ps_ret (pe_tup (pa_cons (pv 1) (pa_cons (pe_hasm g_Source_take_expr hr (pv 0) c_Source.cls (pa_cons (pe_glob (v := .int 12) rfl c_DEEPEST ⟨_, rfl⟩) pa_nil)) pa_nil))))))), ?_⟩
  have e1 : rsT T n = cs m ++ ([32, 61, 32] ++ (tL [] e ++ r)) := by
    rw [er]
    unfold pairL
    simp only [List.append_assoc]
  obtain ⟨e2, n2⟩ := rsT_add e1 hn
  obtain ⟨e3, n3⟩ := rsT_add e2 n2
  rw [hml] at e2 n2 e3 n3
  refine ⟨_, rfl, a, dx, _, rfl, ha, rfl, a, dx, T, n, m, _, rfl, ha, hn, by (first | lia | omega), e1, hu, h8, fun c r' z => by injection z with z _; (first | lia | omega), fun H1 b1 h1 => ?_⟩
  refine ⟨_, rfl, a, dx, _, rfl, h1, rfl, a, dx, T, n + m.length, " = ", rfl, h1, n2, (by decide), ⟨_, e2.symm⟩, fun H2 b2 h2 => ?_⟩
  have h2 : SrAt C H2 a dx T (n + m.length + 3) := h2
  refine ⟨_, rfl, _, rfl, a, dx, _, rfl, h2, rfl, a, dx, T, _, e, r, rfl, h2, n3, hT, e3, hw, hd, hf, fun p H3 b3 h3 rp => ?_⟩
  refine ⟨(by show (2 : Nat) ≤ sizeLine; decide), fun pp hp => ?_⟩
  have s4 := Same.new (o := .tup [.str m, .ref p]) hp
  refine q pp p _ (((b1.trans b2).trans b3).trans (Bar1.same s4)) ?_ upd_same (rp.mono (TF.same s4))
  have : n + (pairL m e).length = n + m.length + 3 + (tL [] e).length := by
    unfold pairL
    rw [List.length_append, List.length_append, hml]
    show n + (m.length + (3 + _)) = _
    (first | lia | omega)
  rw [this]
  exact s4 _ _ h3
theorem con20 {A_NIL A_MARKS A_BRACED B1 B2 B3 B4 B5 : Addr} {d0 d1 d2 d3 d4 d5 : Option Addr} {n0 n1 n2 n3 n4 n5 : Nat} {s0 s1 s2 s3 s4 s5 slM slB : Array (Option Value)} {eM eB : Nat} {hM0 hM1 hM2 hB0 hB1 hB2 hB3 hB4 : Int}
    {a1 b1 b2 c1 e1 e2 e3 e4 e5 f1 f2 f3 f4 f5 g1 g2 g3 g4 g5 kM0 kM1 kM2 uM0 uM1 uM2 kB0 kB1 kB2 kB3 kB4 : Tok}
    (y1 : mg "NIL" = some (.ref A_NIL)) (y2 : mg "MARKS" = some (.ref A_MARKS)) (y3 : mg "BRACED" = some (.ref A_BRACED))
    (lM : K.lookup A_MARKS = some ⟨.type "dict", none, .dict #[{ hash := hM0, key := .str "many" kM0, val := .str "*" uM0 }, { hash := hM1, key := .str "some" kM1, val := .str "+" uM1 }, { hash := hM2, key := .str "maybe" kM2, val := .str "?" uM2 }] eM, slM⟩)
    (lB : K.lookup A_BRACED = some ⟨.type "dict", none, .dict #[{ hash := hB0, key := .str "turn" kB0, val := .ref B1 }, { hash := hB1, key := .str "or" kB1, val := .ref B2 }, { hash := hB2, key := .str "many" kB2, val := .ref B3 }, { hash := hB3, key := .str "some" kB3, val := .ref B4 }, { hash := hB4, key := .str "maybe" kB4, val := .ref B5 }] eB, slB⟩)
    (l0 : K.lookup A_NIL = some ⟨.type "tuple", d0, .seq #[.str "nil" a1] n0, s0⟩) (l1 : K.lookup B1 = some ⟨.type "tuple", d1, .seq #[.str "turn" b1, .str "or" b2] n1, s1⟩) (l2 : K.lookup B2 = some ⟨.type "tuple", d2, .seq #[.str "or" c1] n2, s2⟩)
    (l3 : K.lookup B3 = some ⟨.type "tuple", d3, .seq #[.str "turn" e1, .str "or" e2, .str "many" e3, .str "some" e4, .str "maybe" e5] n3, s3⟩) (l4 : K.lookup B4 = some ⟨.type "tuple", d4, .seq #[.str "turn" f1, .str "or" f2, .str "many" f3, .str "some" f4, .str "maybe" f5] n4, s4⟩)
    (l5 : K.lookup B5 = some ⟨.type "tuple", d5, .seq #[.str "turn" g1, .str "or" g2, .str "many" g3, .str "some" g4, .str "maybe" g5] n5, s5⟩) : Con20 K mg A_NIL A_MARKS A_BRACED where
  nil := y1
  nilT := fun H => .inr ⟨_, _, _, l0, rfl, rfl, (by show 1 ≤ sizeLine; decide), .cons ⟨_, rfl⟩ .nil⟩
  marks := y2
  marksT := ⟨[("many", .str "*"), ("some", .str "+"), ("maybe", .str "?")], ⟨_, _, _, lM, .cons rfl ⟨_, rfl⟩ (.cons rfl ⟨_, rfl⟩ (.cons rfl ⟨_, rfl⟩ .nil))⟩, fun m => by
    unfold repW repM
    split
    · rfl
    · split <;> rfl⟩
  braced := y3
  bracedT := ⟨[("turn", .ref B1), ("or", .ref B2), ("many", .ref B3), ("some", .ref B4), ("maybe", .ref B5)], ⟨_, _, _, lB, .cons rfl rfl (.cons rfl rfl (.cons rfl rfl (.cons rfl rfl (.cons rfl rfl .nil))))⟩, fun ar l h => by
    rcases h with ⟨b, rfl, rfl⟩ | ⟨m, rfl, rfl⟩
    · cases b with
      | true => exact ⟨B1, rfl, fun H => .inr ⟨_, _, _, l1, rfl, rfl, (by show 2 ≤ sizeLine; decide), .cons ⟨_, rfl⟩ (.cons ⟨_, rfl⟩ .nil)⟩⟩
      | false => exact ⟨B2, rfl, fun H => .inr ⟨_, _, _, l2, rfl, rfl, (by show 1 ≤ sizeLine; decide), .cons ⟨_, rfl⟩ .nil⟩⟩
    · unfold repW
      split
      · exact ⟨B3, rfl, fun H => .inr ⟨_, _, _, l3, rfl, rfl, (by show 5 ≤ sizeLine; decide), .cons ⟨_, rfl⟩ (.cons ⟨_, rfl⟩ (.cons ⟨_, rfl⟩ (.cons ⟨_, rfl⟩ (.cons ⟨_, rfl⟩ .nil))))⟩⟩
      · split
        · exact ⟨B4, rfl, fun H => .inr ⟨_, _, _, l4, rfl, rfl, (by show 5 ≤ sizeLine; decide), .cons ⟨_, rfl⟩ (.cons ⟨_, rfl⟩ (.cons ⟨_, rfl⟩ (.cons ⟨_, rfl⟩ (.cons ⟨_, rfl⟩ .nil))))⟩⟩
        · exact ⟨B5, rfl, fun H => .inr ⟨_, _, _, l5, rfl, rfl, (by show 5 ≤ sizeLine; decide), .cons ⟨_, rfl⟩ (.cons ⟨_, rfl⟩ (.cons ⟨_, rfl⟩ (.cons ⟨_, rfl⟩ (.cons ⟨_, rfl⟩ .nil))))⟩⟩⟩
theorem RepK.top {K : PySem.W.Frag} {H : Hp} {p : Addr} {e : Ex} (h : RepK K H p e) : ∃ r, SqT K H p (.str (kw e) :: r) ∧ r.isEmpty = isNil e := by
  cases h with
  | nil h => exact ⟨_, h, rfl⟩
  | tag h _ => exact ⟨_, h, rfl⟩
  | name h => exact ⟨_, h, rfl⟩
  | several h _ _ => exact ⟨_, h, rfl⟩
  | rep h _ => exact ⟨_, h, rfl⟩
theorem RepKs.length {K : PySem.W.Frag} {H : Hp} : ∀ {vs : List V} {ps : Exs}, RepKs K H vs ps → vs.length = cnt ps
  | _, _, .nil => rfl
  | _, _, .cons _ r => by simp only [List.length_cons, cnt, RepKs.length r]
theorem RepKs.get {K : PySem.W.Frag} {H : Hp} : ∀ {vs : List V} {ps : Exs} {i : Nat} {x : V}, RepKs K H vs ps → vs[i]? = some x → ∃ p e, x = .ref p ∧ (toL ps)[i]? = some e ∧ RepK K H p e
  | _, _, i, _, .nil, h => by simp at h
  | _, _, 0, _, .cons h _, e => by cases e; exact ⟨_, _, rfl, rfl, h⟩
  | _, _, i + 1, x, .cons _ r, e => RepKs.get (i := i) (x := x) r (by simpa using e)
/-- the expressions right within one -/
def ptE : Ex → Exs
  | .nil => .nil
  | .tag _ i => .cons i .nil
  | .name _ => .nil
  | .several _ ps => ps
  | .rep _ p => .cons p .nil
def spPartsOfK (K : PySem.W.Frag) : Sp := fun vs H Q _ => ∃ p e, vs = [.ref p] ∧ RepK K H p e ∧ ∀ r vs' H', Same H H' → SqT K H' r vs' → RepKs K H' vs' (ptE e) → Q (.ref r) H'
def spShowK (K : PySem.W.Frag) (d : Nat) : Sp := fun vs H Q _ => ∃ p e, vs = [.ref p] ∧ RepK K H p e ∧ dp e < d ∧ sz e ≤ 200 ∧ w8 e ∧ ∀ H', Same H H' → Q (.str (tx e)) H'
def spPartK (K : PySem.W.Frag) (d : Nat) : Sp := fun vs H Q _ => ∃ ar l p e, vs = [.str ar, .ref p] ∧ Aro ar l ∧ RepK K H p e ∧ dp e < d ∧ sz e ≤ 200 ∧ w8 e ∧ ∀ H', Same H H' → Q (.str (brc l (kw e) (tx e))) H'
theorem ok_parts_of (B : ∀ x ∈ blts, mg x = none) (F : Fun K "parts_of" "parts_of" s_parts_of f fd) : FnOk P w K mg base CX0 1 f fd ["expr"] (spPartsOfK K) := by
  refine F.ok sc_parts_of (fun vs H Q E h => ?_) (fun cdv A outer s H vs Q E hr h => ?_)
  · obtain ⟨p, e, rfl, _⟩ := h
    rfl
  obtain ⟨p, e, rfl, hR, q⟩ := h
  refine ⟨_, (pss_cons (ps_if (pt_cmpR op_in_seq (pe_ix ix_tup (pv 0) pe_int (fun _ _ => rfl)) (pe_tup (pa_cons pe_str (pa_cons pe_str pa_nil))) (by with_unfolding_all rfl))
      (pss_one (ps_ret (pe_tup pa_nil)))
      pss_nil)
    (pss_cons (ps_if (pt_cmpR op_eq (pe_ix ix_tup (pv 0) pe_int (fun _ _ => rfl)) pe_str (nomark _))
      (pss_one (ps_ret (pe_tup (pa_cons (pe_ix ix_tup (pv 0) pe_int (fun _ _ => rfl)) pa_nil))))
      pss_nil)
    (pss_cons (ps_if (pt_cmpR op_in_seq (pe_ix ix_tup (pv 0) pe_int (fun _ _ => rfl)) (pe_tup (pa_cons pe_str (pa_cons pe_str pa_nil))) (by with_unfolding_all rfl))
      (pss_one (ps_ret (pe_ix ix_tup (pv 0) pe_int (fun _ _ => rfl))))
      pss_nil)
    (pss_one (ps_ret (pe_tup (pa_cons (pe_ix ix_tup (pv 0) pe_int (fun _ _ => rfl)) pa_nil))))))), ?_⟩
  cases hR with
  | nil h =>
    refine ⟨_, rfl, p, _, 0, _, rfl, rfl, h, rfl, (by show 2 ≤ sizeLine; decide), fun t ht => ⟨t, _, rfl, .inr (SqT.of upd_same), rfl, rfl, _, rfl, ite2 (fun _ => ?_) (fun z => absurd (by decide) z)⟩⟩
    have s1 : Same H (upd H t (.tup [.str "nil", .str "name"])) := Same.new ht
    exact ⟨(by show 0 ≤ sizeLine; decide), fun t2 ht2 => q t2 _ _ (s1.upd_new (s1.free ht2)) (SqT.of upd_same) .nil⟩
  | name h =>
    refine ⟨_, rfl, p, _, 0, _, rfl, rfl, h, rfl, (by show 2 ≤ sizeLine; decide), fun t ht => ⟨t, _, rfl, .inr (SqT.of upd_same), rfl, rfl, _, rfl, ite2 (fun _ => ?_) (fun z => absurd (by decide) z)⟩⟩
    have s1 : Same H (upd H t (.tup [.str "nil", .str "name"])) := Same.new ht
    exact ⟨(by show 0 ≤ sizeLine; decide), fun t2 ht2 => q t2 _ _ (s1.upd_new (s1.free ht2)) (SqT.of upd_same) .nil⟩
  | @tag _ qa tg i h1 r =>
    refine ⟨_, rfl, p, _, 0, _, rfl, rfl, h1, rfl, (by show 2 ≤ sizeLine; decide), fun t ht => ⟨t, _, rfl, .inr (SqT.of upd_same), rfl, rfl, _, rfl, ite2 (fun z => absurd z (by decide)) (fun _ => ?_)⟩⟩
    have s1 : Same H (upd H t (.tup [.str "nil", .str "name"])) := Same.new ht
    have h1' := TF.same (K := K) s1 _ _ h1
    refine ⟨_, rfl, p, _, 0, _, rfl, rfl, h1', rfl, rfl, _, rfl, ite2 (fun _ => ?_) (fun z => absurd (by decide) z)⟩
    refine ⟨_, rfl, p, _, 2, _, rfl, rfl, h1', rfl, (by show 1 ≤ sizeLine; decide), fun t3 ht3 => ?_⟩
    have s3 := s1.upd_new (o := .tup [.ref qa]) (s1.free ht3)
    exact q t3 _ _ s3 (SqT.of upd_same) (.cons (r.mono (TF.same s3)) .nil)
  | @several _ qa b vs _ h1 h2 r =>
    refine ⟨_, rfl, p, _, 0, _, rfl, rfl, h1, rfl, (by show 2 ≤ sizeLine; decide), fun t ht => ⟨t, _, rfl, .inr (SqT.of upd_same), rfl, rfl, _, rfl, ite2 (fun z => absurd z ?_) (fun _ => ?_)⟩⟩
    · cases b <;> decide
    have s1 : Same H (upd H t (.tup [.str "nil", .str "name"])) := Same.new ht
    have h1' := TF.same (K := K) s1 _ _ h1
    refine ⟨_, rfl, p, _, 0, _, rfl, rfl, h1', rfl, rfl, _, rfl, ite2 (fun z => absurd z ?_) (fun _ => ?_)⟩
    · cases b <;> decide
    refine ⟨_, rfl, p, _, 0, _, rfl, rfl, h1', rfl, (by show 2 ≤ sizeLine; decide), fun t2 ht2 => ⟨t2, _, rfl, .inr (SqT.of upd_same), rfl, rfl, _, rfl, ite2 (fun _ => ?_) (fun z => absurd ?_ z)⟩⟩
    · have s2 := s1.upd_new (o := .tup [.str "turn", .str "or"]) (s1.free ht2)
      exact ⟨_, rfl, p, _, 1, _, rfl, rfl, (TF.same s2 _ _ h1), rfl, q qa vs _ s2 (TF.same s2 _ _ h2) (r.mono (TF.same s2))⟩
    · cases b <;> decide
  | @rep _ qa m e h1 r =>
    have hm : repW m = "many" ∨ repW m = "some" ∨ repW m = "maybe" := by unfold repW; split; exact .inl rfl; split; exact .inr (.inl rfl); exact .inr (.inr rfl)
    refine ⟨_, rfl, p, _, 0, _, rfl, rfl, h1, rfl, (by show 2 ≤ sizeLine; decide), fun t ht => ⟨t, _, rfl, .inr (SqT.of upd_same), rfl, rfl, _, rfl, ite2 (fun z => absurd z ?_) (fun _ => ?_)⟩⟩
    · rcases hm with z | z | z <;> rw [z] <;> decide
    have s1 : Same H (upd H t (.tup [.str "nil", .str "name"])) := Same.new ht
    have h1' := TF.same (K := K) s1 _ _ h1
    refine ⟨_, rfl, p, _, 0, _, rfl, rfl, h1', rfl, rfl, _, rfl, ite2 (fun z => absurd z ?_) (fun _ => ?_)⟩
    · rcases hm with z | z | z <;> rw [z] <;> decide
    refine ⟨_, rfl, p, _, 0, _, rfl, rfl, h1', rfl, (by show 2 ≤ sizeLine; decide), fun t2 ht2 => ⟨t2, _, rfl, .inr (SqT.of upd_same), rfl, rfl, _, rfl, ite2 (fun z => absurd z ?_) (fun _ => ?_)⟩⟩
    · rcases hm with z | z | z <;> rw [z] <;> decide
    have s2 := s1.upd_new (o := .tup [.str "turn", .str "or"]) (s1.free ht2)
    refine ⟨_, rfl, p, _, 1, _, rfl, rfl, (TF.same s2 _ _ h1), rfl, (by show 1 ≤ sizeLine; decide), fun t3 ht3 => ?_⟩
    have s3 := s2.upd_new (o := .tup [.ref qa]) (s2.free ht3)
    exact q t3 _ _ s3 (SqT.of upd_same) (.cons (r.mono (TF.same s3)) .nil)
theorem ok_shown_part (d : Nat) (A_NIL A_MARKS A_BRACED : Addr) (B : ∀ x ∈ blts, mg x = none) (C : Con20 K mg A_NIL A_MARKS A_BRACED) (g_shown_expr : Has P w K mg base "shown_expr" ["expr"] (2 * d + 1) (spShowK K d)) (F : Fun K "shown_part" "shown_part" s_shown_part f fd) : FnOk P w K mg base CX0 (2 * d + 2) f fd ["around", "part"] (spPartK K d) := by
  refine F.ok sc_shown_part (fun vs H Q E h => ?_) (fun cdv A outer s H vs Q E hr h => ?_)
  · obtain ⟨ar, l, p, e, rfl, _⟩ := h
    rfl
  obtain ⟨ar, l, p, e, rfl, ha, hR, hd, hs, hw, q⟩ := h
  have c_BRACED := C.braced
  have hl := tx_len e hw
  refine ⟨_, (pss_cons (ps_set (i := 2) sc_shown_part.nd rfl (Or.inl rfl) (pe_has g_shown_expr hr rfl (pa_cons (pv 1) pa_nil) (by (first | lia | omega))))
    (pss_one (ps_ret (pe_ifExp (pt_cmpR op_in_seq (pe_ix ix_tup (pv 1) pe_int (fun _ _ => rfl)) (pe_kget (pe_glob (v := .ref A_BRACED) rfl c_BRACED rfl) (pv 0) (fun _ _ => rfl)) (by with_unfolding_all rfl)) (pe_op op_add_str (pe_op op_add_str pe_str (pv 2)) pe_str) (pv 2))))), ?_⟩
  refine ⟨_, rfl, p, e, rfl, hR, hd, hs, hw, fun H1 s1 => ?_⟩
  obtain ⟨r, ht, _⟩ := (hR.mono (TF.same s1)).top
  obtain ⟨D, hK, hD⟩ := C.bracedT
  obtain ⟨Cb, hCb, hCt⟩ := hD ar l ha
  refine ⟨_, rfl, p, _, 0, .str (kw e), rfl, rfl, ht, at0, _, rfl, A_BRACED, D, ar, _, rfl, rfl, hK, hCb, Cb, _, rfl, .inr (hCt H1), rfl, ?_, _, rfl, ?_⟩
  · rcases ha with ⟨b, rfl, rfl⟩ | ⟨m, rfl, rfl⟩
    · cases b <;> rfl
    · rfl
  have e1 : (if false = true then !inV (V.str (kw e)) (l.map V.str) else inV (V.str (kw e)) (l.map V.str)) = l.contains (kw e) := in_strs _ _
  rw [e1]
  have q' := q H1 s1
  unfold brc at q'
  by_cases hc : l.contains (kw e) = true
  · rw [if_pos hc] at q'
    refine ite2 (fun _ => ?_) (fun z => absurd hc z)
    refine ⟨_, rfl, _, _, rfl, rfl, len1000 (by show 1 + _ ≤ _; (first | lia | omega)), _, _, rfl, rfl, len1000 (by rw [app_len]; show 1 + _ + 1 ≤ _; (first | lia | omega)), q'⟩
  · rw [if_neg hc] at q'
    exact ite2 (fun z => absurd z hc) (fun _ => ⟨_, rfl, q'⟩)
set_option maxHeartbeats 4000000 in
theorem ok_shown_expr (d : Nat) (A_NIL A_MARKS A_BRACED : Addr) (B : ∀ x ∈ blts, mg x = none) (C : Con20 K mg A_NIL A_MARKS A_BRACED) (g_shown_expr : Has P w K mg base "shown_expr" ["expr"] (2 * d + 1) (spShowK K d)) (g_parts_of : Has P w K mg base "parts_of" ["expr"] 1 (spPartsOfK K)) (g_shown_part : Has P w K mg base "shown_part" ["around", "part"] (2 * d + 2) (spPartK K d))
    (F : Fun K "shown_expr" "shown_expr" s_shown_expr f fd) : FnOk P w K mg base CX0 (2 * d + 3) f fd ["expr"] (spShowK K (d + 1)) := by
  refine F.ok sc_shown_expr (fun vs H Q E h => ?_) (fun cdv A outer s H vs Q E hr h => ?_)
  · obtain ⟨p, e, rfl, _⟩ := h
    rfl
  obtain ⟨p, e, rfl, hR, hd, hs, hw, q⟩ := h
  have hu := hu_room hr
  have c_NIL := C.nil
  have c_MARKS := C.marks
  have hlen := tx_len e hw
  refine ⟨_, (pss_cons (ps_if (pt_cmpR (op_eqN hu) (pv 0) (pe_glob (v := .ref A_NIL) rfl c_NIL rfl) (nomark _))
      (pss_one (ps_ret pe_str))
      pss_nil)
    (pss_cons (ps_if (pt_cmpR op_eq (pe_ix ix_tup (pv 0) pe_int (fun _ _ => rfl)) pe_str (nomark _))
      (pss_one (ps_ret (pe_ix ix_tup (pv 0) pe_int (fun _ _ => rfl))))
      pss_nil)
    (pss_cons (ps_if (pt_cmpR op_eq (pe_ix ix_tup (pv 0) pe_int (fun _ _ => rfl)) pe_str (nomark _))
      (pss_one (ps_ret (pe_ifExp (pt_cmpR (op_eqN hu) (pe_ix ix_tup (pv 0) pe_int (fun _ _ => rfl)) (pe_glob (v := .ref A_NIL) rfl c_NIL rfl) (nomark _)) (pe_ix ix_tup (pv 0) pe_int (fun _ _ => rfl)) (pe_op op_add_str (pe_op op_add_str (pe_op op_add_str (pe_ix ix_tup (pv 0) pe_int (fun _ _ => rfl)) pe_str) (pe_has g_shown_expr hr rfl (pa_cons (pe_ix ix_tup (pv 0) pe_int (fun _ _ => rfl)) pa_nil) (by (first | lia | omega)))) pe_str))))
      pss_nil)
    (pss_cons (ps_set_comp (cl := [(Str.ofString "expr", s.heap.objs.size + 1)]) (n0 := 1) sc_shown_expr.nd rfl (Or.inl rfl) ["part"] [("expr", 0)] (pi_tup (pe_has g_parts_of hr rfl (pa_cons (pv 0) pa_nil) (by (first | lia | omega)))) (fun _ _ _ _ => (pg_name (i := 0) (show List.Nodup (["part", "expr"] : List Str) by decide) rfl (Or.inl rfl))) (fun _ _ _ _ => (pe_has g_shown_part hr rfl (pa_cons (pe_ix (ix_tupK (K := K) rfl) (pv 1) pe_int (fun _ _ => rfl)) (pa_cons (pv 0) pa_nil)) (by (first | lia | omega)))) rfl rfl (by decide) rfl (by decide) (cap_cl (by (repeat' first | exact List.forall_mem_nil _ | refine List.forall_mem_cons.mpr ⟨?_, ?_⟩) <;> rfl)) (cap_has (by (repeat' first | exact List.forall_mem_nil _ | refine List.forall_mem_cons.mpr ⟨?_, ?_⟩) <;> first | (intro h; exact ⟨_, rfl⟩) | (intro h; exact absurd h (by decide)))) (fun _ => by (repeat' first | exact List.forall_mem_nil _ | refine List.forall_mem_cons.mpr ⟨?_, ?_⟩) <;> exact ⟨rfl, rfl, Or.inl rfl⟩) (fun _ => rfl) rfl)
    (pss_cons (ps_if (pt_cmpR op_eq (pe_ix ix_tup (pv 0) pe_int (fun _ _ => rfl)) pe_str (nomark _))
      (pss_one (ps_ret (pe_bm PySem.F.plainAttrs_str PySem.F.slot_str_join PySem.F.type_str_join mt_join pe_str (pa_cons (pv 1) pa_nil))))
      pss_nil)
    (pss_cons (ps_if (pt_cmpR op_eq (pe_ix ix_tup (pv 0) pe_int (fun _ _ => rfl)) pe_str (nomark _))
      (pss_one (ps_ret (pe_bm PySem.F.plainAttrs_str PySem.F.slot_str_join PySem.F.type_str_join mt_join pe_str (pa_cons (pv 1) pa_nil))))
      pss_nil)
    (pss_one (ps_ret (pe_op op_add_str (pe_ix ix_list (pv 1) pe_int (fun _ _ => rfl)) (pe_kget (pe_glob (v := .ref A_MARKS) rfl c_MARKS rfl) (pe_ix ix_tup (pv 0) pe_int (fun _ _ => rfl)) (fun _ _ => rfl))))))))))), ?_⟩
  obtain ⟨r, ht, hre⟩ := hR.top
  refine ⟨_, rfl, p, A_NIL, kw e, r, "nil", rfl, rfl, ht, C.nilT H, ?_⟩
  rw [hre, nil_kw]
  refine ⟨_, rfl, ?_⟩
  cases hR with
  | nil h => exact iteT (q H (Same.refl H))
  | name h =>
    refine iteF ⟨_, rfl, p, _, 0, _, rfl, rfl, h, rfl, rfl, _, rfl, ite2 (fun _ => ?_) (fun z => absurd (by decide) z)⟩
    exact ⟨_, rfl, p, _, 1, _, rfl, rfl, h, rfl, q H (Same.refl H)⟩
  | @tag _ q0 tg i h hi =>
    refine iteF ⟨_, rfl, p, _, 0, _, rfl, rfl, h, rfl, rfl, _, rfl, ite2 (fun z => absurd z (by decide)) (fun _ => ?_)⟩
    refine ⟨_, rfl, p, _, 0, _, rfl, rfl, h, rfl, rfl, _, rfl, ite2 (fun _ => ?_) (fun z => absurd (by decide) z)⟩
    obtain ⟨r', ht', hre'⟩ := hi.top
    refine ⟨_, rfl, p, _, 2, .ref q0, rfl, rfl, h, rfl, q0, A_NIL, kw i, r', "nil", rfl, rfl, ht', C.nilT H, ?_⟩
    rw [hre', nil_kw]
    refine ⟨_, rfl, ?_⟩
    rw [tx] at q
    have h8 : tg.length ≤ 8 := hw.1
    have hli := tx_len i hw.2
    have hsi : sz i + 1 ≤ 200 := hs
    by_cases hn : isNil i = true
    · rw [if_pos hn] at q
      exact ite2 (fun _ => ⟨_, rfl, p, _, 1, _, rfl, rfl, h, rfl, q H (Same.refl H)⟩) (fun z => absurd hn z)
    · rw [if_neg hn] at q
      refine ite2 (fun z => absurd z hn) (fun _ => ?_)
      have hdi : dp i + 1 < d + 1 := hd
      refine ⟨_, rfl, p, _, 1, _, rfl, rfl, h, rfl, _, _, rfl, rfl, len1000 (by show tg.length + 1 ≤ _; (first | lia | omega)), ?_⟩
      refine ⟨_, rfl, p, _, 2, _, rfl, rfl, h, rfl, q0, i, rfl, hi, by (first | lia | omega), by (first | lia | omega), hw.2, fun H1 s1 => ?_⟩
      exact ⟨_, _, rfl, rfl, len1000 (by rw [app_len]; show tg.length + 1 + _ ≤ _; (first | lia | omega)), _, _, rfl, rfl, len1000 (by rw [app_len, app_len]; show tg.length + 1 + _ + 1 ≤ _; (first | lia | omega)), q H1 s1⟩
  | @several _ q0 b vs ps h1 h2 hr0 =>
    have hps : szs ps + 1 ≤ 200 := hs
    have hds : dps ps + 1 < d + 1 := hd
    have hl2 := txs_len (sevB b) ps hw
    refine iteF ⟨_, rfl, p, _, 0, _, rfl, rfl, h1, rfl, rfl, _, rfl, ite2 (fun z => absurd z (by cases b <;> decide)) (fun _ => ?_)⟩
    refine ⟨_, rfl, p, _, 0, _, rfl, rfl, h1, rfl, rfl, _, rfl, ite2 (fun z => absurd z (by cases b <;> decide)) (fun _ => ?_)⟩
    refine ⟨_, rfl, p, .several b ps, rfl, .several h1 h2 hr0, fun ra vs' H1 s1 e1 hr1 => ?_⟩
    have hr1 : RepKs K H1 vs' ps := hr1
    refine ⟨ra, rfl, ⟨vs', e1⟩, fun pl hpl => comp_tup (K := K) (a := ra) (p := pl) (xs := vs') (fun i ys σ H2 => ∃ v0 : Option V, σ = [v0, some (.ref p)] ∧ Same H1 H2 ∧ H2 pl = some (.lst ys) ∧ ys = ((txs (sevB b) ps).take i).map V.str)
      ⟨none, rfl, Same.new hpl, upd_same, rfl⟩ ?_ ?_ ?_⟩
    · rintro i ys σ H2 _ ⟨v0, _, sm, hp2, _⟩
      exact ⟨(TF.same sm _ _ e1), hp2⟩
    · rintro i ys x σ H2 hi hx ⟨v0, rfl, sm, hp2, rfl⟩
      obtain ⟨pa, ea, rfl, hea, hra⟩ := hr1.get hx
      obtain ⟨m1, m2, m3⟩ := toL_mem (List.mem_of_getElem? hea)
      have hra2 := hra.mono (TF.same sm)
      have s12 := s1.trans sm
      refine ⟨_, rfl, p, _, 0, _, rfl, rfl, (TF.same s12 _ _ h1), rfl, _, rfl, sevW b, sevB b, pa, ea, rfl, .inl ⟨b, rfl, rfl⟩, hra2, by (first | lia | omega), by (first | lia | omega), m3 hw, fun H3 s3 => ⟨s3 _ _ hp2, len1000' (by rw [List.length_map, List.length_take]; have := txs_count (sevB b) ps; have := cnt_le ps; (first | lia | omega)), CW.next hi ⟨_, rfl, (sm.trans s3).upd_new hpl, upd_same, ?_⟩⟩⟩
      have hti : (txs (sevB b) ps)[i]? = some (brc (sevB b) (kw ea) (tx ea)) := by rw [txs_map, List.getElem?_map, hea]; rfl
      obtain ⟨hil, hie⟩ := List.getElem?_eq_some_iff.mp hti
      rw [List.take_succ_eq_append_getElem hil, hie, List.map_append]
      rfl
    · rintro ys σ H2 ⟨v0, rfl, sm, hp2, rfl⟩
      have hcv : vs'.length = (txs (sevB b) ps).length := by rw [hr1.length, txs_count]
      rw [hcv, List.take_length] at hp2
      have s12 := s1.trans sm
      have hx1 := TF.same (K := K) s12 _ _ h1
      rw [tx] at q
      cases b with
      | true =>
        refine ⟨_, rfl, p, _, 0, _, rfl, rfl, hx1, rfl, rfl, _, rfl, ite2 (fun _ => ?_) (fun z => absurd (by decide) z)⟩
        refine ⟨rfl, _, rfl, " ", pl, txs (sevB true) ps, rfl, rfl, SqL.of hp2, ?_, q H2 s12⟩
        show _ + _ * 1 ≤ _
        (first | lia | omega)
      | false =>
        refine ⟨_, rfl, p, _, 0, _, rfl, rfl, hx1, rfl, rfl, _, rfl, ite2 (fun z => absurd z (by decide)) (fun _ => ?_)⟩
        refine ⟨_, rfl, p, _, 0, _, rfl, rfl, hx1, rfl, rfl, _, rfl, ite2 (fun _ => ?_) (fun z => absurd (by decide) z)⟩
        refine ⟨rfl, _, rfl, " | ", pl, txs (sevB false) ps, rfl, rfl, SqL.of hp2, ?_, q H2 s12⟩
        show _ + _ * 3 ≤ _
        (first | lia | omega)
  | @rep _ q0 m pe h1 hr0 =>
    have hps : sz pe + 1 ≤ 200 := hs
    have hds : dp pe + 1 < d + 1 := hd
    have hlp := tx_len pe hw
    have hbl := brc_len five (kw pe) (tx pe)
    have hm : repW m = "many" ∨ repW m = "some" ∨ repW m = "maybe" := by unfold repW; split; exact .inl rfl; split; exact .inr (.inl rfl); exact .inr (.inr rfl)
    refine iteF ⟨_, rfl, p, _, 0, _, rfl, rfl, h1, rfl, rfl, _, rfl, ite2 (fun z => absurd z (by rcases hm with y | y | y <;> rw [y] <;> decide)) (fun _ => ?_)⟩
    refine ⟨_, rfl, p, _, 0, _, rfl, rfl, h1, rfl, rfl, _, rfl, ite2 (fun z => absurd z (by rcases hm with y | y | y <;> rw [y] <;> decide)) (fun _ => ?_)⟩
    refine ⟨_, rfl, p, .rep m pe, rfl, .rep h1 hr0, fun ra vs' H1 s1 e1 hr1 => ?_⟩
    have hr1 : RepKs K H1 vs' (.cons pe .nil) := hr1
    have hcn : vs'.length = 1 := by rw [hr1.length]; rfl
    refine ⟨ra, rfl, ⟨vs', e1⟩, fun pl hpl => comp_tup (K := K) (a := ra) (p := pl) (xs := vs') (fun i ys σ H2 => ∃ v0 : Option V, σ = [v0, some (.ref p)] ∧ Same H1 H2 ∧ H2 pl = some (.lst ys) ∧ ys = ((txs five (.cons pe .nil)).take i).map V.str)
      ⟨none, rfl, Same.new hpl, upd_same, rfl⟩ ?_ ?_ ?_⟩
    · rintro i ys σ H2 _ ⟨v0, _, sm, hp2, _⟩
      exact ⟨(TF.same sm _ _ e1), hp2⟩
    · rintro i ys x σ H2 hi hx ⟨v0, rfl, sm, hp2, rfl⟩
      obtain ⟨pa, ea, rfl, hea, hra⟩ := hr1.get hx
      obtain ⟨m1, m2, m3⟩ := toL_mem (List.mem_of_getElem? hea)
      have m1' : dp ea ≤ max (dp pe) 0 := m1
      have m2' : sz ea ≤ sz pe + 0 := m2
      have m1'' : dp ea ≤ dp pe := by rw [Nat.max_eq_left (Nat.zero_le _)] at m1'; exact m1'
      have hra2 := hra.mono (TF.same sm)
      have s12 := s1.trans sm
      refine ⟨_, rfl, p, _, 0, _, rfl, rfl, (TF.same s12 _ _ h1), rfl, _, rfl, repW m, five, pa, ea, rfl, .inr ⟨m, rfl, rfl⟩, hra2, by (first | lia | omega), by (first | lia | omega), m3 ⟨hw, trivial⟩, fun H3 s3 => ⟨s3 _ _ hp2, len1000' (by rw [List.length_map, List.length_take]; (first | lia | omega)), CW.next hi ⟨_, rfl, (sm.trans s3).upd_new hpl, upd_same, ?_⟩⟩⟩
      have hti : (txs five (.cons pe .nil))[i]? = some (brc five (kw ea) (tx ea)) := by rw [txs_map, List.getElem?_map, hea]; rfl
      obtain ⟨hil, hie⟩ := List.getElem?_eq_some_iff.mp hti
      rw [List.take_succ_eq_append_getElem hil, hie, List.map_append]
      rfl
    · rintro ys σ H2 ⟨v0, rfl, sm, hp2, rfl⟩
      rw [hcn] at hp2
      have hp3 : H2 pl = some (.lst [.str (brc five (kw pe) (tx pe))]) := hp2
      have s12 := s1.trans sm
      have hx1 := TF.same (K := K) s12 _ _ h1
      rw [tx] at q
      refine ⟨_, rfl, p, _, 0, _, rfl, rfl, hx1, rfl, rfl, _, rfl, ite2 (fun z => absurd z (by rcases hm with y | y | y <;> rw [y] <;> decide)) (fun _ => ?_)⟩
      refine ⟨_, rfl, p, _, 0, _, rfl, rfl, hx1, rfl, rfl, _, rfl, ite2 (fun z => absurd z (by rcases hm with y | y | y <;> rw [y] <;> decide)) (fun _ => ?_)⟩
      obtain ⟨D, hK, hD⟩ := C.marksT
      have h3 : (repM m).length = 1 := by unfold repM; split; rfl; split <;> rfl
      exact ⟨_, rfl, pl, _, 0, _, rfl, rfl, SqL.of hp3, rfl, _, rfl, p, _, 0, _, rfl, rfl, hx1, rfl, A_MARKS, D, repW m, _, rfl, rfl, hK, hD m, _, _, rfl, rfl, len1000 (by rw [h3]; (first | lia | omega)), q H2 s12⟩
/-! how deep, and which names -/
mutual
def nm (b : Bool) : Ex → List Str
  | .nil => []
  | .tag _ i => if b = true then nm b i else []
  | .name n => [n]
  | .several _ ps => nms b ps
  | .rep _ p => nm b p
def nms (b : Bool) : Exs → List Str
  | .nil => []
  | .cons e r => nm b e ++ nms b r
end
theorem nms_flat (b : Bool) : ∀ ps : Exs, nms b ps = (toL ps).flatMap (nm b)
  | .nil => rfl
  | .cons e r => by rw [nms, nms_flat b r, toL, List.flatMap_cons]
mutual
theorem nm_len (b : Bool) : ∀ e : Ex, (nm b e).length ≤ sz e
  | .nil => Nat.zero_le _
  | .tag _ i => by
    have := nm_len b i
    rw [nm, sz]
    split
    · (first | lia | omega)
    · exact Nat.zero_le _
  | .name _ => Nat.le_refl _
  | .several _ ps => by
    have := nms_len b ps
    rw [nm, sz]
    (first | lia | omega)
  | .rep _ p => by
    have := nm_len b p
    rw [nm, sz]
    (first | lia | omega)
theorem nms_len (b : Bool) : ∀ ps : Exs, (nms b ps).length ≤ szs ps
  | .nil => Nat.zero_le _
  | .cons e r => by
    have h1 := nm_len b e
    have h2 := nms_len b r
    rw [nms, szs, List.length_append]
    (first | lia | omega)
end
theorem flat_take_le {α β : Type} (f : α → List β) : ∀ (l : List α) (i : Nat), ((l.take i).flatMap f).length ≤ (l.flatMap f).length
  | [], i => by rw [List.take_nil]; exact Nat.le_refl _
  | a :: l, 0 => Nat.zero_le _
  | a :: l, i + 1 => by
    have := flat_take_le f l i
    rw [List.take_succ_cons, List.flatMap_cons, List.flatMap_cons, List.length_append, List.length_append]
    (first | lia | omega)
def spDep (K : PySem.W.Frag) (d : Nat) : Sp := fun vs H Q _ => ∃ p e, vs = [.ref p] ∧ RepK K H p e ∧ dp e < d ∧ sz e ≤ 200 ∧ ∀ (n : Int) H', Same H H' → n ≤ dp e + 1 → Q (.int n) H'
def spNm (K : PySem.W.Frag) (b : Bool) (d : Nat) : Sp := fun vs H Q _ => ∃ p e, vs = [.ref p] ∧ RepK K H p e ∧ dp e < d ∧ sz e ≤ 200 ∧ ∀ l H', Same H H' → H l = none → H' l = some (.lst ((nm b e).map V.str)) → Q (.ref l) H'
theorem ptE_le : ∀ {e x : Ex}, x ∈ toL (ptE e) → dp x < dp e ∧ sz x < sz e
  | .nil, _, h => nomatch h
  | .tag _ i, x, h => by
    rw [List.mem_singleton.mp h]
    show dp i < dp i + 1 ∧ sz i < sz i + 1
    (first | lia | omega)
  | .name _, _, h => nomatch h
  | .several _ ps, x, h => by
    obtain ⟨h1, h2, _⟩ := toL_mem (ps := ps) h
    show dp x < dps ps + 1 ∧ sz x < szs ps + 1
    (first | lia | omega)
  | .rep _ p, x, h => by
    rw [List.mem_singleton.mp h]
    show dp p < dp p + 1 ∧ sz p < sz p + 1
    (first | lia | omega)
theorem ptE_szs : ∀ e : Ex, szs (ptE e) ≤ sz e
  | .nil => Nat.zero_le _
  | .tag _ i => by show sz i + 0 ≤ sz i + 1; (first | lia | omega)
  | .name _ => Nat.zero_le _
  | .several _ ps => by show szs ps ≤ szs ps + 1; (first | lia | omega)
  | .rep _ p => by show sz p + 0 ≤ sz p + 1; (first | lia | omega)
set_option maxHeartbeats 1000000 in
theorem ok_depth_of (d : Nat) (B : ∀ x ∈ blts, mg x = none) (g_parts_of : Has P w K mg base "parts_of" ["expr"] 1 (spPartsOfK K)) (g_depth_of : Has P w K mg base "depth_of" ["expr"] (d + 1) (spDep K d)) (F : Fun K "depth_of" "depth_of" s_depth_of f fd) : FnOk P w K mg base CX0 (d + 2) f fd ["expr"] (spDep K (d + 1)) := by
  refine F.ok sc_depth_of (fun vs H Q E h => ?_) (fun cdv A outer s H vs Q E hr h => ?_)
  · obtain ⟨p, e, rfl, _⟩ := h
    rfl
  obtain ⟨p, e, rfl, hR, hd, hs, q⟩ := h
  have hu := hu_room hr
  refine ⟨_, (pss_one (ps_ret (pe_op op_add pe_int (pe_max_d hu rfl rfl (B "max" (by decide)) (pa_cons (pe_comp (cl := []) ["part"] [] (pi_tup (pe_has g_parts_of hr rfl (pa_cons (pv 0) pa_nil) (by (first | lia | omega)))) (fun _ _ _ _ => (pg_name (i := 0) nd1 rfl (Or.inl rfl))) (fun _ _ _ _ => (pe_has g_depth_of hr rfl (pa_cons (pv 0) pa_nil) (by (first | lia | omega)))) rfl rfl (by decide) rfl (by decide) (fun _ _ h => nomatch h) (nofree (by decide)) (fun _ _ h => nomatch h) (fun _ => rfl)) pa_nil) pe_int)))), ?_⟩
  have hsz := ptE_szs e
  refine ⟨_, rfl, p, e, rfl, hR, fun ra vs' H1 s1 e1 hr1 => ?_⟩
  have hvl := hr1.length
  have hcl := cnt_le (ptE e)
  refine ⟨ra, rfl, ⟨vs', e1⟩, fun pl hpl => comp_tup (K := K) (a := ra) (p := pl) (xs := vs') (fun i ys σ H2 => ∃ (v0 : Option V) (ns : List Int), σ = [v0] ∧ Same H1 H2 ∧ H2 pl = some (.lst ys) ∧ ys = ns.map V.int ∧ ns.length = i ∧ ∀ n ∈ ns, n ≤ (dp e : Int))
    ⟨none, [], rfl, Same.new hpl, upd_same, rfl, rfl, fun _ h => nomatch h⟩ ?_ ?_ ?_⟩
  · rintro i ys σ H2 _ ⟨v0, ns, _, sm, hp2, _⟩
    exact ⟨(TF.same sm _ _ e1), hp2⟩
  · rintro i ys x σ H2 hi hx ⟨v0, ns, rfl, sm, hp2, rfl, hnl, hn⟩
    obtain ⟨pa, ea, rfl, hea, hra⟩ := hr1.get hx
    obtain ⟨m1, m2⟩ := ptE_le (List.mem_of_getElem? hea)
    refine ⟨_, rfl, pa, ea, rfl, hra.mono (TF.same sm), by (first | lia | omega), by (first | lia | omega), fun n H3 s3 hn3 => ⟨s3 _ _ hp2, len1000' (by rw [List.length_map, hnl]; (first | lia | omega)), CW.next hi ⟨_, ns ++ [n], rfl, (sm.trans s3).upd_new hpl, upd_same, by simp, by simp [hnl], fun x hx => ?_⟩⟩⟩
    rcases List.mem_append.mp hx with hx | hx
    · exact hn x hx
    · rw [List.mem_singleton.mp hx]
      (first | lia | omega)
  rintro ys σ H2 ⟨v0, ns, _, sm, hp2, rfl, _, hn⟩
  have s2 := s1.trans sm
  refine ⟨pl, ns, rfl, SqL.of hp2, fun p3 hp3 => ⟨fun o => SqL.of (by rw [upd_ne (ne_of_none hp2 hp3)]; exact hp2), fun _ => ?_, fun M hM _ => ?_⟩⟩
  · exact ⟨_, _, rfl, rfl, q _ _ (s2.trans (Same.new hp3)) (by show (1 : Int) + 0 ≤ _; (first | lia | omega))⟩
  · have := hn M hM
    exact ⟨_, _, rfl, rfl, q _ _ (s2.trans (Same.new hp3)) (by (first | lia | omega))⟩
theorem nm_parts (b : Bool) : ∀ e : Ex, kw e ≠ "name" → (b = true ∨ kw e ≠ "tag") → nm b e = (toL (ptE e)).flatMap (nm b)
  | .nil, _, _ => rfl
  | .tag t i, _, h => by
    have hb : b = true := h.resolve_right fun z => z rfl
    rw [nm, if_pos hb]
    show _ = nm b i ++ []
    rw [List.append_nil]
  | .name _, h, _ => absurd rfl h
  | .several _ ps, _, _ => by rw [nm]; exact nms_flat b ps
  | .rep _ p, _, _ => by
    rw [nm]
    show _ = nm b p ++ []
    rw [List.append_nil]
/-- names found so far -/
theorem nm_next {b : Bool} {es : List Ex} {i : Nat} {e : Ex} (h : es[i]? = some e) : ((es.take i).flatMap (nm b)).map V.str ++ (nm b e).map V.str = ((es.take (i + 1)).flatMap (nm b)).map V.str := by
  obtain ⟨hi, he⟩ := List.getElem?_eq_some_iff.mp h
  rw [List.take_succ_eq_append_getElem hi, List.flatMap_append, List.map_append, he]
  simp
theorem RepK.name_of {K : PySem.W.Frag} {H : Hp} {p : Addr} {e : Ex} (h : RepK K H p e) (hk : kw e = "name") : ∃ n, e = .name n ∧ SqT K H p [.str "name", .str n] := by
  cases h with
  | nil h => exact absurd hk (by decide)
  | tag h _ => exact absurd hk (by show ¬ (Str.ofString "tag" = Str.ofString "name"); decide)
  | name h => exact ⟨_, rfl, h⟩
  | @several _ _ b _ _ h _ _ => exact absurd hk (by show ¬ sevW b = _; cases b <;> decide)
  | @rep _ _ m _ h _ => exact absurd hk (by show ¬ repW m = _; unfold repW; split; decide; split <;> decide)
set_option maxHeartbeats 1000000 in
theorem ok_names_in (d : Nat) (B : ∀ x ∈ blts, mg x = none) (g_parts_of : Has P w K mg base "parts_of" ["expr"] 1 (spPartsOfK K)) (g_names_in : Has P w K mg base "names_in" ["expr"] (d + 1) (spNm K true d)) (F : Fun K "names_in" "names_in" s_names_in f fd) : FnOk P w K mg base CX0 (d + 2) f fd ["expr"] (spNm K true (d + 1)) := by
  refine F.ok sc_names_in (fun vs H Q E h => ?_) (fun cdv A outer s H vs Q E hr h => ?_)
  · obtain ⟨p, e, rfl, _⟩ := h
    rfl
  obtain ⟨p, e, rfl, hR, hd, hs, q⟩ := h
  refine ⟨_, (pss_cons (ps_if (pt_cmpR op_eq (pe_ix ix_tup (pv 0) pe_int (fun _ _ => rfl)) pe_str (nomark _))
      (pss_one (ps_ret (pe_lst (pa_cons (pe_ix ix_tup (pv 0) pe_int (fun _ _ => rfl)) pa_nil))))
      pss_nil)
    (pss_cons (ps_set (i := 1) sc_names_in.nd rfl (Or.inl rfl) (pe_lst pa_nil))
    (pss_cons (ps_for PassesOwn.never rfl (pi_tup (pe_has g_parts_of hr rfl (pa_cons (pv 0) pa_nil) (by (first | lia | omega)))) (pg_name (i := 2) sc_names_in.nd rfl (Or.inl rfl))
      (pss_one (ps_expr (pe_bm PySem.F.plainAttrs_list PySem.F.slot_list_extend PySem.F.type_list_extend mt_extend (pv 1) (pa_cons (pe_has g_names_in hr rfl (pa_cons (pv 2) pa_nil) (by (first | lia | omega))) pa_nil)))))
    (pss_one (ps_ret (pv 1)))))), ?_⟩
  obtain ⟨r, ht, _⟩ := hR.top
  refine ⟨_, rfl, p, _, 0, _, rfl, rfl, ht, at0, rfl, _, rfl, ite2 (fun z => ?_) (fun z => ?_)⟩
  · have z : V.str (kw e) = V.str "name" := of_decide_eq_true z
    injection z with z
    obtain ⟨n, rfl, hn⟩ := hR.name_of z
    exact ⟨_, rfl, p, _, 1, _, rfl, rfl, hn, rfl, (by show 1 ≤ sizeLine; decide), fun l hl => q l _ (Same.new hl) hl upd_same⟩
  have hk : kw e ≠ "name" := fun k => z (decide_eq_true (by rw [k]))
  refine ⟨(by show 0 ≤ sizeLine; decide), fun fl hfl => ?_⟩
  have s0 : Same H (upd H fl (.lst [])) := Same.new hfl
  refine ⟨_, rfl, p, e, rfl, hR.mono (TF.same s0), fun ra vs' H1 s1 e1 hr1 => ?_⟩
  have hvl := hr1.length
  have hcl := toL_len (ptE e)
  have hfm := nm_parts true e hk (.inl rfl)
  have hnl := nm_len true e
  have h1 : H1 fl = some (.lst []) := s1 _ _ upd_same
  have s01 := s0.trans s1
  refine ⟨ra, rfl, ⟨vs', e1⟩, for_tup (K := K) (a := ra) (xs := vs') (fun i σ H2 => ∃ (v2 : Option V), σ = [some (.ref p), some (.ref fl), v2] ∧ Same H H2 ∧ TF K H1 H2 ∧ H2 fl = some (.lst ((((toL (ptE e)).take i).flatMap (nm true)).map V.str)))
    ⟨none, rfl, s01, TF.refl, h1⟩ ?_ ?_ ?_⟩
  · rintro i σ H2 _ ⟨v2, _, sm, tf, hp2⟩
    exact tf _ _ e1
  · rintro i x σ H2 hx ⟨v2, rfl, sm, tf, hp2⟩
    obtain ⟨pa, ea, rfl, hea, hra⟩ := hr1.get hx
    obtain ⟨m1, m2⟩ := ptE_le (List.mem_of_getElem? hea)
    refine ⟨_, rfl, .inl ⟨rfl, _, SqL.of hp2⟩, _, rfl, pa, ea, rfl, hra.mono tf, by (first | lia | omega), by (first | lia | omega), fun l3 H3 s3 f3 e3 => ?_⟩
    have n3 : l3 ≠ fl := fun z => by rw [z, hp2] at f3; cases f3
    refine ⟨fl, l3, _, _, rfl, rfl, s3 _ _ hp2, e3, ?_, ?_⟩
    · have := flat_take_le (nm true) (toL (ptE e)) (i + 1)
      have h9 := congrArg List.length (nm_next (b := true) hea)
      rw [List.length_append] at h9
      rw [h9, List.length_map]
      rw [← hfm] at this
      exact len1000 (by (first | lia | omega))
    · refine ⟨_, rfl, ?_, ?_, ?_⟩
      · intro b o hb
        have : b ≠ fl := fun z => by rw [z, hfl] at hb; cases hb
        rw [upd_ne this]
        exact s3 _ _ (sm _ _ hb)
      · exact (tf.trans (TF.same s3)).trans (TF.lst (s3 _ _ hp2))
      · rw [upd_same, nm_next hea]
  rintro σ H2 ⟨v2, rfl, sm, tf, hp2⟩
  rw [hvl, ← hcl, List.take_length, ← hfm] at hp2
  exact ⟨_, rfl, q fl H2 sm hfl hp2⟩
set_option maxHeartbeats 1000000 in
theorem ok_names_outside (d : Nat) (B : ∀ x ∈ blts, mg x = none) (g_parts_of : Has P w K mg base "parts_of" ["expr"] 1 (spPartsOfK K)) (g_names_outside : Has P w K mg base "names_outside" ["expr"] (d + 1) (spNm K false d)) (F : Fun K "names_outside" "names_outside" s_names_outside f fd) : FnOk P w K mg base CX0 (d + 2) f fd ["expr"] (spNm K false (d + 1)) := by
  refine F.ok sc_names_outside (fun vs H Q E h => ?_) (fun cdv A outer s H vs Q E hr h => ?_)
  · obtain ⟨p, e, rfl, _⟩ := h
    rfl
  obtain ⟨p, e, rfl, hR, hd, hs, q⟩ := h
  refine ⟨_, (pss_cons (ps_if (pt_cmpR op_eq (pe_ix ix_tup (pv 0) pe_int (fun _ _ => rfl)) pe_str (nomark _))
      (pss_one (ps_ret (pe_lst (pa_cons (pe_ix ix_tup (pv 0) pe_int (fun _ _ => rfl)) pa_nil))))
      pss_nil)
    (pss_cons (ps_if (pt_cmpR op_eq (pe_ix ix_tup (pv 0) pe_int (fun _ _ => rfl)) pe_str (nomark _))
      (pss_one (ps_ret (pe_lst pa_nil)))
      pss_nil)
    (pss_cons (ps_set (i := 1) sc_names_outside.nd rfl (Or.inl rfl) (pe_lst pa_nil))
    (pss_cons (ps_for PassesOwn.never rfl (pi_tup (pe_has g_parts_of hr rfl (pa_cons (pv 0) pa_nil) (by (first | lia | omega)))) (pg_name (i := 2) sc_names_outside.nd rfl (Or.inl rfl))
      (pss_one (ps_expr (pe_bm PySem.F.plainAttrs_list PySem.F.slot_list_extend PySem.F.type_list_extend mt_extend (pv 1) (pa_cons (pe_has g_names_outside hr rfl (pa_cons (pv 2) pa_nil) (by (first | lia | omega))) pa_nil)))))
    (pss_one (ps_ret (pv 1))))))), ?_⟩
  obtain ⟨r, ht, _⟩ := hR.top
  refine ⟨_, rfl, p, _, 0, _, rfl, rfl, ht, at0, rfl, _, rfl, ite2 (fun z => ?_) (fun z => ?_)⟩
  · have z : V.str (kw e) = V.str "name" := of_decide_eq_true z
    injection z with z
    obtain ⟨n, rfl, hn⟩ := hR.name_of z
    exact ⟨_, rfl, p, _, 1, _, rfl, rfl, hn, rfl, (by show 1 ≤ sizeLine; decide), fun l hl => q l _ (Same.new hl) hl upd_same⟩
  have hk : kw e ≠ "name" := fun k => z (decide_eq_true (by rw [k]))
  refine ⟨_, rfl, p, _, 0, _, rfl, rfl, ht, at0, rfl, _, rfl, ite2 (fun z => ?_) (fun z => ?_)⟩
  · have z : V.str (kw e) = V.str "tag" := of_decide_eq_true z
    injection z with z
    refine ⟨(by show 0 ≤ sizeLine; decide), fun l hl => q l _ (Same.new hl) hl ?_⟩
    have : nm false e = [] := by
      cases e with
      | tag t i => rfl
      | nil => rfl
      | name n => exact absurd rfl hk
      | several b ps => exact absurd z (by show ¬ sevW b = _; cases b <;> decide)
      | rep m p => exact absurd z (by show ¬ repW m = _; unfold repW; split; decide; split <;> decide)
    rw [upd_same, this]
    rfl
  have hk2 : kw e ≠ "tag" := fun k => z (decide_eq_true (by rw [k]))
  refine ⟨(by show 0 ≤ sizeLine; decide), fun fl hfl => ?_⟩
  have s0 : Same H (upd H fl (.lst [])) := Same.new hfl
  refine ⟨_, rfl, p, e, rfl, hR.mono (TF.same s0), fun ra vs' H1 s1 e1 hr1 => ?_⟩
  have hvl := hr1.length
  have hcl := toL_len (ptE e)
  have hfm := nm_parts false e hk (.inr hk2)
  have hnl := nm_len false e
  have h1 : H1 fl = some (.lst []) := s1 _ _ upd_same
  have s01 := s0.trans s1
  refine ⟨ra, rfl, ⟨vs', e1⟩, for_tup (K := K) (a := ra) (xs := vs') (fun i σ H2 => ∃ (v2 : Option V), σ = [some (.ref p), some (.ref fl), v2] ∧ Same H H2 ∧ TF K H1 H2 ∧ H2 fl = some (.lst ((((toL (ptE e)).take i).flatMap (nm false)).map V.str)))
    ⟨none, rfl, s01, TF.refl, h1⟩ ?_ ?_ ?_⟩
  · rintro i σ H2 _ ⟨v2, _, sm, tf, hp2⟩
    exact tf _ _ e1
  · rintro i x σ H2 hx ⟨v2, rfl, sm, tf, hp2⟩
    obtain ⟨pa, ea, rfl, hea, hra⟩ := hr1.get hx
    obtain ⟨m1, m2⟩ := ptE_le (List.mem_of_getElem? hea)
    refine ⟨_, rfl, .inl ⟨rfl, _, SqL.of hp2⟩, _, rfl, pa, ea, rfl, hra.mono tf, by (first | lia | omega), by (first | lia | omega), fun l3 H3 s3 f3 e3 => ?_⟩
    refine ⟨fl, l3, _, _, rfl, rfl, s3 _ _ hp2, e3, ?_, ?_⟩
    · have := flat_take_le (nm false) (toL (ptE e)) (i + 1)
      have h9 := congrArg List.length (nm_next (b := false) hea)
      rw [List.length_append] at h9
      rw [h9, List.length_map]
      rw [← hfm] at this
      exact len1000 (by (first | lia | omega))
    · refine ⟨_, rfl, ?_, ?_, ?_⟩
      · intro b o hb
        have : b ≠ fl := fun z => by rw [z, hfl] at hb; cases hb
        rw [upd_ne this]
        exact s3 _ _ (sm _ _ hb)
      · exact (tf.trans (TF.same s3)).trans (TF.lst (s3 _ _ hp2))
      · rw [upd_same, nm_next hea]
  rintro σ H2 ⟨v2, rfl, sm, tf, hp2⟩
  rw [hvl, ← hcl, List.take_length, ← hfm] at hp2
  exact ⟨_, rfl, q fl H2 sm hfl hp2⟩
/-! books -/
theorem pi_lt {X : Cx} {tg l : Expr} {tl : TE} (hl : PE X l tl) : PI X tg l (fun σ H R => iList X.K tl σ H R ∨ iTup X.K tl σ H R) := by
  intro pins s σ H R I h
  rcases h with h | h
  · exact pi_list hl pins s σ H R I h
  · exact pi_tup hl pins s σ H R I h
/-- the pairs of a book as they lie -/
def BkP (K : PySem.W.Frag) (H : Hp) (v : V) (x : Str × Ex) : Prop := ∃ p q, v = .ref p ∧ H p = some (.tup [.str x.1, .ref q]) ∧ RepK K H q x.2
def BkR (K : PySem.W.Frag) (H : Hp) (vs : List V) (bk : List (Str × Ex)) : Prop := Paired (BkP K H) vs bk
theorem BkP.keep {K : PySem.W.Frag} {H H' : Hp} (k : TK H H') (t : TF K H H') {v : V} {x : Str × Ex} (h : BkP K H v x) : BkP K H' v x := by
  obtain ⟨p, q, e, h1, h2⟩ := h
  exact ⟨p, q, e, k _ _ h1, h2.mono t⟩
theorem BkR.keep {K : PySem.W.Frag} {H H' : Hp} (k : TK H H') (t : TF K H H') {vs : List V} {bk : List (Str × Ex)} (h : BkR K H vs bk) : BkR K H' vs bk := Paired.mapP h fun _ _ z => z.keep k t
theorem BkR.same {K : PySem.W.Frag} {H H' : Hp} (s : Same H H') {vs : List V} {bk : List (Str × Ex)} (h : BkR K H vs bk) : BkR K H' vs bk := h.keep s.tk (TF.same s)
theorem paired_get {α β : Type} {F : α → β → Prop} : ∀ {l₁ : List α} {l₂ : List β} {i : Nat} {a : α}, Paired F l₁ l₂ → l₁[i]? = some a → ∃ b, l₂[i]? = some b ∧ F a b
  | _, _, i, _, .nil, h => by simp at h
  | _, _, 0, _, .cons h _, e => by cases e; exact ⟨_, rfl, h⟩
  | _, _, i + 1, a, .cons _ r, e => by
    obtain ⟨b, h1, h2⟩ := paired_get (i := i) (a := a) r (by simpa using e)
    exact ⟨b, by simpa using h1, h2⟩
/-- the text of a book -/
def prT (x : Str × Ex) : Str := x.1 ++ " = " ++ tx x.2
def bkT (bk : List (Str × Ex)) : Str := Txt.join "; " (bk.map prT)
theorem prT_cs (x : Str × Ex) : cs (prT x) = pairL x.1 x.2 := by
  unfold prT pairL
  rw [cs_app, cs_app, List.append_assoc]
  rfl
theorem bkT_cons (x : Str × Ex) (bk : List (Str × Ex)) : cs (bkT (x :: bk)) = pairL x.1 x.2 ++ bk.flatMap fun y => [59, 32] ++ pairL y.1 y.2 := by
  unfold bkT
  rw [List.map_cons, cs_join, jn_cons, List.flatMap_map, prT_cs]
  congr 1
  refine congrArg (fun f => List.flatMap f bk) (funext fun y => ?_)
  rw [prT_cs]
  rfl
def Bk1 (x : Str × Ex) : Prop := x.1.length ≤ 8 ∧ dp x.2 < 13 ∧ sz x.2 ≤ 200 ∧ w8 x.2
theorem prT_len {x : Str × Ex} (h : Bk1 x) : (prT x).length ≤ 4020 := by
  have := tx_len x.2 h.2.2.2
  have h1 := h.1
  have h2 := h.2.2.1
  unfold prT
  rw [app_len, app_len]
  show _ + 3 + _ ≤ _
  (first | lia | omega)
theorem prT_sum : ∀ {bk : List (Str × Ex)}, (∀ x ∈ bk, Bk1 x) → ((bk.map prT).map (·.length)).sum ≤ 4020 * bk.length
  | [], _ => Nat.le_refl _
  | x :: bk, h => by
    have h1 := prT_len (h x (List.mem_cons_self ..))
    have h2 := prT_sum (bk := bk) fun y hy => h y (List.mem_cons_of_mem _ hy)
    simp only [List.map_cons, List.sum_cons, List.length_cons]
    (first | lia | omega)
def spShown (K : PySem.W.Frag) : Sp := fun vs H Q _ => ∃ p ws bk, vs = [.ref p] ∧ (SqL K H p ws ∨ SqT K H p ws) ∧ BkR K H ws bk ∧ bk.length ≤ 100 ∧ (∀ x ∈ bk, Bk1 x) ∧ ∀ H', Same H H' → Q (.str (bkT bk)) H'
set_option maxHeartbeats 1000000 in
theorem ok_shown (B : ∀ x ∈ blts, mg x = none) (g_shown_expr : Has P w K mg base "shown_expr" ["expr"] 27 (spShowK K 13)) (F : Fun K "shown" "shown" s_shown f fd) : FnOk P w K mg base CX0 28 f fd ["book"] (spShown K) := by
  refine F.ok sc_shown (fun vs H Q E h => ?_) (fun cdv A outer s H vs Q E hr h => ?_)
  · obtain ⟨p, ws, bk, rfl, _⟩ := h
    rfl
  obtain ⟨p, ws, bk, rfl, hS, hB, hl, h1, q⟩ := h
  refine ⟨_, (pss_one (ps_ret (pe_bm PySem.F.plainAttrs_str PySem.F.slot_str_join PySem.F.type_str_join mt_join pe_str (pa_cons (pe_comp (cl := []) ["name", "expr"] [] (K21.pi_lt (pv 0)) (fun _ _ _ _ => (pg_tupK (K := K) (n := 2) rfl rfl (pgs_cons (pg_name (i := 0) (show List.Nodup (["name", "expr"] : List Str) by decide) rfl (Or.inl rfl)) (pgs_cons (pg_name (i := 1) (show List.Nodup (["name", "expr"] : List Str) by decide) rfl (Or.inl rfl)) pgs_nil)))) (fun _ _ _ _ => (pe_op op_add_str (pe_op op_add_str (pv 0) pe_str) (pe_has g_shown_expr hr rfl (pa_cons (pv 1) pa_nil)))) rfl rfl (by decide) rfl (by decide) (fun _ _ h => nomatch h) (nofree (by decide)) (fun _ _ h => nomatch h) (fun _ => rfl)) pa_nil)))), ?_⟩
  have hlen : ws.length = bk.length := Paired.length hB
  have hsum := prT_sum h1
  refine ⟨rfl, ?_⟩
  rcases hS with hS | hS
  · refine .inl ⟨_, rfl, p, rfl, ⟨ws, hS⟩, fun pl hpl => comp_list (K := K) (a := p) (p := pl) (xs := ws) (fun i ys σ H2 => ∃ v0 v1 : Option V, σ = [v0, v1] ∧ Same H H2 ∧ H2 pl = some (.lst ys) ∧ ys = ((bk.map prT).take i).map V.str)
      ⟨none, none, rfl, Same.new hpl, upd_same, rfl⟩ ?_ ?_ ?_⟩
    · rintro i ys σ H2 _ ⟨v0, v1, _, sm, hp2, _⟩
      exact ⟨sm.seq hS, hp2⟩
    · rintro i ys x σ H2 hi hx ⟨v0, v1, rfl, sm, hp2, rfl⟩
      obtain ⟨x, hx1, pp, qq, rfl, e1, e2⟩ := paired_get hB hx
      obtain ⟨b1, b2, b3, b4⟩ := h1 x (List.mem_of_getElem? hx1)
      have htl := tx_len x.2 b4
      refine ⟨pp, _, rfl, SqT.of (sm _ _ e1), rfl, _, _, rfl, _, _, rfl, rfl, ?_⟩
      refine ⟨_, rfl, _, _, rfl, rfl, len1000 (by show _ + 3 ≤ _; (first | lia | omega)), ?_⟩
      refine ⟨_, rfl, qq, x.2, rfl, e2.mono (TF.same sm), b2, b3, b4, fun H3 s3 => ?_⟩
      refine ⟨_, _, rfl, rfl, ?_, s3 _ _ hp2, len1000' (by rw [List.length_map, List.length_take, List.length_map]; (first | lia | omega)), CW.next hi ⟨_, _, rfl, (sm.trans s3).upd_new hpl, upd_same, ?_⟩⟩
      · have : (x.1 ++ " = " ++ tx x.2).length ≤ 4020 := prT_len (h1 x (List.mem_of_getElem? hx1))
        rw [app_len] at this
        exact Nat.le_trans this (by decide)
      · obtain ⟨hi1, hi2⟩ := List.getElem?_eq_some_iff.mp hx1
        rw [List.take_succ_eq_append_getElem (by rw [List.length_map]; exact hi1), List.map_append, List.getElem_map, hi2]
        rfl
    · rintro ys σ H2 ⟨v0, v1, _, sm, hp2, rfl⟩
      rw [hlen, show bk.length = (bk.map prT).length by rw [List.length_map], List.take_length] at hp2
      refine ⟨"; ", pl, bk.map prT, rfl, rfl, SqL.of hp2, ?_, q H2 sm⟩
      rw [List.length_map]
      show _ + _ * 2 ≤ _
      (first | lia | omega)
  · refine .inr ⟨_, rfl, p, rfl, ⟨ws, hS⟩, fun pl hpl => comp_tup (K := K) (a := p) (p := pl) (xs := ws) (fun i ys σ H2 => ∃ v0 v1 : Option V, σ = [v0, v1] ∧ Same H H2 ∧ H2 pl = some (.lst ys) ∧ ys = ((bk.map prT).take i).map V.str)
      ⟨none, none, rfl, Same.new hpl, upd_same, rfl⟩ ?_ ?_ ?_⟩
    · rintro i ys σ H2 _ ⟨v0, v1, _, sm, hp2, _⟩
      exact ⟨TF.same sm _ _ hS, hp2⟩
    · rintro i ys x σ H2 hi hx ⟨v0, v1, rfl, sm, hp2, rfl⟩
      obtain ⟨x, hx1, pp, qq, rfl, e1, e2⟩ := paired_get hB hx
      obtain ⟨b1, b2, b3, b4⟩ := h1 x (List.mem_of_getElem? hx1)
      have htl := tx_len x.2 b4
      refine ⟨pp, _, rfl, SqT.of (sm _ _ e1), rfl, _, _, rfl, _, _, rfl, rfl, ?_⟩
      refine ⟨_, rfl, _, _, rfl, rfl, len1000 (by show _ + 3 ≤ _; (first | lia | omega)), ?_⟩
      refine ⟨_, rfl, qq, x.2, rfl, e2.mono (TF.same sm), b2, b3, b4, fun H3 s3 => ?_⟩
      refine ⟨_, _, rfl, rfl, ?_, s3 _ _ hp2, len1000' (by rw [List.length_map, List.length_take, List.length_map]; (first | lia | omega)), CW.next hi ⟨_, _, rfl, (sm.trans s3).upd_new hpl, upd_same, ?_⟩⟩
      · have : (x.1 ++ " = " ++ tx x.2).length ≤ 4020 := prT_len (h1 x (List.mem_of_getElem? hx1))
        rw [app_len] at this
        exact Nat.le_trans this (by decide)
      · obtain ⟨hi1, hi2⟩ := List.getElem?_eq_some_iff.mp hx1
        rw [List.take_succ_eq_append_getElem (by rw [List.length_map]; exact hi1), List.map_append, List.getElem_map, hi2]
        rfl
    · rintro ys σ H2 ⟨v0, v1, _, sm, hp2, rfl⟩
      rw [hlen, show bk.length = (bk.map prT).length by rw [List.length_map], List.take_length] at hp2
      refine ⟨"; ", pl, bk.map prT, rfl, rfl, SqL.of hp2, ?_, q H2 sm⟩
      rw [List.length_map]
      show _ + _ * 2 ≤ _
      (first | lia | omega)
/-! names twice, names without a pair -/
def spDoubles (K : PySem.W.Frag) : Sp := fun vs H Q _ => ∃ p ws bk, vs = [.ref p] ∧ SqT K H p ws ∧ BkR K H ws bk ∧ bk.length ≤ 100 ∧ (bk.map (·.1)).Nodup ∧ ∀ H', Same H H' → Q .non H'
theorem nodup_take {α : Type} {l : List α} {i : Nat} {a : α} (h : l.Nodup) (e : l[i]? = some a) : a ∉ l.take i := by
  obtain ⟨hi, he⟩ := List.getElem?_eq_some_iff.mp e
  intro z
  obtain ⟨j, hj, hz⟩ := List.getElem_of_mem z
  rw [List.length_take] at hj
  rw [List.getElem_take] at hz
  have hij : j < i := by (first | lia | omega)
  have := (List.pairwise_iff_getElem.mp h) j i (by (first | lia | omega)) hi hij
  exact this (hz.trans he.symm)
theorem valV_seen {ns : List Str} {k : Str} : valV (ns.map fun n => ((Sum.inr n : Key), V.bl true)) (.inr k) = none ↔ k ∉ ns := by
  induction ns with
  | nil => exact ⟨fun _ h => (nomatch h), fun _ => rfl⟩
  | cons a r ih =>
    rw [List.map_cons]
    by_cases e : a = k
    · rw [valV_pos (by rw [e])]
      exact ⟨fun h => (nomatch h), fun h => absurd (by rw [e]; exact List.mem_cons_self ..) h⟩
    · rw [valV_neg (fun z => e (Sum.inr.inj z)), ih, List.mem_cons]
      exact ⟨fun h z => z.elim (fun z => e z.symm) h, fun h z => h (.inr z)⟩
set_option maxHeartbeats 1000000 in
theorem ok_refuse_doubles (B : ∀ x ∈ blts, mg x = none) (F : Fun K "refuse_doubles" "refuse_doubles" s_refuse_doubles f fd) : FnOk P w K mg base CX0 1 f fd ["book"] (spDoubles K) := by
  refine F.ok sc_refuse_doubles (fun vs H Q E h => ?_) (fun cdv A outer s H vs Q E hr h => ?_)
  · obtain ⟨p, ws, bk, rfl, _⟩ := h
    rfl
  obtain ⟨p, ws, bk, rfl, hS, hB, hl, hn, q⟩ := h
  have hu1 : (A.deeper (PyProof.Rows.envOfC (Str.ofString "refuse_doubles") (defScope s_refuse_doubles) s.heap.objs.size f cdv)).units + 1 < cLine := by have := hr.un; (first | lia | omega)
  refine ⟨_, (pss_cons (ps_set (i := 1) sc_refuse_doubles.nd rfl (Or.inl rfl) pe_dnewK)
    (pss_one (ps_for PassesOwn.never rfl (pi_tup (pv 0)) (pg_tup rfl (pgs_cons (pg_name (i := 2) sc_refuse_doubles.nd rfl (Or.inl rfl)) (pgs_cons (pg_name (i := 3) sc_refuse_doubles.nd rfl (Or.inl rfl)) pgs_nil)))
      (pss_cons (ps_if (pt_cmp (pc_din hu1 (pv 2) (pv 1)))
          (pss_one ps_never)
          pss_nil)
        (pss_one (ps_dput hu1 (pv 1) (pv 2) pe_bl rfl)))))), ?_⟩
  have hlen : ws.length = bk.length := Paired.length hB
  refine fun pd hpd => ?_
  refine ⟨_, rfl, p, rfl, ⟨ws, TF.same (Same.new hpd) _ _ hS⟩, for_tup (K := K) (a := p) (xs := ws) (fun i σ H2 => ∃ v2 v3 : Option V, σ = [some (.ref p), some (.ref pd), v2, v3] ∧ Same H H2 ∧ H2 pd = some (.dK (((bk.take i).map (·.1)).map fun n => ((Sum.inr n : Key), V.bl true))))
    ⟨none, none, rfl, Same.new hpd, upd_same⟩ ?_ ?_ ?_⟩
  · rintro i σ H2 _ ⟨v2, v3, _, sm, _⟩
    exact TF.same sm _ _ hS
  · rintro i x σ H2 hx ⟨v2, v3, rfl, sm, hp2⟩
    obtain ⟨x, hx1, pp, qq, rfl, e1, e2⟩ := paired_get hB hx
    obtain ⟨hi1, hi2⟩ := List.getElem?_eq_some_iff.mp hx1
    have hnot : x.1 ∉ (bk.take i).map (·.1) := by
      rw [List.map_take]
      exact nodup_take hn (by rw [List.getElem?_map, hx1]; rfl)
    have hv := valV_seen.mpr hnot
    refine ⟨pp, _, rfl, SqT.of (sm _ _ e1), rfl, _, _, rfl, _, _, rfl, rfl, ?_⟩
    refine ⟨_, rfl, _, rfl, pd, _, rfl, DGet.k (k := .inr x.1) hp2, _, rfl, ?_⟩
    rw [hv]
    refine iteF ?_
    refine ⟨_, rfl, _, rfl, pd, _, rfl, .inl ⟨_, .inr x.1, hp2, rfl, len1000' (by rw [List.length_map, List.length_map, List.length_take]; (first | lia | omega)), rfl⟩, _, _, rfl, ?_, ?_⟩
    · intro b o hb
      have : b ≠ pd := fun z => by rw [z, hpd] at hb; cases hb
      rw [upd_ne this]
      exact sm _ _ hb
    · rw [upd_same, putK_new _ hv, List.take_succ_eq_append_getElem hi1, hi2, List.map_append, List.map_append]
      rfl
  · rintro σ H2 ⟨v2, v3, rfl, sm, _⟩
    exact q H2 sm
/-- a dict made of a book's pairs has its names -/
theorem putAll_has {bk : List (Str × Ex)} {f : Str × Ex → V} {k : Str} (h : k ∈ bk.map (·.1)) {kvs : List (Key × V)} (e : kvs.map (·.1) = bk.map fun x => (Sum.inr x.1 : Key)) : (valV (putAll kvs) (.inr k)).isSome = true := by
  unfold putAll
  rw [valV_all_from, Bool.or_eq_true]
  refine .inr (List.any_eq_true.mpr ?_)
  obtain ⟨x, hx, rfl⟩ := List.mem_map.mp h
  have : (Sum.inr x.1 : Key) ∈ kvs.map (·.1) := by rw [e]; exact List.mem_map.mpr ⟨x, hx, rfl⟩
  obtain ⟨kv, h1, h2⟩ := List.mem_map.mp this
  exact ⟨kv, h1, decide_eq_true h2⟩
def spUnnamed (K : PySem.W.Frag) : Sp := fun vs H Q _ => ∃ p ob ws bk, vs = [.ref p] ∧ H p = some (.frz ob (.tup ws)) ∧ ob.dict = none ∧ BkR K H ws bk ∧ bk.length ≤ 100 ∧ (∀ x ∈ bk, Bk1 x ∧ ∀ n ∈ nm true x.2, n ∈ bk.map (·.1)) ∧ ∀ H', Same H H' → Q .non H'
theorem BkR.kvs {K : PySem.W.Frag} {H : Hp} : ∀ {ws : List V} {bk : List (Str × Ex)}, BkR K H ws bk → ∃ kvs : List (Key × V), kvs.map (·.1) = (bk.map fun x => (Sum.inr x.1 : Key)) ∧ Paired (fun (y : V) (kv : Key × V) => ∃ t, y = .ref t ∧ H t = some (.tup [kV kv.1, kv.2])) ws kvs
  | _, _, .nil => ⟨[], rfl, .nil⟩
  | _, _, .cons (b := x) h r => by
    obtain ⟨kvs, h1, h2⟩ := BkR.kvs r
    obtain ⟨p, q, rfl, e1, _⟩ := h
    exact ⟨(.inr x.1, .ref q) :: kvs, by rw [List.map_cons, h1]; rfl, .cons ⟨p, rfl, e1⟩ h2⟩
set_option maxHeartbeats 1000000 in
theorem ok_refuse_unnamed (B : ∀ x ∈ blts, mg x = none) (g_names_in : Has P w K mg base "names_in" ["expr"] 14 (spNm K true 13)) (F : Fun K "refuse_unnamed" "refuse_unnamed" s_refuse_unnamed f fd) : FnOk P w K mg base CX0 15 f fd ["book"] (spUnnamed K) := by
  refine F.ok sc_refuse_unnamed (fun vs H Q E h => ?_) (fun cdv A outer s H vs Q E hr h => ?_)
  · obtain ⟨p, ob, ws, bk, rfl, _⟩ := h
    rfl
  obtain ⟨p, ob, ws, bk, rfl, hf, hob, hB, hl, hn, q⟩ := h
  have hu1 : (A.deeper (PyProof.Rows.envOfC (Str.ofString "refuse_unnamed") (defScope s_refuse_unnamed) s.heap.objs.size f cdv)).units + 1 < cLine := by have := hr.un; (first | lia | omega)
  refine ⟨_, (pss_cons (ps_set (i := 1) sc_refuse_unnamed.nd rfl (Or.inl rfl) (pe_callTy (call_dict_tup rfl) rfl (B "dict" (by decide)) bt_dict (pa_cons (pv 0) pa_nil)))
    (pss_one (ps_for PassesOwn.never rfl (pi_tup (pv 0)) (pg_tup rfl (pgs_cons (pg_name (i := 2) sc_refuse_unnamed.nd rfl (Or.inl rfl)) (pgs_cons (pg_name (i := 3) sc_refuse_unnamed.nd rfl (Or.inl rfl)) pgs_nil)))
      (pss_one (ps_for PassesOwn.never rfl (pi_list (pe_has g_names_in hr rfl (pa_cons (pv 3) pa_nil))) (pg_name (i := 4) sc_refuse_unnamed.nd rfl (Or.inl rfl))
          (pss_one (ps_if (pt_cmp (pc_dnotin hu1 (pv 4) (pv 1)))
              (pss_one ps_never)
              pss_nil))))))), ?_⟩
  have hlen : ws.length = bk.length := Paired.length hB
  obtain ⟨kvs, hk1, hk2⟩ := hB.kvs
  have hS : ∀ H2, Same H H2 → SqT K H2 p ws := fun H2 s2 => .inl (.inr ⟨ob, s2 _ _ hf⟩)
  refine ⟨_, rfl, p, ob, ws, kvs, rfl, hf, hob, by (first | lia | omega), hk2, fun pd hpd => ?_⟩
  have s1 : Same H (upd H pd (.dK (putAll kvs))) := Same.new hpd
  have hd1 : upd H pd (.dK (putAll kvs)) pd = some (.dK (putAll kvs)) := upd_same
  refine ⟨_, rfl, p, rfl, ⟨ws, hS _ s1⟩, for_tup (K := K) (a := p) (xs := ws) (fun i σ H2 => ∃ v2 v3 v4 : Option V, σ = [some (.ref p), some (.ref pd), v2, v3, v4] ∧ Same H H2 ∧ H2 pd = some (.dK (putAll kvs)))
    ⟨none, none, none, rfl, s1, hd1⟩ ?_ ?_ ?_⟩
  · rintro i σ H2 _ ⟨v2, v3, v4, _, sm, _⟩
    exact hS _ sm
  · rintro i x σ H2 hx ⟨v2, v3, v4, rfl, sm, hp2⟩
    obtain ⟨x, hx1, pp, qq, rfl, e1, e2⟩ := paired_get hB hx
    obtain ⟨⟨b1, b2, b3, b4⟩, hnx⟩ := hn x (List.mem_of_getElem? hx1)
    refine ⟨pp, _, rfl, SqT.of (sm _ _ e1), rfl, _, _, rfl, _, _, rfl, rfl, ?_⟩
    refine ⟨_, rfl, qq, x.2, rfl, e2.mono (TF.same sm), b2, b3, fun l H3 s3 f3 e3 => ?_⟩
    refine ⟨l, rfl, ⟨_, SqL.of e3⟩, for_list (K := K) (a := l) (xs := (nm true x.2).map V.str) (fun j σ H4 => ∃ v4 : Option V, σ = [some (.ref p), some (.ref pd), some (.str x.1), some (.ref qq), v4] ∧ H4 = H3)
      ⟨_, rfl, rfl⟩ ?_ ?_ ?_⟩
    · rintro j σ H4 _ ⟨v4, _, rfl⟩
      exact SqL.of e3
    · rintro j y σ H4 hy ⟨v4, rfl, rfl⟩
      rw [List.getElem?_map] at hy
      obtain ⟨m, hm, rfl⟩ := Option.map_eq_some_iff.mp hy
      have hv := putAll_has (f := fun _ => V.non) (hnx m (List.mem_of_getElem? hm)) hk1
      refine ⟨_, rfl, _, rfl, pd, _, rfl, DGet.k (k := .inr m) (s3 _ _ hp2), _, rfl, ?_⟩
      rw [hv]
      exact iteF ⟨_, rfl, rfl⟩
    · rintro σ H4 ⟨v4, rfl, rfl⟩
      exact ⟨_, _, _, rfl, sm.trans s3, s3 _ _ hp2⟩
  · rintro σ H2 ⟨v2, v3, v4, rfl, sm, _⟩
    exact q H2 sm
/-! rings -/
theorem all_flat (l : List Str) : (l.map V.str).all flatV = true := by
  induction l with
  | nil => rfl
  | cons x l ih => rw [List.map_cons, List.all_cons, ih]; rfl
theorem call_anyK {X : Cx} {K : PySem.W.Frag} (h : X.K = K) (hc : X.calm = true) : CallR X (.builtin "any") (fun xs H Q => ∃ (p : Addr) (bs : List Bool), xs = [.ref p] ∧ SqL K H p (bs.map V.bl) ∧ Q (.bl (bs.any id)) H) := by
  subst h
  exact call_any hc
theorem pi_listK {X : Cx} {K : PySem.W.Frag} {tg l : Expr} {tl : TE} (h : X.K = K) (hl : PE X l tl) : PI X tg l (iList K tl) := by
  subst h
  exact pi_list hl
/-- those that use one of them -/
def robL (us : Str → List Str) (ns : List Str) : List Str := ns.filter fun n => (us n).any fun m => ns.contains m
def UsR (H : Hp) (d : Addr) (ns : List Str) (us : Str → List Str) : Prop := ∃ kvs : List (Key × V), H d = some (.dK kvs) ∧ ∀ n ∈ ns, ∃ b, valV kvs (.inr n) = some (.ref b) ∧ H b = some (.lst ((us n).map V.str)) ∧ (us n).length ≤ 1000
theorem UsR.same {H H' : Hp} {d : Addr} {ns : List Str} {us : Str → List Str} (s : Same H H') (h : UsR H d ns us) : UsR H' d ns us := by
  obtain ⟨kvs, h1, h2⟩ := h
  refine ⟨kvs, s _ _ h1, fun n hn => ?_⟩
  obtain ⟨b, e1, e2, e3⟩ := h2 n hn
  exact ⟨b, e1, s _ _ e2, e3⟩
theorem UsR.less {H : Hp} {d : Addr} {ns ms : List Str} {us : Str → List Str} (k : ∀ n ∈ ms, n ∈ ns) (h : UsR H d ns us) : UsR H d ms us := by
  obtain ⟨kvs, h1, h2⟩ := h
  exact ⟨kvs, h1, fun n hn => h2 n (k n hn)⟩
def spRob (K : PySem.W.Frag) : Sp := fun vs H Q _ => ∃ d l ns us, vs = [.ref d, .ref l] ∧ UsR H d ns us ∧ SqL K H l (ns.map V.str) ∧ ns.length ≤ 100 ∧ ∀ l' H', Same H H' → H' l' = some (.lst ((robL us ns).map V.str)) → Q (.ref l') H'
theorem filter_next {α : Type} {g : α → Bool} {l : List α} {i : Nat} {a : α} (h : l[i]? = some a) : (l.take (i + 1)).filter g = (l.take i).filter g ++ (if g a = true then [a] else []) := by
  obtain ⟨hi, he⟩ := List.getElem?_eq_some_iff.mp h
  rw [List.take_succ_eq_append_getElem hi, List.filter_append, he]
  congr 1
  rw [List.filter_cons, List.filter_nil]
set_option maxHeartbeats 2000000 in
theorem ok_ring_or_before (B : ∀ x ∈ blts, mg x = none) (F : Fun K "ring_or_before" "ring_or_before" s_ring_or_before f fd) : FnOk P w K mg base CX0 1 f fd ["uses", "names"] (spRob K) := by
  refine F.ok sc_ring_or_before (fun vs H Q E h => ?_) (fun cdv A outer s H vs Q E hr h => ?_)
  · obtain ⟨d, l, ns, us, rfl, _⟩ := h
    rfl
  obtain ⟨d, l, ns, us, rfl, hU, hS, hn, q⟩ := h
  have hu1 : (A.deeper (PyProof.Rows.envOfC (Str.ofString "ring_or_before") (defScope s_ring_or_before) s.heap.objs.size f cdv)).units + 1 < cLine := by have := hr.un; (first | lia | omega)
  refine ⟨_, (pss_one (ps_ret (pe_comp_if (cl := _) ["name"] [("uses", 0), ("names", 1)] (pi_list (pv 1)) (fun _ _ _ _ => (pg_name (i := 0) (show List.Nodup (["name", "uses", "names"] : List Str) by decide) rfl (Or.inl rfl))) (fun _ _ _ _ => (pt_truthK (K := K) rfl (pe_callB (K21.call_anyK (K := K) rfl rfl) rfl (B "any" (by decide)) bt_any (pa_cons (pe_comp (cl := _) ["used"] [("names", 2)] (K21.pi_listK (K := K) rfl (pe_dget hu1 (pv 1) (pv 0) (fun _ _ => rfl))) (fun _ _ _ _ => (pg_name (i := 0) (show List.Nodup (["used", "names"] : List Str) by decide) rfl (Or.inl rfl))) (fun _ _ _ _ => (pe_cmpR (op_in_seqK (K := K) rfl) (pv 0) (pv 1) (by with_unfolding_all rfl))) rfl rfl (by decide) rfl (by decide) (cap_cl (by (repeat' first | exact List.forall_mem_nil _ | refine List.forall_mem_cons.mpr ⟨?_, ?_⟩) <;> rfl)) (cap_has (by (repeat' first | exact List.forall_mem_nil _ | refine List.forall_mem_cons.mpr ⟨?_, ?_⟩) <;> first | (intro h; exact ⟨_, rfl⟩) | (intro h; exact absurd h (by decide)))) (fun _ => by (repeat' first | exact List.forall_mem_nil _ | refine List.forall_mem_cons.mpr ⟨?_, ?_⟩) <;> exact ⟨rfl, rfl, Or.inl rfl⟩) (fun _ => rfl)) pa_nil)) (fun _ => rfl))) (fun _ _ _ _ => (pv 0)) rfl rfl (by decide) rfl (by decide) (cap_cl (by (repeat' first | exact List.forall_mem_nil _ | refine List.forall_mem_cons.mpr ⟨?_, ?_⟩) <;> rfl)) (cap_has (by (repeat' first | exact List.forall_mem_nil _ | refine List.forall_mem_cons.mpr ⟨?_, ?_⟩) <;> first | (intro h; exact ⟨_, rfl⟩) | (intro h; exact absurd h (by decide)))) (fun _ => by (repeat' first | exact List.forall_mem_nil _ | refine List.forall_mem_cons.mpr ⟨?_, ?_⟩) <;> exact ⟨rfl, rfl, Or.inl rfl⟩) (fun _ => rfl)))), ?_⟩
  refine ⟨_, rfl, l, rfl, ⟨_, hS⟩, fun pl hpl => comp_listT (K := K) (a := l) (p := pl) (xs := ns.map V.str) (fun i ys σ H2 => ∃ v0 : Option V, σ = [v0, some (.ref d), some (.ref l)] ∧ Same H H2 ∧ H2 pl = some (.lst ys) ∧ ys = ((ns.take i).filter fun n => (us n).any fun m => ns.contains m).map V.str)
    ⟨none, rfl, Same.new hpl, upd_same, rfl⟩ ?_ ?_ ?_⟩
  · rintro i ys σ H2 _ ⟨v0, _, sm, hp2, _⟩
    exact ⟨sm.seq hS, hp2⟩
  · rintro i ys x σ H2 hi hx ⟨v0, rfl, sm, hp2, rfl⟩
    rw [List.getElem?_map] at hx
    obtain ⟨n, hx1, rfl⟩ := Option.map_eq_some_iff.mp hx
    obtain ⟨kvs, h1, h2⟩ := hU.same sm
    obtain ⟨b, e1, e2, e3⟩ := h2 n (List.mem_of_getElem? hx1)
    refine ⟨_, rfl, _, rfl, d, .ref b, rfl, by rw [← e1]; exact DGet.k (k := .inr n) h1, b, rfl, ⟨_, SqL.of e2⟩, fun p2 hp2n => comp_list (K := K) (a := b) (p := p2) (xs := (us n).map V.str) (fun j ys σ H3 => ∃ v0 : Option V, σ = [v0, some (.ref l)] ∧ Same H2 H3 ∧ H3 p2 = some (.lst ys) ∧ ys = (((us n).take j).map fun m => ns.contains m).map V.bl)
      ⟨none, rfl, Same.new hp2n, upd_same, rfl⟩ ?_ ?_ ?_⟩
    · rintro j ys σ H3 _ ⟨v0, _, sm3, hp3, _⟩
      exact ⟨SqL.of (sm3 _ _ e2), hp3⟩
    · rintro j ys x σ H3 hj hx ⟨v0, rfl, sm3, hp3, rfl⟩
      rw [List.getElem?_map] at hx
      obtain ⟨m, hm1, rfl⟩ := Option.map_eq_some_iff.mp hx
      refine ⟨_, rfl, _, rfl, l, _, rfl, .inl ((sm.trans sm3).seq hS), rfl, all_flat ns, hp3, len1000' (by rw [List.length_map, List.length_map, List.length_take]; (first | lia | omega)), CW.next hj ⟨_, rfl, sm3.upd_new hp2n, upd_same, ?_⟩⟩
      obtain ⟨hm2, hm3⟩ := List.getElem?_eq_some_iff.mp hm1
      rw [List.take_succ_eq_append_getElem hm2, hm3, List.map_append, List.map_append]
      show _ ++ [V.bl (inV (.str m) (ns.map V.str))] = _
      rw [in_strs]
      rfl
    · rintro ys σ H3 ⟨v0, _, sm3, hp3, rfl⟩
      rw [List.length_map, List.take_length] at hp3
      refine ⟨p2, _, rfl, SqL.of hp3, _, rfl, ?_⟩
      have eb : ((us n).map fun m => ns.contains m).any id = (us n).any fun m => ns.contains m := by rw [List.any_map]; rfl
      rw [eb]
      have fx := filter_next (g := fun n => (us n).any fun m => ns.contains m) hx1
      refine ite2 (fun z => ?_) (fun z => ?_)
      · rw [if_pos z] at fx
        refine ⟨_, rfl, sm3 _ _ hp2, len1000' ?_, CW.next hi ⟨_, rfl, (sm.trans sm3).upd_new hpl, upd_same, ?_⟩⟩
        · rw [List.length_map]
          have := List.length_filter_le (fun n => (us n).any fun m => ns.contains m) (ns.take i)
          rw [List.length_take] at this
          (first | lia | omega)
        · rw [fx, List.map_append]
          rfl
      · rw [if_neg z, List.append_nil] at fx
        exact CW.next hi ⟨_, rfl, sm.trans sm3, sm3 _ _ hp2, by rw [fx]⟩
  · rintro ys σ H2 ⟨v0, _, sm, hp2, rfl⟩
    rw [List.length_map, List.take_length] at hp2
    exact q pl H2 sm hp2
theorem putAll_nd : ∀ (kvs m : List (Key × V)), ((m ++ kvs).map (·.1)).Nodup → kvs.foldl (fun m kv => putK m kv.1 kv.2) m = m ++ kvs
  | [], m, _ => (List.append_nil m).symm
  | kv :: kvs, m, h => by
    have h1 : valV m kv.1 = none := by
      rw [← Option.not_isSome_iff_eq_none, ← valV_any, List.any_eq_true]
      rintro ⟨x, hx, e⟩
      have e' := of_decide_eq_true e
      rw [List.map_append, List.nodup_append] at h
      exact h.2.2 x.1 (List.mem_map.mpr ⟨x, hx, rfl⟩) kv.1 (by rw [List.map_cons]; exact List.mem_cons_self ..) e'
    rw [List.foldl_cons, putK_new _ h1, putAll_nd kvs (m ++ [(kv.1, kv.2)]) (by rw [List.append_assoc]; exact h), List.append_assoc]
    rfl
theorem max_rank {rk : Str → Nat} : ∀ {ls : List Str}, ls ≠ [] → ∃ n ∈ ls, ∀ m ∈ ls, rk m ≤ rk n
  | [], h => absurd rfl h
  | [a], _ => ⟨a, List.mem_singleton.mpr rfl, fun m hm => by rw [List.mem_singleton.mp hm]; exact Nat.le_refl _⟩
  | a :: b :: r, _ => by
    obtain ⟨n, h1, h2⟩ := max_rank (rk := rk) (ls := b :: r) (fun z => nomatch z)
    by_cases h : rk n ≤ rk a
    · refine ⟨a, List.mem_cons_self .., fun m hm => ?_⟩
      rcases List.mem_cons.mp hm with rfl | hm
      · exact Nat.le_refl _
      · exact Nat.le_trans (h2 m hm) h
    · refine ⟨n, List.mem_cons_of_mem _ h1, fun m hm => ?_⟩
      rcases List.mem_cons.mp hm with rfl | hm
      · (first | lia | omega)
      · exact h2 m hm
theorem rob_less {rk : Str → Nat} {us : Str → List Str} {ls : List Str} (h : ls ≠ []) (k : ∀ n ∈ ls, ∀ m ∈ us n, rk n < rk m) : (robL us ls).length < ls.length := by
  obtain ⟨n, h1, h2⟩ := max_rank (rk := rk) h
  refine List.length_filter_lt_length_iff_exists.mpr ⟨n, h1, fun z => ?_⟩
  obtain ⟨m, hm1, hm2⟩ := List.any_eq_true.mp z
  have a := k n h1 m hm1
  have b := h2 m (List.contains_iff_mem.mp hm2)
  (first | lia | omega)
def usB (bk : List (Str × Ex)) (n : Str) : List Str := ((bk.find? fun x => decide (x.1 = n)).map fun x => nm false x.2).getD []
theorem usB_of : ∀ {bk : List (Str × Ex)} {x : Str × Ex}, (bk.map (·.1)).Nodup → x ∈ bk → usB bk x.1 = nm false x.2
  | a :: bk, x, hn, hx => by
    rw [List.map_cons, List.nodup_cons] at hn
    unfold usB
    rw [List.find?_cons]
    by_cases e : a.1 = x.1
    · rw [decide_eq_true e]
      rcases List.mem_cons.mp hx with rfl | hx
      · rfl
      · exact absurd (List.mem_map.mpr ⟨x, hx, e.symm⟩) hn.1
    · rw [decide_eq_false e]
      rcases List.mem_cons.mp hx with rfl | hx
      · exact absurd rfl e
      · exact usB_of hn.2 hx
/-- what each name uses, as it is put into a dict -/
def KvU (pl : Addr) (H : Hp) (kv : Key × V) (x : Str × Ex) : Prop := kv.1 = .inr x.1 ∧ ∃ b, b ≠ pl ∧ kv.2 = .ref b ∧ H b = some (.lst ((nm false x.2).map V.str))
theorem kvU_val {pl : Addr} {H : Hp} : ∀ {kvs : List (Key × V)} {bk : List (Str × Ex)} {x : Str × Ex}, Paired (KvU pl H) kvs bk → (bk.map (·.1)).Nodup → x ∈ bk → ∃ b, valV kvs (.inr x.1) = some (.ref b) ∧ H b = some (.lst ((nm false x.2).map V.str))
  | _, _, _, .nil, _, h => nomatch h
  | _, _, x, .cons (b := y) h r, hn, hx => by
    rw [List.map_cons, List.nodup_cons] at hn
    obtain ⟨h1, b, _, h2, h3⟩ := h
    rcases List.mem_cons.mp hx with rfl | hx
    · exact ⟨b, by rw [valV_pos h1, h2], h3⟩
    · obtain ⟨c, h4, h5⟩ := kvU_val r hn.2 hx
      refine ⟨c, ?_, h5⟩
      rw [valV_neg, h4]
      rw [h1]
      intro z
      exact hn.1 (List.mem_map.mpr ⟨x, hx, (Sum.inr.inj z).symm⟩)
theorem kvU_keys {pl : Addr} {H : Hp} : ∀ {kvs : List (Key × V)} {bk : List (Str × Ex)}, Paired (KvU pl H) kvs bk → kvs.map (·.1) = (bk.map (·.1)).map fun n => (Sum.inr n : Key)
  | _, _, .nil => rfl
  | _, _, .cons h r => by
    rw [List.map_cons, List.map_cons, List.map_cons, kvU_keys r, h.1]
def spRings (K : PySem.W.Frag) : Sp := fun vs H Q _ => ∃ p ws bk, vs = [.ref p] ∧ SqT K H p ws ∧ BkR K H ws bk ∧ bk.length ≤ 100 ∧ (bk.map (·.1)).Nodup ∧ (∀ x ∈ bk, Bk1 x) ∧ (∃ rk : Str → Nat, ∀ x ∈ bk, ∀ n ∈ nm false x.2, rk x.1 < rk n) ∧ ∀ H', Same H H' → Q .non H'
/-- the loop: those that are left, and those of them that use one of them -/
def RgW (K : PySem.W.Frag) (bk : List (Str × Ex)) (p d : Addr) (H : Hp) (m : Nat) (σ : St) (H6 : Hp) : Prop := ∃ (ls : List Str) (la ga : Addr), m = ls.length ∧ σ = [some (.ref p), some (.ref d), some (.ref la), some (.ref ga)] ∧ Same H H6 ∧ UsR H6 d ls (usB bk) ∧ SqL K H6 la (ls.map V.str) ∧ H6 ga = some (.lst ((robL (usB bk) ls).map V.str)) ∧ (∀ n ∈ ls, n ∈ bk.map (·.1)) ∧ ls.length ≤ 100
set_option maxHeartbeats 2000000 in
theorem ok_refuse_rings (B : ∀ x ∈ blts, mg x = none) (g_names_outside : Has P w K mg base "names_outside" ["expr"] 14 (spNm K false 13)) (g_ring_or_before : Has P w K mg base "ring_or_before" ["uses", "names"] 1 (spRob K)) (F : Fun K "refuse_rings" "refuse_rings" s_refuse_rings f fd) : FnOk P w K mg base CX0 15 f fd ["book"] (spRings K) := by
  refine F.ok sc_refuse_rings (fun vs H Q E h => ?_) (fun cdv A outer s H vs Q E hr h => ?_)
  · obtain ⟨p, ws, bk, rfl, _⟩ := h
    rfl
  obtain ⟨p, ws, bk, rfl, hS, hB, hl, hn, h1, ⟨rk, hrk⟩, q⟩ := h
  refine ⟨_, (pss_cons (ps_set (i := 1) sc_refuse_rings.nd rfl (Or.inl rfl) (pe_callTy (call_dict_list rfl) rfl (B "dict" (by decide)) bt_dict (pa_cons (pe_comp (cl := []) ["name", "expr"] [] (pi_tup (pv 0)) (fun _ _ _ _ => (pg_tupK (K := K) (n := 2) rfl rfl (pgs_cons (pg_name (i := 0) (show List.Nodup (["name", "expr"] : List Str) by decide) rfl (Or.inl rfl)) (pgs_cons (pg_name (i := 1) (show List.Nodup (["name", "expr"] : List Str) by decide) rfl (Or.inl rfl)) pgs_nil)))) (fun _ _ _ _ => (pe_tup (pa_cons (pv 0) (pa_cons (pe_has g_names_outside hr rfl (pa_cons (pv 1) pa_nil)) pa_nil)))) rfl rfl (by decide) rfl (by decide) (fun _ _ h => nomatch h) (nofree (by decide)) (fun _ _ h => nomatch h) (fun _ => rfl)) pa_nil)))
    (pss_cons (ps_set (i := 2) sc_refuse_rings.nd rfl (Or.inl rfl) (pe_callTy (call_list_dK rfl) rfl (B "list" (by decide)) bt_list (pa_cons (pv 1) pa_nil)))
    (pss_cons (ps_set (i := 3) sc_refuse_rings.nd rfl (Or.inl rfl) (pe_has g_ring_or_before hr rfl (pa_cons (pv 1) (pa_cons (pv 2) pa_nil))))
    (pss_cons (ps_while PassesOwn.never (pt_cmpR op_lt (pe_callB call_len_seq rfl (B "len" (by decide)) PySem.boot_len (pa_cons (pv 3) pa_nil)) (pe_callB call_len_seq rfl (B "len" (by decide)) PySem.boot_len (pa_cons (pv 2) pa_nil)) (nomark _))
      (pss_cons (ps_set (i := 2) sc_refuse_rings.nd rfl (Or.inl rfl) (pv 3))
        (pss_one (ps_set (i := 3) sc_refuse_rings.nd rfl (Or.inl rfl) (pe_has g_ring_or_before hr rfl (pa_cons (pv 1) (pa_cons (pv 2) pa_nil)))))))
    (pss_one (ps_if (pt_truth (pv 2) (fun _ => rfl))
      (pss_one ps_never)
      pss_nil)))))), ?_⟩
  have hlen : ws.length = bk.length := Paired.length hB
  refine ⟨_, rfl, p, rfl, ⟨ws, hS⟩, fun pl hpl => comp_tup (K := K) (a := p) (p := pl) (xs := ws) (fun i ys σ H2 => ∃ (v0 v1 : Option V) (kvs : List (Key × V)), σ = [v0, v1] ∧ Same H H2 ∧ H2 pl = some (.lst ys) ∧ Paired (fun (y : V) (kv : Key × V) => ∃ t, y = .ref t ∧ H2 t = some (.tup [kV kv.1, kv.2])) ys kvs ∧ Paired (KvU pl H2) kvs (bk.take i))
    ⟨none, none, [], rfl, Same.new hpl, upd_same, .nil, .nil⟩ ?_ ?_ ?_⟩
  · rintro i ys σ H2 _ ⟨v0, v1, kvs, _, sm, hp2, _⟩
    exact ⟨TF.same sm _ _ hS, hp2⟩
  · rintro i ys x σ H2 hi hx ⟨v0, v1, kvs, rfl, sm, hp2, P1, P2⟩
    obtain ⟨x, hx1, pp, qq, rfl, e1, e2⟩ := paired_get hB hx
    obtain ⟨b1, b2, b3, b4⟩ := h1 x (List.mem_of_getElem? hx1)
    obtain ⟨hi1, hi2⟩ := List.getElem?_eq_some_iff.mp hx1
    have hyl : ys.length = i := by
      rw [Paired.length P1, Paired.length P2, List.length_take]
      (first | lia | omega)
    refine ⟨pp, _, rfl, SqT.of (sm _ _ e1), rfl, _, _, rfl, _, _, rfl, rfl, ?_⟩
    refine ⟨_, rfl, _, rfl, qq, x.2, rfl, e2.mono (TF.same sm), b2, b3, fun l3 H3 s3 f3 e3 => ⟨(by show (2 : Nat) ≤ sizeLine; decide), fun t4 ht4 => ?_⟩⟩
    have s4 : Same H3 (upd H3 t4 (.tup [.str x.1, .ref l3])) := Same.new ht4
    have hp4 := s4 _ _ (s3 _ _ hp2)
    have s24 := s3.trans s4
    have n3 : l3 ≠ pl := fun z => by rw [z, hp2] at f3; cases f3
    have e4 : upd H3 t4 (.tup [.str x.1, .ref l3]) t4 = some (.tup [.str x.1, .ref l3]) := upd_same
    generalize upd H3 t4 (.tup [.str x.1, .ref l3]) = H4 at s4 hp4 s24 e4 ⊢
    refine ⟨hp4, len1000' (by rw [hyl]; (first | lia | omega)), CW.next hi ⟨_, _, kvs ++ [(.inr x.1, .ref l3)], rfl, (sm.trans s24).upd_new hpl, upd_same, ?_, ?_⟩⟩
    · have tl : ∀ t ys', H4 t = some (.tup ys') → upd H4 pl (.lst (ys ++ [.ref t4])) t = some (.tup ys') := fun t ys' ht => by
        have : t ≠ pl := fun z => by rw [z, hp4] at ht; cases ht
        rw [upd_ne this]
        exact ht
      refine Paired.app (Paired.mapP P1 fun y kv z => ?_) (.cons ⟨t4, rfl, tl _ _ e4⟩ .nil)
      obtain ⟨t, rfl, ht⟩ := z
      exact ⟨t, rfl, tl _ _ (s24 _ _ ht)⟩
    · have tl : ∀ t ys', t ≠ pl → H4 t = some (.lst ys') → upd H4 pl (.lst (ys ++ [.ref t4])) t = some (.lst ys') := fun t ys' hne ht => by
        rw [upd_ne hne]
        exact ht
      rw [List.take_succ_eq_append_getElem hi1, hi2]
      refine Paired.app (Paired.mapP P2 fun kv y z => ?_) (.cons ⟨rfl, l3, n3, rfl, tl _ _ n3 (s4 _ _ e3)⟩ .nil)
      obtain ⟨z1, b, z0, z2, z3⟩ := z
      exact ⟨z1, b, z0, z2, tl _ _ z0 (s24 _ _ z3)⟩
  · rintro ys σ H2 ⟨v0, v1, kvs, _, sm, hp2, P1, P2⟩
    rw [hlen, List.take_length] at P2
    have hkl : kvs.length = bk.length := Paired.length P2
    have hkeys := kvU_keys P2
    have hnk : (kvs.map (·.1)).Nodup := by
      rw [hkeys]
      exact List.pairwise_map.mpr (hn.imp fun {x y} hxy z => hxy (Sum.inr.inj z))
    have hpa : putAll kvs = kvs := by
      have := putAll_nd kvs [] hnk
      rw [List.nil_append] at this
      exact this
    refine ⟨pl, ys, kvs, rfl, SqL.of hp2, by rw [Paired.length P1]; (first | lia | omega), P1, fun d hd => ?_⟩
    rw [hpa]
    have s1 : Same H2 (upd H2 d (.dK kvs)) := Same.new hd
    have e1 : upd H2 d (.dK kvs) d = some (.dK kvs) := upd_same
    generalize upd H2 d (.dK kvs) = H3 at s1 e1 ⊢
    refine ⟨_, rfl, d, kvs, rfl, e1, fun l hl3 => ?_⟩
    have s2 : Same H3 (upd H3 l (.lst (kvs.map fun p => kV p.1))) := Same.new hl3
    have e2 : upd H3 l (.lst (kvs.map fun p => kV p.1)) l = some (.lst ((bk.map (·.1)).map V.str)) := by
      rw [upd_same, show (kvs.map fun p => kV p.1) = (kvs.map (·.1)).map kV by rw [List.map_map]; rfl, hkeys, List.map_map]
      rfl
    generalize upd H3 l (.lst (kvs.map fun p => kV p.1)) = H4 at s2 e2 ⊢
    have U : UsR H4 d (bk.map (·.1)) (usB bk) := ⟨kvs, s2 _ _ e1, fun n hn' => by
      obtain ⟨x, hx, rfl⟩ := List.mem_map.mp hn'
      obtain ⟨b, h4, h5⟩ := kvU_val P2 hn hx
      have h6 := nm_len false x.2
      have h7 := (h1 x hx).2.2.1
      refine ⟨b, h4, ?_, ?_⟩
      · rw [usB_of hn hx]
        exact s2 _ _ (s1 _ _ h5)
      · rw [usB_of hn hx]
        (first | lia | omega)⟩
    refine ⟨_, rfl, _, rfl, d, l, bk.map (·.1), usB bk, rfl, U, SqL.of e2, by rw [List.length_map]; exact hl, fun l5 H5 s5 e5 => ?_⟩
    refine ⟨RgW K bk p d H, ⟨_, bk.map (·.1), l, l5, rfl, rfl, ((sm.trans s1).trans s2).trans s5, U.same s5, SqL.of (s5 _ _ e2), e5, fun _ h => h, by rw [List.length_map]; exact hl⟩, ?_⟩
    rintro m σ H6 ⟨ls, la, ga, rfl, rfl, s6, U6, hla, hga, hsub, hll⟩
    refine ⟨_, rfl, ga, _, rfl, .inl (SqL.of hga), _, rfl, la, _, rfl, .inl hla, _, _, rfl, rfl, _, rfl, ite2 (fun z => ?_) (fun z => ?_)⟩
    · have z := of_decide_eq_true z
      rw [List.length_map, List.length_map] at z
      have hs : ∀ n ∈ robL (usB bk) ls, n ∈ ls := fun n hn => (List.mem_filter.mp hn).1
      refine ⟨fun σ' H' => ∃ m', m' < ls.length ∧ RgW K bk p d H m' σ' H', fun _ _ h => h, ?_⟩
      exact ⟨_, rfl, _, rfl, _, rfl, d, ga, robL (usB bk) ls, usB bk, rfl, U6.less hs, SqL.of hga, by (first | lia | omega), fun l7 H7 s7 e7 => ⟨_, by (first | lia | omega), robL (usB bk) ls, ga, l7, rfl, rfl, s6.trans s7, (U6.less hs).same s7, SqL.of (s7 _ _ hga), e7, fun n hn => hsub n (hs n hn), by (first | lia | omega)⟩⟩
    · have hls : ls = [] := by
        cases hc : ls with
        | nil => rfl
        | cons a r =>
          refine absurd ?_ z
          have := rob_less (rk := rk) (us := usB bk) (ls := ls) (by rw [hc]; exact fun z => nomatch z) (fun n hn' m hm => by
            obtain ⟨x, hx, rfl⟩ := List.mem_map.mp (hsub n hn')
            rw [usB_of hn hx] at hm
            exact hrk x hx m hm)
          refine decide_eq_true ?_
          rw [List.length_map, List.length_map]
          (first | lia | omega)
      subst hls
      exact ⟨_, rfl, _, .inl ⟨_, hla, rfl⟩, iteF (q H6 s6)⟩
/-! reading -/
theorem sameB {a : Addr} {H H0 H' : Hp} (s : Same H H0) (ha : H a = none) (b : Bar1 a H0 H') : Same H H' := fun x o h => b x o (fun z => by rw [z, ha] at h; cases h) (s x o h)
theorem TK.bar {a C dx : Addr} {fs : List (Str × V)} {H H' : Hp} (b : Bar1 a H H') (ha : H a = some (.ins C dx fs)) : TK H H' := fun p xs h => b p _ (fun z => by rw [z, ha] at h; cases h) h
theorem BkR.snoc {K : PySem.W.Frag} {H : Hp} {vs : List V} {bk : List (Str × Ex)} {v : V} {x : Str × Ex} (h : BkR K H vs bk) (k : BkP K H v x) : BkR K H (vs ++ [v]) (bk ++ [x]) := Paired.app h (.cons k .nil)
def Bk2 (x : Str × Ex) : Prop := Upr x.1 ∧ wfE x.2 ∧ dp x.2 < 12
def spReadP (K : PySem.W.Frag) : Sp := fun vs H Q _ => ∃ T bk, vs = [.str T] ∧ T = bkT bk ∧ T.length ≤ 400 ∧ 1 ≤ bk.length ∧ bk.length ≤ 8 ∧ (∀ x ∈ bk, Bk1 x ∧ Bk2 x) ∧ ∀ l o ws H', Same H H' → H' l = some (.frz o (.tup ws)) → o.dict = none → BkR K H' ws bk → Q (.ref l) H'
theorem fE_rest (td : List (Str × Ex)) : fE (td.flatMap fun y => [59, 32] ++ pairL y.1 y.2) := by
  cases td with
  | nil => exact .inl rfl
  | cons x r => exact .inr ⟨59, _, rfl, .inl rfl⟩
def RdW (K : PySem.W.Frag) (C a dx pl : Addr) (T : Str) (bk : List (Str × Ex)) (H0 : Hp) (m : Nat) (σ : St) (H2 : Hp) : Prop := ∃ (dn td : List (Str × Ex)) (vs : List V) (m2 : Nat), m = td.length ∧ bk = dn ++ td ∧ σ = [some (.str T), some (.ref a), some (.ref pl)] ∧ Bar1 a H0 H2 ∧ SrAt C H2 a dx T m2 ∧ m2 ≤ T.length ∧ rsT T m2 = (td.flatMap fun y => [59, 32] ++ pairL y.1 y.2) ∧ H2 pl = some (.lst vs) ∧ BkR K H2 vs dn
set_option maxHeartbeats 2000000 in
theorem ok_read_pairs (B : ∀ x ∈ blts, mg x = none) (Cc1 : ∃ t : Tok, mg "MOST_SIGNS" = some (.int 400 t)) (Cc2 : ∃ t : Tok, mg "MOST_PAIRS" = some (.int 8 t)) (Cc3 : ∃ t : Tok, mg "DEEPEST" = some (.int 12 t)) (c_Source : SrC K C) (g_Source : HasC P w K mg base C "Source" ["self", "text"] 1 (spSInit C)) (g_take_pair : Has P w K mg base "take_pair" ["source"] 65 (spPair K C)) (g_Source_skips : HasM P w K mg base C "skips" ["self", "piece"] 2 (spSkips C)) (g_shown : Has P w K mg base "shown" ["book"] 28 (spShown K)) (g_Source_at_end : HasM P w K mg base C "at_end" ["self"] 1 (spSEnd C)) (g_depth_of : Has P w K mg base "depth_of" ["expr"] 14 (spDep K 13)) (F : Fun K "read_pairs" "read_pairs" s_read_pairs f fd) : FnOk P w K mg base CX0 66 f fd ["text"] (spReadP K) := by
  refine F.ok sc_read_pairs (fun vs H Q E h => ?_) (fun cdv A outer s H vs Q E hr h => ?_)
  · obtain ⟨T, bk, rfl, _⟩ := h
    rfl
  obtain ⟨T, bk, rfl, eT, hT, hb1, hb8, hbk, q⟩ := h
  obtain ⟨t1, c_MOST_SIGNS⟩ := Cc1
  obtain ⟨t2, c_MOST_PAIRS⟩ := Cc2
  obtain ⟨t3, c_DEEPEST⟩ := Cc3
  refine ⟨_, (pss_cons (ps_if (pt_cmpR op_gt (pe_callB call_len_str rfl (B "len" (by decide)) PySem.boot_len (pa_cons (pv 0) pa_nil)) (pe_glob (v := .int 400) rfl c_MOST_SIGNS ⟨_, rfl⟩) (nomark _))
      (pss_one ps_never)
      pss_nil)
    (pss_cons (ps_set (i := 1) sc_read_pairs.nd rfl (Or.inl rfl) (pe_hasc g_Source hr rfl (pa_cons (pv 0) pa_nil)))
    (pss_cons (ps_set (i := 2) sc_read_pairs.nd rfl (Or.inl rfl) (pe_lst (pa_cons (pe_has g_take_pair hr rfl (pa_cons (pv 1) pa_nil)) pa_nil)))
    (pss_cons (ps_while PassesOwn.never (pt_truth (pe_hasm g_Source_skips hr (pv 1) c_Source.cls (pa_cons pe_str pa_nil)) (fun _ => rfl))
      (pss_one (ps_expr (pe_bm PySem.F.plainAttrs_list PySem.F.slot_list_append PySem.F.type_list_append mt_append (pv 2) (pa_cons (pe_has g_take_pair hr rfl (pa_cons (pv 1) pa_nil)) pa_nil)))))
    (pss_cons (ps_if (PW.pt (pw_or (pt_not (pt_truth (pe_hasm0 g_Source_at_end hr (pv 1) c_Source.cls) (fun _ => rfl))) (pw_or1 (pt_cmpR op_ne (pe_has g_shown hr rfl (pa_cons (pv 2) pa_nil)) (pv 0) (nomark _)))))
      (pss_one ps_never)
      pss_nil)
    (pss_cons (ps_if (pt_cmpR op_gt (pe_callB call_len_seq rfl (B "len" (by decide)) PySem.boot_len (pa_cons (pv 2) pa_nil)) (pe_glob (v := .int 8) rfl c_MOST_PAIRS ⟨_, rfl⟩) (nomark _))
      (pss_one ps_never)
      pss_nil)
    (pss_cons (ps_if (pt_truth (pe_callB (call_any rfl) rfl (B "any" (by decide)) bt_any (pa_cons (pe_comp (cl := []) ["name", "expr"] [] (pi_list (pv 2)) (fun _ _ _ _ => (pg_tupK (K := K) (n := 2) rfl rfl (pgs_cons (pg_name (i := 0) (show List.Nodup (["name", "expr"] : List Str) by decide) rfl (Or.inl rfl)) (pgs_cons (pg_name (i := 1) (show List.Nodup (["name", "expr"] : List Str) by decide) rfl (Or.inl rfl)) pgs_nil)))) (fun _ _ _ _ => (pe_cmpR op_gt (pe_has g_depth_of hr rfl (pa_cons (pv 1) pa_nil)) (pe_glob (v := .int 12) rfl c_DEEPEST ⟨_, rfl⟩) (nomark _))) rfl rfl (by decide) rfl (by decide) (fun _ _ h => nomatch h) (nofree (by decide)) (fun _ _ h => nomatch h) (fun _ => rfl)) pa_nil)) (fun _ => rfl))
      (pss_one ps_never)
      pss_nil)
    (pss_one (ps_ret (pe_callTy call_tuple_frz rfl (B "tuple" (by decide)) bt_tuple (pa_cons (pv 2) pa_nil))))))))))), ?_⟩
  obtain ⟨x0, r0, rfl⟩ : ∃ x r, bk = x :: r := by
    cases bk with
    | nil => exact absurd hb1 (by decide)
    | cons x r => exact ⟨x, r, rfl⟩
  have hk1 : ∀ x ∈ x0 :: r0, Bk1 x := fun x hx => (hbk x hx).1
  have ecs : rsT T 0 = pairL x0.1 x0.2 ++ r0.flatMap fun y => [59, 32] ++ pairL y.1 y.2 := by
    show cs T = _
    rw [eT, bkT_cons]
  refine ⟨_, rfl, T, rfl, len1000 (by (first | lia | omega)), _, _, rfl, rfl, _, rfl, ite2 (fun z => absurd (of_decide_eq_true z) (by (first | lia | omega))) (fun _ => ?_)⟩
  refine ⟨_, rfl, fun a dx ha hdx hne => ⟨a, dx, T, rfl, upd_same, fun H1 b1 h1 => ⟨rfl, ?_⟩⟩⟩
  have s0 : Same H (upd (upd H dx (.own a)) a (.ins C dx [])) := making ha hdx hne
  generalize upd (upd H dx (.own a)) a (.ins C dx []) = H0 at s0 b1 ⊢
  obtain ⟨⟨c1, c2, c3, c4⟩, c5, c6, c7⟩ := hbk x0 (List.mem_cons_self ..)
  obtain ⟨e2, n2⟩ := rsT_add ecs (Nat.zero_le _)
  refine ⟨_, rfl, a, dx, T, 0, x0.1, x0.2, _, rfl, h1, Nat.zero_le _, hT, ecs, c5, c1, c6, c7, fE_rest r0, fun pp qq H2 b2 h2 ep rp => ⟨(by show (1 : Nat) ≤ sizeLine; decide), fun pl hpl => ?_⟩⟩
  have npa : pl ≠ a := fun z => by rw [z, show H2 a = some _ from h2] at hpl; cases hpl
  have s3 : Same H2 (upd H2 pl (.lst [.ref pp])) := Same.new hpl
  have b02 := b1.trans b2
  refine ⟨RdW K C a dx pl T (x0 :: r0) H0, ⟨_, [x0], r0, [.ref pp], _, rfl, rfl, rfl, b02.trans (Bar1.same s3), s3 _ _ h2, n2, e2, upd_same, .cons ⟨pp, qq, rfl, s3 _ _ ep, rp.mono (TF.same s3)⟩ .nil⟩, ?_⟩
  rintro m σ H3 ⟨dn, td, vs, m2, rfl, hdt, rfl, b3, h3, hm2, er3, hv, hB⟩
  refine ⟨_, rfl, a, dx, _, rfl, h3, rfl, a, dx, T, m2, "; ", rfl, h3, hm2, (by decide), fun z => ?_, fun z H4 b4 h4 => ?_⟩
  · have htd : td = [] := by
      cases td with
      | nil => rfl
      | cons x r => exact absurd ⟨_, by rw [er3]; rfl⟩ z
    subst htd
    rw [List.append_nil] at hdt
    subst hdt
    refine ⟨_, rfl, iteF ?_⟩
    have hend : m2 = T.length := by
      have := congrArg List.length er3
      unfold rsT at this
      rw [List.length_drop, show (cs T).length = T.length from Array.length_toList] at this
      have : T.length - m2 = 0 := this
      (first | lia | omega)
    refine ⟨_, rfl, a, dx, _, rfl, h3, rfl, a, dx, T, m2, rfl, h3, by (first | lia | omega), _, rfl, ?_⟩
    rw [decide_eq_true hend]
    refine iteF ?_
    refine ⟨_, rfl, pl, vs, x0 :: r0, rfl, .inl (SqL.of hv), hB, by (first | lia | omega), hk1, fun H4 s4 => ?_⟩
    refine ⟨_, rfl, rfl, _, rfl, ite2 (fun z => absurd z (by rw [eT]; simp)) (fun _ => ?_)⟩
    have hvl : vs.length = (x0 :: r0).length := Paired.length hB
    refine ⟨_, rfl, pl, _, rfl, .inl (SqL.of (s4 _ _ hv)), _, _, rfl, rfl, _, rfl, ite2 (fun z => absurd (of_decide_eq_true z) (by (first | lia | omega))) (fun _ => ?_)⟩
    refine ⟨_, rfl, pl, rfl, ⟨vs, SqL.of (s4 _ _ hv)⟩, fun p5 hp5 => comp_list (K := K) (a := pl) (p := p5) (xs := vs) (fun i ys σ H5 => ∃ v0 v1 : Option V, σ = [v0, v1] ∧ Same H4 H5 ∧ H5 p5 = some (.lst ys) ∧ ys = (List.replicate i false).map V.bl)
      ⟨none, none, rfl, Same.new hp5, upd_same, rfl⟩ ?_ ?_ ?_⟩
    · rintro i ys σ H5 _ ⟨v0, v1, _, sm, hp5', _⟩
      exact ⟨SqL.of (sm _ _ (s4 _ _ hv)), hp5'⟩
    · rintro i ys x σ H5 hi hx ⟨v0, v1, rfl, sm, hp5', rfl⟩
      obtain ⟨x, hx1, p6, q6, rfl, e1, e2⟩ := paired_get hB hx
      obtain ⟨⟨b1, b2, b3, b4⟩, _, _, b7⟩ := hbk x (List.mem_of_getElem? hx1)
      have s5 := s4.trans sm
      refine ⟨p6, _, rfl, SqT.of (s5 _ _ e1), rfl, _, _, rfl, _, _, rfl, rfl, ?_⟩
      refine ⟨_, rfl, q6, x.2, rfl, e2.mono (TF.same s5), b2, b3, fun n H6 s6 hn => ?_⟩
      refine ⟨_, _, rfl, rfl, s6 _ _ hp5', len1000' (by rw [List.length_map, List.length_replicate]; (first | lia | omega)), CW.next hi ⟨_, _, rfl, (sm.trans s6).upd_new hp5, upd_same, ?_⟩⟩
      rw [List.replicate_succ', List.map_append]
      have : decide (n > 12) = false := decide_eq_false (by (first | lia | omega))
      show _ ++ [V.bl (decide (n > 12))] = _
      rw [this]
      rfl
    · rintro ys σ H5 ⟨v0, v1, _, sm, hp5', rfl⟩
      refine ⟨p5, _, rfl, SqL.of hp5', _, rfl, ?_⟩
      have : (List.replicate vs.length false).any id = false := by
        rw [List.any_eq_false]
        intro x hx
        rw [(List.mem_replicate.mp hx).2]
        decide
      rw [this]
      refine iteF ?_
      have s5 := s4.trans sm
      refine ⟨_, rfl, pl, vs, rfl, SqL.of (s5 _ _ hv), fun l o hl ho1 ho2 => ?_⟩
      have s6 : Same H5 (upd H5 l (.frz o (.tup vs))) := Same.new hl
      exact q l o vs _ ((sameB s0 ha b3).trans (s5.trans s6)) upd_same ho2 (hB.same (s5.trans s6))
  · refine ⟨_, rfl, iteT ⟨fun σ' H' => ∃ m', m' < td.length ∧ RdW K C a dx pl T (x0 :: r0) H0 m' σ' H', fun _ _ h => h, ?_⟩⟩
    cases td with
    | nil =>
      obtain ⟨y, z⟩ := z
      rw [er3] at z
      exact nomatch z
    | cons x td =>
      have h4 : SrAt C H4 a dx T (m2 + 2) := h4
      have hxm : x ∈ x0 :: r0 := by rw [hdt]; exact List.mem_append.mpr (.inr (List.mem_cons_self ..))
      have er4 : rsT T m2 = [59, 32] ++ (pairL x.1 x.2 ++ td.flatMap fun y => [59, 32] ++ pairL y.1 y.2) := by
        rw [er3, List.flatMap_cons, List.append_assoc]
      obtain ⟨e5, n5⟩ := rsT_add er4 hm2
      obtain ⟨e6, n6⟩ := rsT_add e5 n5
      obtain ⟨⟨c1, c2, c3, c4⟩, c5, c6, c7⟩ := hbk x hxm
      have hv4 : H4 pl = some (.lst vs) := b4 pl _ npa hv
      have hvl : vs.length = dn.length := Paired.length hB
      have hdl := congrArg List.length hdt
      rw [List.length_append] at hdl
      refine ⟨_, rfl, .inl ⟨rfl, _, SqL.of hv4⟩, _, rfl, a, dx, T, m2 + 2, x.1, x.2, _, rfl, h4, n5, hT, e5, c5, c1, c6, c7, fE_rest td, fun p7 q7 H7 b7 h7 ep7 rp7 => ?_⟩
      have hv7 : H7 pl = some (.lst vs) := b7 pl _ npa hv4
      refine ⟨pl, vs, _, rfl, rfl, hv7, len1000' (by (first | lia | omega)), ?_⟩
      have b47 := b4.trans b7
      refine ⟨_, by rw [List.length_cons]; exact Nat.lt_succ_self _, dn ++ [x], td, _, _, rfl, by rw [hdt]; simp, rfl, Bar1.new b02 hpl npa (b3.trans b47), ?_, n6, e6, upd_same, ?_⟩
      · show upd H7 pl _ a = _
        rw [upd_ne npa.symm]
        exact h7
      · have tk := TK.lst (o := .lst (vs ++ [.ref p7])) hv7
        have tf := TF.lst (K := K) (ws := vs ++ [.ref p7]) hv7
        exact BkR.snoc (hB.keep ((TK.bar b47 h3).trans tk) ((TF.bar b47 h3).trans tf)) ⟨p7, q7, rfl, tk _ _ ep7, rp7.mono tf⟩
/-- a book that is read -/
structure BkOk (bk : List (Str × Ex)) : Prop where
  l1 : 1 ≤ bk.length
  l8 : bk.length ≤ 8
  t400 : (bkT bk).length ≤ 400
  ok : ∀ x ∈ bk, Bk1 x ∧ Bk2 x
  nd : (bk.map (·.1)).Nodup
  nms : ∀ x ∈ bk, ∀ n ∈ nm true x.2, n ∈ bk.map (·.1)
  rk : ∃ rk : Str → Nat, ∀ x ∈ bk, ∀ n ∈ nm false x.2, rk x.1 < rk n
def spRead (K : PySem.W.Frag) : Sp := fun vs H Q _ => ∃ T bk, vs = [.str T] ∧ T = bkT bk ∧ BkOk bk ∧ ∀ l ws H', Same H H' → SqT K H' l ws → BkR K H' ws bk → Q (.ref l) H'
set_option maxHeartbeats 1000000 in
theorem ok_read (B : ∀ x ∈ blts, mg x = none) (g_read_pairs : Has P w K mg base "read_pairs" ["text"] 66 (spReadP K)) (g_refuse_doubles : Has P w K mg base "refuse_doubles" ["book"] 1 (spDoubles K)) (g_refuse_unnamed : Has P w K mg base "refuse_unnamed" ["book"] 15 (spUnnamed K)) (g_refuse_rings : Has P w K mg base "refuse_rings" ["book"] 15 (spRings K)) (F : Fun K "read" "read" s_read f fd) : FnOk P w K mg base CX0 67 f fd ["text"] (spRead K) := by
  refine F.ok sc_read (fun vs H Q E h => ?_) (fun cdv A outer s H vs Q E hr h => ?_)
  · obtain ⟨T, bk, rfl, _⟩ := h
    rfl
  obtain ⟨T, bk, rfl, eT, hk, q⟩ := h
  refine ⟨_, (pss_cons (ps_set (i := 1) sc_read.nd rfl (Or.inl rfl) (pe_has g_read_pairs hr rfl (pa_cons (pv 0) pa_nil)))
    (pss_cons (ps_expr (pe_has g_refuse_doubles hr rfl (pa_cons (pv 1) pa_nil)))
    (pss_cons (ps_expr (pe_has g_refuse_unnamed hr rfl (pa_cons (pv 1) pa_nil)))
    (pss_cons (ps_expr (pe_has g_refuse_rings hr rfl (pa_cons (pv 1) pa_nil)))
    (pss_one (ps_ret (pv 1))))))), ?_⟩
  have hl := hk.l8
  refine ⟨_, rfl, T, bk, rfl, eT, by rw [eT]; exact hk.t400, hk.l1, hl, hk.ok, fun l o ws H1 s1 e1 ho hB => ?_⟩
  have hS : ∀ H2, Same H1 H2 → SqT K H2 l ws := fun H2 s => .inl (.inr ⟨o, s _ _ e1⟩)
  refine ⟨_, rfl, l, ws, bk, rfl, hS _ (Same.refl _), hB, by (first | lia | omega), hk.nd, fun H2 s2 => ?_⟩
  refine ⟨_, rfl, l, o, ws, bk, rfl, s2 _ _ e1, ho, hB.same s2, by (first | lia | omega), fun x hx => ⟨(hk.ok x hx).1, hk.nms x hx⟩, fun H3 s3 => ?_⟩
  refine ⟨_, rfl, l, ws, bk, rfl, hS _ (s2.trans s3), hB.same (s2.trans s3), by (first | lia | omega), hk.nd, fun x hx => (hk.ok x hx).1, hk.rk, fun H4 s4 => ?_⟩
  have s14 := (s2.trans s3).trans s4
  exact ⟨_, rfl, q l ws H4 (s1.trans s14) (hS _ s14) (hB.same s14)⟩
/-! the law's own -/
theorem SqL.off {K : PySem.W.Frag} {H : Hp} {a b : Addr} {xs : List V} {o : HO} (h : SqL K H a xs) (n : a ≠ b ∨ ∀ H', SqL K H' a xs) : SqL K (upd H b o) a xs := by
  rcases n with n | n
  rotate_left
  · exact n _
  rcases h with (h | ⟨o', h⟩) | h
  · exact .inl (.inl (by rw [upd_ne n]; exact h))
  · exact .inl (.inr ⟨o', by rw [upd_ne n]; exact h⟩)
  · exact .inr h
/-- the script, and the state: the cell that is read, and how many may still come -/
structure St20 (K : PySem.W.Frag) (H : Hp) (a : Addr) (ns : List Int) (st : Addr) (i lf : Int) : Prop where
  scr : SqL K H a (ns.map V.int)
  l63 : ns.length ≤ 63
  ne : a ≠ st ∨ ∀ H', SqL K H' a (ns.map V.int)
  at_ : H st = some (.lst [.int i, .int lf])
  i0 : -1 ≤ i
  l0 : 0 ≤ lf
def But (st : Addr) (H H' : Hp) : Prop := ∀ b o, b ≠ st → H b = some o → H' b = some o
theorem But.trans {st : Addr} {H H1 H2 : Hp} (x : But st H H1) (y : But st H1 H2) : But st H H2 := fun b o n h => y b o n (x b o n h)
theorem But.same {st : Addr} {H H1 : Hp} (x : Same H H1) : But st H H1 := fun b o _ h => x b o h
theorem But.up {st : Addr} {H : Hp} {o : HO} : But st H (upd H st o) := fun b o' n h => by rw [upd_ne n]; exact h
theorem But.tk {st : Addr} {H H' : Hp} {xs : List V} (x : But st H H') (h : H st = some (.lst xs)) : TK H H' := fun a ys e => x a _ (fun z => by rw [z, h] at e; cases e) e
theorem But.seq {K : PySem.W.Frag} {st a : Addr} {H H' : Hp} {xs : List V} (x : But st H H') (n : a ≠ st ∨ ∀ H', SqL K H' a xs) (h : SqL K H a xs) : SqL K H' a xs := by
  rcases n with n | n
  rotate_left
  · exact n _
  rcases h with (h | ⟨o', h⟩) | h
  · exact .inl (.inl (x _ _ n h))
  · exact .inl (.inr ⟨o', x _ _ n h⟩)
  · exact .inr h
theorem St20.to {K : PySem.W.Frag} {H H' : Hp} {a st : Addr} {ns : List Int} {i lf i' lf' : Int} (s : St20 K H a ns st i lf) (x : But st H H') (h : H' st = some (.lst [.int i', .int lf'])) (h0 : -1 ≤ i') (h1 : 0 ≤ lf') : St20 K H' a ns st i' lf' := ⟨x.seq s.ne s.scr, s.l63, s.ne, h, h0, h1⟩
def spNext (K : PySem.W.Frag) : Sp := fun vs H Q _ => ∃ (a : Addr) (ns : List Int) (st : Addr) (i lf : Int), vs = [.ref a, .ref st] ∧ St20 K H a ns st i lf ∧ ∀ v : Int, Q (.int v) (upd H st (.lst [.int (i + 1), .int lf]))
/-- a pair of an expression and its text, at r -/
def Pair20 (H : Hp) (r p : Addr) (e : Ex) : Prop := H r = some (.tup [.ref p, .str (tx e)]) ∧ RepE H p e ∧ w8 e
def spBraced (K : PySem.W.Frag) : Sp := fun vs H Q _ => ∃ (r p : Addr) (e : Ex) (c : Addr) (l : List Str), vs = [.ref r, .ref c] ∧ Pair20 H r p e ∧ sz e ≤ 200 ∧ SqT K H c (l.map V.str) ∧ Q (.str (brc l (kw e) (tx e))) H
theorem ok_l_next (B : ∀ x ∈ blts, mg x = none) (F : Fun K "_law_next" "_law_next" s_l_next f fd) : FnOk P w K mg base CX0 1 f fd ["_law_script", "_law_state"] (spNext K) := by
  refine F.ok sc_l_next (fun vs H Q E h => ?_) (fun cdv A outer s H vs Q E hr h => ?_)
  · obtain ⟨a, ns, st, i, lf, rfl, _⟩ := h
    rfl
  obtain ⟨a, ns, st, i, lf, rfl, hS, q⟩ := h
  refine ⟨_, (pss_cons (ps_asg (pe_op op_add (pe_ix ix_list (pv 1) pe_int (fun _ _ => rfl)) pe_int) (pg_sub (pv 1) pe_int set_list))
    (pss_cons (ps_if (pt_cmpR op_lt (pe_ix ix_list (pv 1) pe_int (fun _ _ => rfl)) (pe_callB call_len_seq rfl (B "len" (by decide)) PySem.boot_len (pa_cons (pv 0) pa_nil)) (nomark _))
      (pss_one (ps_ret (pe_ix ix_list (pv 0) (pe_ix ix_list (pv 1) pe_int (fun _ _ => rfl)) (fun _ _ => rfl))))
      pss_nil)
    (pss_one (ps_ret pe_int)))), ?_⟩
  refine ⟨_, rfl, st, _, 0, _, rfl, rfl, SqL.of hS.at_, rfl, _, _, rfl, rfl, _, rfl, st, _, 0, 0, rfl, rfl, hS.at_, rfl, ?_⟩
  have e1 : (upd H st (.lst ([V.int i, .int lf].set 0 (.int (i + 1))))) st = some (.lst [.int (i + 1), .int lf]) := upd_same
  have hs1 := SqL.off (o := .lst ([V.int i, .int lf].set 0 (.int (i + 1)))) hS.scr hS.ne
  refine ⟨_, rfl, st, _, 0, _, rfl, rfl, SqL.of e1, rfl, _, rfl, a, _, rfl, .inl hs1, _, _, rfl, rfl, _, rfl, ite2 (fun z => ?_) (fun _ => ?_)⟩
  · have z' := of_decide_eq_true z
    rw [List.length_map] at z'
    obtain ⟨v, hv⟩ := ints_at (ns := ns) (k := i + 1) (by have := hS.i0; (first | lia | omega)) z'
    exact ⟨_, rfl, _, rfl, st, _, 0, _, rfl, rfl, SqL.of e1, rfl, a, _, i + 1, _, rfl, rfl, hs1, hv, q v⟩
  · exact q 0
theorem str_at26 {L : Str} {k : Int} (h : L.cps.toList.length = 26) (h0 : 0 ≤ k) (h1 : k < 26) : ∃ c, atI L.cps.toList k = some c := by
  obtain ⟨n, rfl⟩ := Int.eq_ofNat_of_zero_le h0
  have hn : n < L.cps.toList.length := by (first | lia | omega)
  exact ⟨_, atI_nat (List.getElem?_eq_getElem hn)⟩
theorem atI_mem {α : Type} {xs : List α} {i : Int} {v : α} (h : atI xs i = some v) : v ∈ xs := by
  unfold atI at h
  obtain ⟨j, _, h⟩ := Option.bind_eq_some_iff.mp h
  exact List.mem_of_getElem? h
def spWd : Sp := fun vs H Q _ => ∃ (c : Int) (L : Str), vs = [.int c, .str L] ∧ L.cps.toList.length = 26 ∧ ∀ t : Str, 1 ≤ t.length → t.length ≤ 8 → (∀ x ∈ cs t, x ∈ cs L) → Q (.str t) H
set_option maxHeartbeats 1000000 in
theorem ok_l_word (B : ∀ x ∈ blts, mg x = none) (F : Fun K "_law_word" "_law_word" s_l_word f fd) : FnOk P w K mg base CX0 1 f fd ["_law_cell", "_law_letters"] spWd := by
  refine F.ok sc_l_word (fun vs H Q E h => ?_) (fun cdv A outer s H vs Q E hr h => ?_)
  · obtain ⟨c, L, rfl, _⟩ := h
    rfl
  obtain ⟨c, L, rfl, hL, q⟩ := h
  have hL2 : L.length = 26 := by rw [← hL, Array.length_toList]; rfl
  refine ⟨_, (pss_cons (ps_set (i := 2) sc_l_word.nd rfl (Or.inl rfl) pe_str)
    (pss_cons (ps_for PassesOwn.never rfl (pi_range1 rfl (B "range" (by decide)) (pa_cons (pe_op op_add pe_int (pe_op op_mod (pv 0) pe_int)) pa_nil)) (pg_name (i := 3) sc_l_word.nd rfl (Or.inl rfl))
      (pss_cons (ps_set (i := 4) sc_l_word.nd rfl (Or.inl rfl) (pe_op op_add (pe_op op_mul (pe_op op_fdiv (pe_op op_fdiv (pv 0) pe_int) (pe_op op_add (pv 3) pe_int)) pe_int) (pe_op op_mul pe_int (pv 3))))
        (pss_one (ps_set (i := 2) sc_l_word.nd rfl (Or.inl rfl) (pe_op op_add_str (pv 2) (pe_ix ix_str (pv 1) (pe_op op_mod (pe_op op_mod (pv 4) pe_int) pe_int) (fun _ _ => rfl)))))))
    (pss_one (ps_ret (pv 2))))), ?_⟩
  have e1 := Int.emod_nonneg c (by decide : (8 : Int) ≠ 0)
  have e2 := Int.emod_lt_of_pos c (by decide : (0 : Int) < 8)
  refine ⟨_, rfl, _, _, rfl, rfl, (by show (0 : Int) < 8; decide), _, _, rfl, rfl, _, rfl, by (first | lia | omega), by (first | lia | omega), for_range (lo := 0) (n := (1 + c % 8).toNat) (fun i σ H1 => ∃ (t : Str) (v6 v7 : Option V), σ = [some (.int c), some (.str L), some (.str t), v6, v7] ∧ H1 = H ∧ t.length = i ∧ ∀ x ∈ cs t, x ∈ cs L)
    ⟨"", none, none, rfl, rfl, rfl, fun x h => nomatch h⟩ ?_ ?_⟩
  · rintro i σ H1 hi ⟨t, v6, v7, rfl, rfl, hl, hx⟩
    refine ⟨_, rfl, _, _, rfl, rfl, ⟨by decide, by decide⟩, _, rfl, _, _, rfl, rfl, _, _, rfl, rfl, ⟨by (first | lia | omega), by (first | lia | omega)⟩, _, _, rfl, rfl, .inr ⟨by decide, by decide⟩, _, rfl, _, _, rfl, rfl, .inl ⟨by decide, by decide⟩, _, _, rfl, rfl, ?_⟩
    obtain ⟨ch, hch⟩ := str_at26 (L := L) (k := (c / 8 / (0 + (i : Int) + 1) * 48271 + 31 * (0 + (i : Int))) % 65537 % 26) hL (Int.emod_nonneg _ (by decide)) (Int.emod_lt_of_pos _ (by decide))
    refine ⟨_, rfl, _, rfl, _, rfl, _, _, rfl, rfl, (by show (0 : Int) < 65537; decide), _, _, rfl, rfl, (by show (0 : Int) < 26; decide), _, _, ch, rfl, rfl, len1000 (by (first | lia | omega)), hch, _, _, rfl, rfl, ?_, ?_⟩
    · show t.length + 1 ≤ sizeLine
      exact len1000 (by (first | lia | omega))
    · refine ⟨t ++ ⟨#[ch]⟩, _, _, rfl, rfl, ?_, fun x hm => ?_⟩
      · rw [app_len, hl]
        rfl
      · rw [cs_app] at hm
        rcases List.mem_append.mp hm with hm | hm
        · exact hx x hm
        · have : x = ch := List.mem_singleton.mp hm
          rw [this]
          exact atI_mem hch
  · rintro σ H1 ⟨t, v6, v7, rfl, rfl, hl, hx⟩
    exact ⟨_, rfl, q t (by (first | lia | omega)) (by (first | lia | omega)) hx⟩
/-! expressions that the law makes: with the names that may be used -/
/-- the length of a text, with braces about it where it may have them -/
def bx (e : Ex) : Nat := (tx e).length + (if five.contains (kw e) = true then 2 else 0)
theorem brc_bx {l : List Str} (hl : ∀ x ∈ l, x ∈ five) (e : Ex) : (brc l (kw e) (tx e)).length ≤ bx e := by
  unfold brc bx
  split
  · rename_i h
    have : five.contains (kw e) = true := List.contains_iff_mem.mpr (hl _ (List.contains_iff_mem.mp h))
    rw [if_pos this, app_len, app_len]
    show 1 + _ + 1 ≤ _
    (first | lia | omega)
  · (first | lia | omega)
def Wl (ot al : List Str) (e : Ex) : Prop := wfE e ∧ (∀ n ∈ nm false e, n ∈ ot) ∧ ∀ n ∈ nm true e, n ∈ al
/-- the names that may be used outside of tags, and within -/
def NmR (H : Hp) (nh : Addr) (ot al : List Str) : Prop := (∃ x y, H nh = some (.tup [.ref x, .ref y]) ∧ H x = some (.lst (ot.map V.str)) ∧ H y = some (.lst (al.map V.str))) ∧ (∀ n ∈ ot, n ∈ al) ∧ (∀ n ∈ al, Upr n ∧ n.length ≤ 8) ∧ al.length ≤ 8 ∧ ot.length ≤ 8
theorem strs_ne {ns : List Str} {i lf : Int} : some (HO.lst (ns.map V.str)) ≠ some (HO.lst [.int i, .int lf]) := by
  intro z
  injection z with z
  injection z with z
  cases ns with
  | nil => cases z
  | cons a r => injection z with z _; cases z
theorem NmR.but {H H' : Hp} {st nh : Addr} {ot al : List Str} {i lf : Int} (b : But st H H') (h : H st = some (.lst [.int i, .int lf])) (n : NmR H nh ot al) : NmR H' nh ot al := by
  obtain ⟨⟨x, y, h1, h2, h3⟩, r⟩ := n
  refine ⟨⟨x, y, b _ _ (fun z => ?_) h1, b _ _ (fun z => ?_) h2, b _ _ (fun z => ?_) h3⟩, r⟩
  · rw [z, h] at h1
    cases h1
  · rw [z, h] at h2
    exact strs_ne h2.symm
  · rw [z, h] at h3
    exact strs_ne h3.symm
def spLeaf : Sp := fun vs H Q _ => ∃ (c room : Int) (so : Addr) (ns : List Str), vs = [.int c, .int room, .ref so] ∧ H so = some (.lst (ns.map V.str)) ∧ ns.length ≤ 8 ∧ (∀ n ∈ ns, Upr n ∧ n.length ≤ 8) ∧ 1 ≤ room ∧ ∀ (r p : Addr) (e : Ex) (H' : Hp), Same H H' → Pair20 H' r p e → sz e ≤ 2 → (dp e : Int) < room → wfE e → (∀ b, ∀ n ∈ nm b e, n ∈ ns) → bx e ≤ 8 → Q (.ref r) H'
def spMade (K : PySem.W.Frag) (n : Nat) : Sp := fun vs H Q _ => ∃ (a : Addr) (ns : List Int) (st : Addr) (i lf room : Int) (nh : Addr) (ot al : List Str), vs = [.ref a, .ref st, .int room, .ref nh] ∧ St20 K H a ns st i lf ∧ lf ≤ 100 ∧ 1 ≤ room ∧ room < n ∧ NmR H nh ot al ∧
  ∀ (r p : Addr) (e : Ex) (i' lf' : Int) (H' : Hp), But st H H' → H' st = some (.lst [.int i', .int lf']) → -1 ≤ i' → 0 ≤ lf' → Pair20 H' r p e → (sz e : Int) + 2 * lf' ≤ 2 + 2 * lf → (dp e : Int) < room → Wl ot al e → (bx e : Int) + 10 * lf' ≤ 8 + 10 * lf → Q (.ref r) H'
def spSeveral (K : PySem.W.Frag) (n : Nat) : Sp := fun vs H Q _ => ∃ (a : Addr) (ns : List Int) (st : Addr) (i lf room c : Int) (nh : Addr) (ot al : List Str), vs = [.ref a, .ref st, .int room, .int c, .ref nh] ∧ St20 K H a ns st i lf ∧ 2 ≤ lf ∧ lf ≤ 100 ∧ 2 ≤ room ∧ room ≤ n ∧ NmR H nh ot al ∧
  ∀ (r p : Addr) (e : Ex) (i' lf' : Int) (H' : Hp), But st H H' → H' st = some (.lst [.int i', .int lf']) → -1 ≤ i' → 0 ≤ lf' → Pair20 H' r p e → (sz e : Int) + 2 * lf' ≤ 2 + 2 * lf → (dp e : Int) < room → Wl ot al e → (bx e : Int) + 10 * lf' ≤ 8 + 10 * lf → Q (.ref r) H'
theorem lets26 : (Str.ofString "abcdefghijklmnopqrstuvwxyz").cps.toList.length = 26 := by decide
theorem lets_of {t : Str} (h1 : 1 ≤ t.length) (h : ∀ x ∈ cs t, x ∈ cs "abcdefghijklmnopqrstuvwxyz") : Lets t := by
  refine ⟨fun z => ?_, fun c hc => ?_⟩
  · have : t.length = 0 := by
      have := congrArg List.length z
      rw [Array.length_toList] at this
      exact this
    (first | lia | omega)
  · have := h c hc
    have k : ∀ x ∈ cs (Str.ofString "abcdefghijklmnopqrstuvwxyz"), 97 ≤ x ∧ x ≤ 122 := by decide
    exact k c this
theorem strs_at {ns : List Str} {k : Int} (h0 : 0 ≤ k) (h1 : k < (ns.length : Int)) : ∃ n, atI (ns.map V.str) k = some (.str n) ∧ n ∈ ns := by
  obtain ⟨j, rfl⟩ := Int.eq_ofNat_of_zero_le h0
  have hj : j < ns.length := by (first | lia | omega)
  exact ⟨ns[j], atI_nat (by rw [List.getElem?_map, List.getElem?_eq_getElem hj]; rfl), List.getElem_mem hj⟩
set_option maxHeartbeats 1000000 in
theorem ok_l_leaf (B : ∀ x ∈ blts, mg x = none) (g_l_word : Has P w K mg base "_law_word" ["_law_cell", "_law_letters"] 1 spWd) (F : Fun K "_law_leaf" "_law_leaf" s_l_leaf f fd) : FnOk P w K mg base CX0 2 f fd ["_law_cell", "_law_room", "_law_some"] spLeaf := by
  refine F.ok sc_l_leaf (fun vs H Q E h => ?_) (fun cdv A outer s H vs Q E hr h => ?_)
  · obtain ⟨c, room, so, ns, rfl, _⟩ := h
    rfl
  obtain ⟨c, room, so, ns, rfl, hS, hn8, hns, hr0, q⟩ := h
  have hu := hu_room hr
  have e1 := Int.emod_nonneg c (by decide : (4 : Int) ≠ 0)
  have e2 := Int.emod_lt_of_pos c (by decide : (0 : Int) < 4)
  refine cut 1 (fun σ' H' => σ' = [some (.int c), some (.int room), some (.ref so), none, none] ∧ Same H H' ∧ ¬ (c % 4 = 3) ∧ (ns = [] → c % 4 ≠ 2 ∧ 2 ≤ room)) ⟨_, (pss_cons (ps_if (PW.pt (pw_and (pt_cmpR op_gt (pv 1) pe_int (nomark _)) (pw_and1 (pt_cmpR op_lt (pe_op op_mod (pv 0) pe_int) pe_int (nomark _)))))
      (pss_cons (ps_set (i := 3) sc_l_leaf.nd rfl (Or.inl rfl) (pe_has g_l_word hr rfl (pa_cons (pe_op op_fdiv (pv 0) pe_int) (pa_cons pe_str pa_nil))))
        (pss_one (ps_ret (pe_tup (pa_cons (pe_tup (pa_cons pe_str (pa_cons (pv 3) (pa_cons (pe_tup (pa_cons pe_str pa_nil)) pa_nil)))) (pa_cons (pv 3) pa_nil))))))
      pss_nil)
    (pss_cons (ps_set (i := 4) sc_l_leaf.nd rfl (Or.inl rfl) (pe_ix ix_list (pv 2) (pe_op op_mod (pe_op op_fdiv (pv 0) pe_int) (pe_callB call_len_seq rfl (B "len" (by decide)) PySem.boot_len (pa_cons (pv 2) pa_nil))) (fun _ _ => rfl)))
    (pss_one (ps_ret (pe_tup (pa_cons (pe_tup (pa_cons pe_str (pa_cons (pv 4) pa_nil))) (pa_cons (pv 4) pa_nil))))))), ?_⟩ (fun u hv0 hR => ⟨_, (pss_cons (ps_if (PW.pt (pw_or (pt_cmpR op_eq (pe_op op_mod (pv 0) pe_int) pe_int (nomark _)) (pw_or (PW.pt (pw_and (pt_cmpR op_eq (pe_op op_mod (pv 0) pe_int) pe_int (nomark _)) (pw_and1 (pt_cmpR (op_eq_nil hu) (pv 2) (pe_lst pa_nil) (nomark _))))) (pw_or1 (PW.pt (pw_and (pt_cmpR op_lt (pv 1) pe_int (nomark _)) (pw_and1 (pt_cmpR (op_eq_nil hu) (pv 2) (pe_lst pa_nil) (nomark _)))))))))
      (pss_one (ps_ret (pe_tup (pa_cons (pe_tup (pa_cons pe_str pa_nil)) (pa_cons pe_str pa_nil)))))
      pss_nil)
    hv0), ?_⟩)
  · rintro σ' H1 ⟨rfl, s1, n3, hnn⟩
    have hso := s1 _ _ hS
    have hname : ∀ nm0 ∈ ns, ∀ p1, H1 p1 = none → ∀ p2, (upd H1 p1 (.tup [.str "name", .str nm0])) p2 = none → Q (.ref p2) (upd (upd H1 p1 (.tup [.str "name", .str nm0])) p2 (.tup [.ref p1, .str nm0])) := by
      intro t ht p1 hp1 p2 hp2
      obtain ⟨n21, hp2'⟩ := upd_none hp2
      obtain ⟨hu1, hu8⟩ := hns t ht
      exact q p2 p1 (.name t) _ ((s1.upd_new (s1.free hp1)).upd_new (s1.free hp2')) ⟨upd_same, .name (by rw [upd_ne n21.symm]; exact upd_same), hu8⟩ (by show 1 ≤ 2; decide) (by show ((0 : Nat) : Int) < room; (first | lia | omega)) ⟨hu1, hu8⟩ (fun b n hn => by rw [List.mem_singleton.mp hn]; exact ht) (by show t.length + 0 ≤ 8; exact hu8)
    have namec : ¬ (1 < room ∧ c % 4 < 2) → ns ≠ [] := fun k z => by
      obtain ⟨k1, k2⟩ := hnn z
      exact k ⟨by (first | lia | omega), by (first | lia | omega)⟩
    have lp0 : ns ≠ [] → (0 : Int) < (((ns.map V.str).length : Nat) : Int) := fun k => by
      rw [List.length_map]
      cases ns with
      | nil => exact absurd rfl k
      | cons a r => rw [List.length_cons]; (first | lia | omega)
    refine ⟨_, rfl, _, _, rfl, rfl, _, rfl, ite2 (fun z => ?_) (fun z => iteF ?_)⟩
    · have hroom : 1 < room := of_decide_eq_true z
      refine ⟨_, rfl, _, _, rfl, rfl, (by show (0 : Int) < 4; decide), _, _, rfl, rfl, _, rfl, ite2 (fun _ => ?_) (fun z2 => ?_)⟩
      · refine ⟨_, rfl, _, _, rfl, rfl, ⟨by decide, by decide⟩, _, _, rfl, lets26, fun t t1 t8 hx => ?_⟩
        refine ⟨_, rfl, (by show 1 ≤ sizeLine; decide), fun p0 hp0 => ⟨(by show 3 ≤ sizeLine; decide), fun p1 hp1 => ⟨_, rfl, (by show 2 ≤ sizeLine; decide), fun p2 hp2 => ?_⟩⟩⟩
        obtain ⟨n10, hp1'⟩ := upd_none hp1
        obtain ⟨n21, hp2'⟩ := upd_none hp2
        obtain ⟨n20, hp2''⟩ := upd_none hp2'
        refine q p2 p1 (.tag t .nil) _ (((s1.upd_new (s1.free hp0)).upd_new (s1.free hp1')).upd_new (s1.free hp2'')) ⟨?_, .tag (q := p0) ?_ (.nil ?_), ⟨t8, trivial⟩⟩ (by show 1 + 1 ≤ 2; decide) (by show ((0 + 1 : Nat) : Int) < room; (first | lia | omega)) ⟨⟨lets_of t1 hx, t8⟩, trivial⟩ (fun b n hn => by cases b <;> exact nomatch hn) (by show t.length + 0 ≤ 8; exact t8)
        · rw [upd_same]; rfl
        · rw [upd_ne n21.symm]; exact upd_same
        · rw [upd_ne n20.symm, upd_ne n10.symm]; exact upd_same
      · have hc2 : ¬ c % 4 < 2 := fun y => z2 (decide_eq_true y)
        have lp := lp0 (namec fun k => hc2 k.2)
        obtain ⟨t, hat, ht⟩ := strs_at (ns := ns) (k := c / 4 % (((ns.map V.str).length : Nat) : Int)) (Int.emod_nonneg _ (Int.ne_of_gt lp)) (by rw [List.length_map]; exact Int.emod_lt_of_pos _ (by rw [List.length_map] at lp; exact lp))
        refine ⟨_, rfl, _, rfl, _, _, rfl, rfl, ⟨by decide, by decide⟩, _, rfl, so, _, rfl, .inl (SqL.of hso), _, _, rfl, rfl, lp, so, _, _, _, rfl, rfl, SqL.of hso, hat, ?_⟩
        exact ⟨_, rfl, (by show 2 ≤ sizeLine; decide), fun p1 hp1 => ⟨_, rfl, (by show 2 ≤ sizeLine; decide), fun p2 hp2 => hname t ht p1 hp1 p2 hp2⟩⟩
    · have hc2 : ¬ 1 < room := fun y => z (decide_eq_true y)
      have lp := lp0 (namec fun k => hc2 k.1)
      obtain ⟨t, hat, ht⟩ := strs_at (ns := ns) (k := c / 4 % (((ns.map V.str).length : Nat) : Int)) (Int.emod_nonneg _ (Int.ne_of_gt lp)) (by rw [List.length_map]; exact Int.emod_lt_of_pos _ (by rw [List.length_map] at lp; exact lp))
      refine ⟨_, rfl, _, rfl, _, _, rfl, rfl, ⟨by decide, by decide⟩, _, rfl, so, _, rfl, .inl (SqL.of hso), _, _, rfl, rfl, lp, so, _, _, _, rfl, rfl, SqL.of hso, hat, ?_⟩
      exact ⟨_, rfl, (by show 2 ≤ sizeLine; decide), fun p1 hp1 => ⟨_, rfl, (by show 2 ≤ sizeLine; decide), fun p2 hp2 => hname t ht p1 hp1 p2 hp2⟩⟩
  · have nilc : ∀ (H1 : Hp), Same H H1 → ∀ D : Ends, D.rt = Q → tRet (tTup (tCons (tTup (tCons (tC (V.str "nil")) tNil)) (tCons (tC (V.str "{}")) tNil))) D [some (.int c), some (.int room), some (.ref so), none, none] H1 := by
      intro H1 s1 D hD
      refine ⟨(by show 1 ≤ sizeLine; decide), fun p1 hp1 => ⟨(by show 2 ≤ sizeLine; decide), fun p2 hp2 => ?_⟩⟩
      obtain ⟨n21, hp2'⟩ := upd_none hp2
      rw [hD]
      exact q p2 p1 .nil _ ((s1.upd_new (s1.free hp1)).upd_new (s1.free hp2')) ⟨upd_same, .nil (by rw [upd_ne n21.symm]; exact upd_same), trivial⟩ (by decide) (by show ((0 : Nat) : Int) < room; (first | lia | omega)) trivial (fun b n hn => nomatch hn) (by decide)
    refine ⟨_, rfl, _, _, rfl, rfl, (by show (0 : Int) < 4; decide), rfl, _, rfl, ite2 (fun _ => iteT (nilc _ (Same.refl _) _ rfl)) (fun c3 => ?_)⟩
    have n3 : ¬ c % 4 = 3 := fun z => c3 (decide_eq_true (congrArg V.int z))
    refine ⟨_, rfl, _, _, rfl, rfl, (by show (0 : Int) < 4; decide), rfl, _, rfl, ite2 (fun c2 => ?_) (fun c2 => ?_)⟩
    · refine ⟨_, rfl, (by show 0 ≤ sizeLine; decide), fun pf hpf => ?_⟩
      have s1 : Same H (upd H pf (.lst [])) := Same.new hpf
      refine ⟨so, pf, _, rfl, rfl, SqL.of (s1 _ _ hS), SqL.of upd_same, _, rfl, ite2 (fun z => iteT (nilc _ s1 _ rfl)) (fun z => ?_)⟩
      have hne : ns ≠ [] := fun k => z (by rw [k]; rfl)
      refine ⟨_, rfl, _, _, rfl, rfl, _, rfl, ite2 (fun c4 => ?_) (fun c4 => ?_)⟩
      · refine ⟨_, rfl, (by show 0 ≤ sizeLine; decide), fun pf hpf => ?_⟩
        have s2 := s1.upd_new (o := .lst []) (s1.free hpf)
        refine ⟨so, pf, _, rfl, rfl, SqL.of (s2 _ _ hS), SqL.of upd_same, _, rfl, ite2 (fun z => nilc _ s2 _ rfl) (fun z => hR _ _ ⟨rfl, s2, n3, fun k => absurd (by rw [k]; rfl) z⟩)⟩
      · have h2 : ¬ room < 2 := fun y => c4 (decide_eq_true y)
        exact hR _ _ ⟨rfl, s1, n3, fun k => ⟨absurd k hne, by (first | lia | omega)⟩⟩
    · have h2 : c % 4 ≠ 2 := fun z => c2 (decide_eq_true (congrArg V.int z))
      refine ⟨_, rfl, _, _, rfl, rfl, _, rfl, ite2 (fun c4 => ?_) (fun c4 => ?_)⟩
      · refine ⟨_, rfl, (by show 0 ≤ sizeLine; decide), fun pf hpf => ?_⟩
        have s2 := (Same.refl H).upd_new (o := .lst []) ((Same.refl H).free hpf)
        refine ⟨so, pf, _, rfl, rfl, SqL.of (s2 _ _ hS), SqL.of upd_same, _, rfl, ite2 (fun z => nilc _ s2 _ rfl) (fun z => hR _ _ ⟨rfl, s2, n3, fun k => absurd (by rw [k]; rfl) z⟩)⟩
      · have h9 : ¬ room < 2 := fun y => c4 (decide_eq_true y)
        exact hR _ _ ⟨rfl, (Same.refl H), n3, fun k => ⟨h2, by (first | lia | omega)⟩⟩
theorem ok_l_braced (B : ∀ x ∈ blts, mg x = none) (F : Fun K "_law_braced" "_law_braced" s_l_braced f fd) : FnOk P w K mg base CX0 1 f fd ["_law_made_here", "_law_words"] (spBraced K) := by
  refine F.ok sc_l_braced (fun vs H Q E h => ?_) (fun cdv A outer s H vs Q E hr h => ?_)
  · obtain ⟨r, p, e, c, l, rfl, _⟩ := h
    rfl
  obtain ⟨r, p, e, c, l, rfl, hP, hs, hc, q⟩ := h
  have hl := tx_len e hP.2.2
  obtain ⟨r', ht, _⟩ := hP.2.1.top
  refine ⟨_, (pss_cons (ps_if (pt_cmpR op_in_seq (pe_ix ix_tup (pe_ix ix_tup (pv 0) pe_int (fun _ _ => rfl)) pe_int (fun _ _ => rfl)) (pv 1) (by with_unfolding_all rfl))
      (pss_one (ps_ret (pe_op op_add_str (pe_op op_add_str pe_str (pe_ix ix_tup (pv 0) pe_int (fun _ _ => rfl))) pe_str)))
      pss_nil)
    (pss_one (ps_ret (pe_ix ix_tup (pv 0) pe_int (fun _ _ => rfl))))), ?_⟩
  refine ⟨_, rfl, r, _, 0, .ref p, rfl, rfl, SqT.of hP.1, rfl, p, _, 0, .str (kw e), rfl, rfl, SqT.of ht, at0, _, rfl, c, _, rfl, .inr hc, rfl, all_flat l, _, rfl, ?_⟩
  have e1 : (if false = true then !inV (V.str (kw e)) (l.map V.str) else inV (V.str (kw e)) (l.map V.str)) = l.contains (kw e) := in_strs _ _
  rw [e1]
  unfold brc at q
  by_cases hcn : l.contains (kw e) = true
  · rw [if_pos hcn] at q
    refine ite2 (fun _ => ?_) (fun z => absurd hcn z)
    exact ⟨_, rfl, r, _, 1, _, rfl, rfl, SqT.of hP.1, rfl, _, _, rfl, rfl, len1000 (by show 1 + _ ≤ _; (first | lia | omega)), _, _, rfl, rfl, len1000 (by rw [app_len]; show 1 + _ + 1 ≤ _; (first | lia | omega)), q⟩
  · rw [if_neg hcn] at q
    exact ite2 (fun z => absurd z hcn) (fun _ => ⟨_, rfl, r, _, 1, _, rfl, rfl, SqT.of hP.1, rfl, q⟩)
def ofL : List Ex → Exs
  | [] => .nil
  | e :: r => .cons e (ofL r)
def szL (es : List Ex) : Nat := (es.map sz).sum
theorem szs_of : ∀ es : List Ex, szs (ofL es) = szL es
  | [] => rfl
  | e :: r => by rw [ofL, szs, szs_of r]; unfold szL; rw [List.map_cons, List.sum_cons]
theorem dps_of {n : Int} : ∀ es : List Ex, 0 ≤ n → (∀ e ∈ es, (dp e : Int) ≤ n) → (dps (ofL es) : Int) ≤ n
  | [], h, _ => h
  | e :: r, h, k => by
    have h1 := k e (List.mem_cons_self ..)
    have h2 := dps_of r h fun x hx => k x (List.mem_cons_of_mem _ hx)
    show ((max (dp e) (dps (ofL r)) : Nat) : Int) ≤ n
    (first | lia | omega)
theorem w8s_of : ∀ es : List Ex, (∀ e ∈ es, w8 e) → w8s (ofL es)
  | [], _ => trivial
  | e :: r, k => ⟨k e (List.mem_cons_self ..), w8s_of r fun x hx => k x (List.mem_cons_of_mem _ hx)⟩
theorem txs_of (l : List Str) : ∀ es : List Ex, txs l (ofL es) = es.map fun e => brc l (kw e) (tx e)
  | [] => rfl
  | e :: r => by rw [ofL, txs, txs_of l r]; rfl
theorem Pair20.tk {H H' : Hp} {r p : Addr} {e : Ex} (k : TK H H') (h : Pair20 H r p e) : Pair20 H' r p e := ⟨k _ _ h.1, h.2.1.mono k, h.2.2⟩
/-- pairs that lie in a list -/
def Prs (H : Hp) (rs : List Addr) (qs : List Addr) (es : List Ex) : Prop := rs.length = es.length ∧ qs.length = es.length ∧ ∀ (i : Nat) r q e, rs[i]? = some r → qs[i]? = some q → es[i]? = some e → Pair20 H r q e
theorem Prs.tk {H H' : Hp} {rs qs : List Addr} {es : List Ex} (k : TK H H') (h : Prs H rs qs es) : Prs H' rs qs es := ⟨h.1, h.2.1, fun i r q e a b c => (h.2.2 i r q e a b c).tk k⟩
theorem snoc_get {α : Type} {l : List α} {a x : α} {i : Nat} (h : (l ++ [a])[i]? = some x) : (i < l.length ∧ l[i]? = some x) ∨ (i = l.length ∧ x = a) := by
  by_cases e : i < l.length
  · rw [List.getElem?_append_left e] at h
    exact .inl ⟨e, h⟩
  · rw [List.getElem?_append_right (by (first | lia | omega))] at h
    obtain ⟨h1, h2⟩ := List.getElem?_eq_some_iff.mp h
    have : i - l.length = 0 := by simpa using h1
    refine .inr ⟨by (first | lia | omega), ?_⟩
    rw [← h2]
    simp [this]
theorem Prs.snoc {H : Hp} {rs qs : List Addr} {es : List Ex} {r q : Addr} {e : Ex} (h : Prs H rs qs es) (k : Pair20 H r q e) : Prs H (rs ++ [r]) (qs ++ [q]) (es ++ [e]) := by
  refine ⟨by simp [h.1], by simp [h.2.1], fun i r' q' e' a b c => ?_⟩
  rcases snoc_get a with ⟨ia, a⟩ | ⟨ia, rfl⟩
  · rcases snoc_get b with ⟨ib, b⟩ | ⟨ib, _⟩
    · rcases snoc_get c with ⟨ic, c⟩ | ⟨ic, _⟩
      · exact h.2.2 i _ _ _ a b c
      · have := h.1; (first | lia | omega)
    · have := h.1; have := h.2.1; (first | lia | omega)
  · rcases snoc_get b with ⟨ib, b⟩ | ⟨ib, rfl⟩
    · have := h.1; have := h.2.1; (first | lia | omega)
    · rcases snoc_get c with ⟨ic, c⟩ | ⟨ic, rfl⟩
      · have := h.1; (first | lia | omega)
      · exact k
theorem prs_reps {H : Hp} : ∀ {qs : List Addr} {es : List Ex}, qs.length = es.length → (∀ (i : Nat) q e, qs[i]? = some q → es[i]? = some e → RepE H q e) → RepEs H (qs.map V.ref) (ofL es)
  | [], [], _, _ => .nil
  | [], _ :: _, h, _ => by simp at h
  | _ :: _, [], h, _ => by simp at h
  | q :: qs, e :: es, h, k => .cons (k 0 q e rfl rfl) (prs_reps (by simpa using h) fun i q' e' a b => k (i + 1) q' e' (by simpa using a) (by simpa using b))
theorem szL_mem {es : List Ex} {e : Ex} (h : e ∈ es) : sz e ≤ szL es := by
  induction es with
  | nil => cases h
  | cons a r ih =>
    unfold szL
    rw [List.map_cons, List.sum_cons]
    rcases List.mem_cons.mp h with rfl | h
    · (first | lia | omega)
    · have : sz e ≤ (r.map sz).sum := ih h
      (first | lia | omega)
def bxL (es : List Ex) : Nat := (es.map bx).sum
theorem toL_of : ∀ es : List Ex, toL (ofL es) = es
  | [] => rfl
  | e :: r => by rw [ofL, toL, toL_of r]
theorem wfEs_of : ∀ {es : List Ex}, (∀ e ∈ es, wfE e) → wfEs (ofL es)
  | [], _ => trivial
  | e :: r, k => ⟨k e (List.mem_cons_self ..), wfEs_of fun x hx => k x (List.mem_cons_of_mem _ hx)⟩
theorem Wl_of {ot al : List Str} {es : List Ex} (b : Bool) (h2 : 2 ≤ es.length) (h : ∀ e ∈ es, Wl ot al e) : Wl ot al (.several b (ofL es)) := by
  refine ⟨⟨by rw [← toL_len, toL_of]; exact h2, wfEs_of fun e he => (h e he).1⟩, fun n hn => ?_, fun n hn => ?_⟩
  · rw [nm, nms_flat, toL_of] at hn
    obtain ⟨e, he, hx⟩ := List.mem_flatMap.mp hn
    exact (h e he).2.1 n hx
  · rw [nm, nms_flat, toL_of] at hn
    obtain ⟨e, he, hx⟩ := List.mem_flatMap.mp hn
    exact (h e he).2.2 n hx
theorem brc_sum {l : List Str} (hl : ∀ x ∈ l, x ∈ five) : ∀ es : List Ex, ((es.map fun e => brc l (kw e) (tx e)).map (·.length)).sum ≤ bxL es
  | [] => Nat.le_refl _
  | e :: r => by
    have h1 := brc_bx hl e
    have h2 := brc_sum hl r
    unfold bxL at h2 ⊢
    simp only [List.map_cons, List.sum_cons]
    (first | lia | omega)
theorem bx_sev (b : Bool) (es : List Ex) : bx (.several b (ofL es)) ≤ bxL es + es.length * 3 + 2 := by
  have h1 := brc_sum (l := sevB b) (by cases b <;> decide) es
  have h2 := len_le_sum (sevS b) (txs (sevB b) (ofL es))
  have h3 : (sevS b).length ≤ 3 := by cases b <;> decide
  rw [txs_of, List.length_map] at h2
  have h4 : es.length * (sevS b).length ≤ es.length * 3 := Nat.mul_le_mul_left _ h3
  have h5 : tx (.several b (ofL es)) = Txt.join (sevS b) (es.map fun e => brc (sevB b) (kw e) (tx e)) := by rw [tx, txs_of]
  unfold bx
  rw [h5]
  split <;> (first | lia | omega)
set_option maxHeartbeats 4000000 in
theorem ok_l_several (n : Nat) (B : ∀ x ∈ blts, mg x = none) (g_l_made : Has P w K mg base "_law_made" ["_law_script", "_law_state", "_law_room", "_law_names_here"] (2 * n + 4) (spMade K n)) (g_l_braced : Has P w K mg base "_law_braced" ["_law_made_here", "_law_words"] 1 (spBraced K)) (F : Fun K "_law_several" "_law_several" s_l_several f fd) : FnOk P w K mg base CX0 (2 * n + 5) f fd ["_law_script", "_law_state", "_law_room", "_law_cell", "_law_names_here"] (spSeveral K n) := by
  refine F.ok sc_l_several (fun vs H Q E h => ?_) (fun cdv A outer s H vs Q E hr h => ?_)
  · obtain ⟨a, ns, st, i, lf, room, c, nh, ot, al, rfl, _⟩ := h
    rfl
  obtain ⟨a, ns, st, i0, lf, room, c, nh, ot, al, rfl, hS, hl2, hl100, hr1, hrn, hN, q⟩ := h
  refine ⟨_, (pss_cons (ps_set (i := 5) sc_l_several.nd rfl (Or.inl rfl) (pe_callB (call_min2 rfl) rfl (B "min" (by decide)) bt_min (pa_cons (pe_op op_add pe_int (pe_op op_mod (pe_op op_fdiv (pv 3) pe_int) pe_int)) (pa_cons (pe_ix ix_list (pv 1) pe_int (fun _ _ => rfl)) pa_nil))))
    (pss_cons (ps_asg (pe_op op_sub (pe_ix ix_list (pv 1) pe_int (fun _ _ => rfl)) (pv 5)) (pg_sub (pv 1) pe_int set_list))
    (pss_cons (ps_set_comp (cl := _) (n0 := 6) sc_l_several.nd rfl (Or.inl rfl) ["_law_k"] [("_law_script", 0), ("_law_state", 1), ("_law_room", 2), ("_law_names_here", 4)] (pi_range1 rfl (B "range" (by decide)) (pa_cons (pv 5) pa_nil)) (fun _ _ _ _ => (pg_name (i := 0) (show List.Nodup (["_law_k", "_law_script", "_law_state", "_law_room", "_law_names_here"] : List Str) by decide) rfl (Or.inl rfl))) (fun _ _ _ _ => (pe_has g_l_made hr rfl (pa_cons (pv 1) (pa_cons (pv 2) (pa_cons (pe_op op_sub (pv 3) pe_int) (pa_cons (pv 4) pa_nil)))) (by (first | lia | omega)))) rfl rfl (by decide) rfl (by decide) (cap_cl (by (repeat' first | exact List.forall_mem_nil _ | refine List.forall_mem_cons.mpr ⟨?_, ?_⟩) <;> rfl)) (cap_has (by (repeat' first | exact List.forall_mem_nil _ | refine List.forall_mem_cons.mpr ⟨?_, ?_⟩) <;> first | (intro h; exact ⟨_, rfl⟩) | (intro h; exact absurd h (by decide)))) (fun _ => by (repeat' first | exact List.forall_mem_nil _ | refine List.forall_mem_cons.mpr ⟨?_, ?_⟩) <;> exact ⟨rfl, rfl, Or.inl rfl⟩) (fun _ => rfl) rfl)
    (pss_cons (ps_set (i := 7) sc_l_several.nd rfl (Or.inl rfl) (pe_callTy call_tuple_of rfl (B "tuple" (by decide)) bt_tuple (pa_cons (pe_comp (cl := []) ["_law_part"] [] (pi_list (pv 6)) (fun _ _ _ _ => (pg_name (i := 0) nd1 rfl (Or.inl rfl))) (fun _ _ _ _ => (pe_ix (ix_tupK (K := K) rfl) (pv 0) pe_int (fun _ _ => rfl))) rfl rfl (by decide) rfl (by decide) (fun _ _ h => nomatch h) (nofree (by decide)) (fun _ _ h => nomatch h) (fun _ => rfl)) pa_nil)))
    (pss_cons (ps_if (pt_cmpR op_eq (pe_op op_mod (pv 3) pe_int) pe_int (nomark _))
      (pss_one (ps_ret (pe_tup (pa_cons (pe_tup (pa_cons pe_str (pa_cons (pv 7) pa_nil))) (pa_cons (pe_bm PySem.F.plainAttrs_str PySem.F.slot_str_join PySem.F.type_str_join mt_join pe_str (pa_cons (pe_comp (cl := []) ["_law_part"] [] (pi_list (pv 6)) (fun _ _ _ _ => (pg_name (i := 0) nd1 rfl (Or.inl rfl))) (fun _ _ _ _ => (pe_has g_l_braced hr rfl (pa_cons (pv 0) (pa_cons (pe_tup (pa_cons pe_str (pa_cons pe_str pa_nil))) pa_nil)) (by (first | lia | omega)))) rfl rfl (by decide) rfl (by decide) (fun _ _ h => nomatch h) (nofree (by decide)) (fun _ _ h => nomatch h) (fun _ => rfl)) pa_nil)) pa_nil)))))
      pss_nil)
    (pss_one (ps_ret (pe_tup (pa_cons (pe_tup (pa_cons pe_str (pa_cons (pv 7) pa_nil))) (pa_cons (pe_bm PySem.F.plainAttrs_str PySem.F.slot_str_join PySem.F.type_str_join mt_join pe_str (pa_cons (pe_comp (cl := []) ["_law_part"] [] (pi_list (pv 6)) (fun _ _ _ _ => (pg_name (i := 0) nd1 rfl (Or.inl rfl))) (fun _ _ _ _ => (pe_has g_l_braced hr rfl (pa_cons (pv 0) (pa_cons (pe_tup (pa_cons pe_str pa_nil)) pa_nil)) (by (first | lia | omega)))) rfl rfl (by decide) rfl (by decide) (fun _ _ h => nomatch h) (nofree (by decide)) (fun _ _ h => nomatch h) (fun _ => rfl)) pa_nil)) pa_nil)))))))))), ?_⟩
  have e1 := Int.emod_nonneg (c / 10) (by decide : (3 : Int) ≠ 0)
  have e2 := Int.emod_lt_of_pos (c / 10) (by decide : (0 : Int) < 3)
  refine ⟨_, rfl, _, _, rfl, rfl, ⟨by decide, by decide⟩, _, _, rfl, rfl, (by show (0 : Int) < 3; decide), _, _, rfl, rfl, _, rfl, st, _, 1, _, rfl, rfl, SqL.of hS.at_, rfl, _, _, rfl, ?_⟩
  have hm : ∃ m : Nat, (if lf < 2 + c / 10 % 3 then lf else 2 + c / 10 % 3) = (m : Int) ∧ 2 ≤ m ∧ m ≤ 4 ∧ (m : Int) ≤ lf := by
    split
    · exact ⟨lf.toNat, by (first | lia | omega), by (first | lia | omega), by (first | lia | omega), by (first | lia | omega)⟩
    · exact ⟨(2 + c / 10 % 3).toNat, by (first | lia | omega), by (first | lia | omega), by (first | lia | omega), by (first | lia | omega)⟩
  obtain ⟨m, hme, m2, m4, mlf⟩ := hm
  show gName 5 (V.int (if lf < 2 + c / 10 % 3 then lf else 2 + c / 10 % 3)) _ _ _
  rw [hme]
  refine ⟨_, rfl, st, _, 1, _, rfl, rfl, SqL.of hS.at_, rfl, _, rfl, _, _, rfl, rfl, _, rfl, st, _, 1, 1, rfl, rfl, hS.at_, rfl, ?_⟩
  have hS1 : St20 K (upd H st (.lst ([V.int i0, .int lf].set 1 (.int (lf - m))))) a ns st i0 (lf - m) := hS.to But.up upd_same hS.i0 (by (first | lia | omega))
  have b1 : But st H (upd H st (.lst ([V.int i0, .int lf].set 1 (.int (lf - m))))) := But.up
  have hN1 := hN.but b1 hS.at_
  generalize upd H st (.lst ([V.int i0, .int lf].set 1 (.int (lf - m)))) = H1 at hS1 b1 hN1 ⊢
  refine ⟨_, rfl, (m : Int), rfl, by (first | lia | omega), by (first | lia | omega), fun pl hpl => comp_range (lo := 0) (n := (m : Int).toNat) (p := pl) (fun k ys σ H2 => ∃ (v0 : Option V) (rs qs : List Addr) (es : List Ex) (i' lf' : Int), σ = [v0, some (.ref a), some (.ref st), some (.int room), some (.ref nh)] ∧ But st H1 H2 ∧ H2 st = some (.lst [.int i', .int lf']) ∧ -1 ≤ i' ∧ 0 ≤ lf' ∧ H2 pl = some (.lst ys) ∧ ys = rs.map V.ref ∧ Prs H2 rs qs es ∧ rs.length = k ∧
    (szL es : Int) + 2 * lf' ≤ 2 * k + 2 * (lf - m) ∧ (∀ e ∈ es, (dp e : Int) ≤ room - 2) ∧ (∀ e ∈ es, w8 e) ∧ (∀ e ∈ es, Wl ot al e) ∧ (bxL es : Int) + 10 * lf' ≤ 8 * k + 10 * (lf - m)) ⟨none, [], [], [], i0, lf - m, rfl, (But.same (Same.new hpl)), by rw [upd_ne (ne_of_none hS1.at_ hpl)]; exact hS1.at_, hS1.i0, hS1.l0, upd_same, rfl, ⟨rfl, rfl, fun _ _ _ _ h => by simp at h⟩, rfl, (by show (0 : Int) + 2 * (lf - m) ≤ 2 * ((0 : Nat) : Int) + 2 * (lf - m); (first | lia | omega)), (fun _ h => nomatch h), (fun _ h => nomatch h), (fun _ h => nomatch h), (by show (0 : Int) + 10 * (lf - m) ≤ 8 * ((0 : Nat) : Int) + 10 * (lf - m); (first | lia | omega))⟩ ?_ ?_ ?_⟩
  · rintro k ys σ H2 _ ⟨v0, rs, qs, es, i', lf', _, _, _, _, _, hp2, _⟩
    exact hp2
  · rintro k ys σ H2 hk ⟨v0, rs, qs, es, i', lf', rfl, bt, hst, hi', hlf', hp2, rfl, hP, hrl, hsz, hdp, hw8, hwl, hbx⟩
    have npl : pl ≠ st := (ne_of_none hS1.at_ hpl).symm
    refine ⟨_, rfl, _, rfl, _, rfl, _, _, rfl, rfl, _, rfl, a, ns, st, i', lf', room - 1, nh, ot, al, rfl, hS1.to bt hst hi' hlf', by (first | lia | omega), by (first | lia | omega), by (first | lia | omega), hN1.but bt hS1.at_, fun r p e i2 lf2 H3 b3 h3 i20 l20 hpr hsz2 hdp2 hwl2 hbx2 => ?_⟩
    have hp3 := b3 _ _ npl hp2
    have tk : TK H2 (upd H3 pl (.lst (rs.map V.ref ++ [.ref r]))) := (b3.tk hst).trans (TK.lst hp3)
    refine ⟨hp3, len1000' (by rw [List.length_map]; (first | lia | omega)), CW.next hk ⟨_, rs ++ [r], qs ++ [p], es ++ [e], i2, lf2, rfl, ?_, by rw [upd_ne npl.symm]; exact h3, i20, l20, upd_same, by simp, (hP.tk tk).snoc (hpr.tk (TK.lst hp3)), by simp [hrl], ?_, ?_, ?_, ?_, ?_⟩⟩
    · intro b o nb hb
      rw [upd_ne (ne_of_none hb hpl)]
      exact b3 _ _ nb (bt _ _ nb hb)
    · unfold szL at hsz ⊢
      rw [List.map_append, List.sum_append]
      simp only [List.map_cons, List.map_nil, List.sum_cons, List.sum_nil]
      (first | lia | omega)
    · intro x hx
      rcases List.mem_append.mp hx with hx | hx
      · exact hdp x hx
      · rw [List.mem_singleton.mp hx]; (first | lia | omega)
    · intro x hx
      rcases List.mem_append.mp hx with hx | hx
      · exact hw8 x hx
      · rw [List.mem_singleton.mp hx]; exact hpr.2.2
    · intro x hx
      rcases List.mem_append.mp hx with hx | hx
      · exact hwl x hx
      · rw [List.mem_singleton.mp hx]; exact hwl2
    · unfold bxL at hbx ⊢
      rw [List.map_append, List.sum_append]
      simp only [List.map_cons, List.map_nil, List.sum_cons, List.sum_nil]
      (first | lia | omega)
  · rintro ys σ H2 ⟨v0, rs, qs, es, i', lf', rfl, bt, hst, hi', hlf', hp2, rfl, hP, hrl, hsz, hdp, hw8, hwl, hbx⟩
    have hrl' : rs.length = m := by rw [hrl]; exact Int.toNat_natCast m
    have hel : es.length = m := by rw [← hP.1]; exact hrl'
    have hq : qs.length = m := by rw [hP.2.1]; exact hel
    have hws : w8s (ofL es) := w8s_of es hw8
    have hsz' : szL es ≤ 200 := by (first | lia | omega)
    refine ⟨_, rfl, pl, rfl, ⟨_, SqL.of hp2⟩, fun p2 hp2n => comp_list (K := K) (a := pl) (p := p2) (xs := rs.map V.ref) (fun k ys σ H3 => ∃ v0 : Option V, σ = [v0] ∧ Same H2 H3 ∧ H3 p2 = some (.lst ys) ∧ ys = (qs.take k).map V.ref)
      ⟨none, rfl, Same.new hp2n, upd_same, rfl⟩ ?_ ?_ ?_⟩
    · rintro k ys σ H3 _ ⟨v0, _, sm, hp3, _⟩
      exact ⟨SqL.of (sm _ _ hp2), hp3⟩
    · rintro k ys x σ H3 hk hx ⟨v0, rfl, sm, hp3, rfl⟩
      rw [List.length_map] at hk
      rw [List.getElem?_map, List.getElem?_eq_getElem hk] at hx
      cases hx
      have hkq : k < qs.length := by (first | lia | omega)
      have hke : k < es.length := by (first | lia | omega)
      have pr := hP.2.2 k _ _ _ (List.getElem?_eq_getElem hk) (List.getElem?_eq_getElem hkq) (List.getElem?_eq_getElem hke)
      refine ⟨_, rfl, rs[k], _, 0, .ref qs[k], rfl, rfl, SqT.of (sm _ _ pr.1), rfl, hp3, len1000' (by rw [List.length_map, List.length_take]; (first | lia | omega)), CW.next (by rw [List.length_map]; exact hk) ⟨_, rfl, sm.upd_new hp2n, upd_same, ?_⟩⟩
      rw [List.take_succ_eq_append_getElem hkq, List.map_append]
      rfl
    rintro ys σ H3 ⟨v0, rfl, sm3, hp3, rfl⟩
    have hlq : (rs.map V.ref).length = qs.length := by rw [List.length_map, hq]; exact hrl'
    rw [hlq, List.take_length] at hp3
    refine ⟨p2, _, rfl, .inl ⟨SqL.of hp3, fun r3 hr3 => ?_⟩⟩
    have s4 : Same H3 (upd H3 r3 (.tup (qs.map V.ref))) := Same.new hr3
    have e3 : (upd H3 r3 (.tup (qs.map V.ref))) r3 = some (.tup (qs.map V.ref)) := upd_same
    generalize upd H3 r3 (.tup (qs.map V.ref)) = H4 at s4 e3 ⊢
    have s24 := sm3.trans s4
    have reps : RepEs H4 (qs.map V.ref) (ofL es) := prs_reps hP.2.1 fun k q' e' hq' he' => by
      obtain ⟨hk1, _⟩ := List.getElem?_eq_some_iff.mp hq'
      have hk2 : k < rs.length := by (first | lia | omega)
      exact ((hP.2.2 k _ _ _ (List.getElem?_eq_getElem hk2) hq' he').tk s24.tk).2.1
    refine ⟨_, rfl, _, _, rfl, rfl, (by show (0 : Int) < 10; decide), rfl, _, rfl, ite2 (fun _ => ?_) (fun _ => ?_)⟩
    · refine ⟨_, rfl, (by show 2 ≤ sizeLine; decide), fun p4 hp4 => ?_⟩
      have s5 : Same H4 (upd H4 p4 (.tup [.str "turn", .ref r3])) := Same.new hp4
      have e4 : (upd H4 p4 (.tup [.str "turn", .ref r3])) p4 = some (.tup [.str "turn", .ref r3]) := upd_same
      generalize upd H4 p4 (.tup [.str "turn", .ref r3]) = H5 at s5 e4 ⊢
      have s25 := s24.trans s5
      have hP5 := hP.tk s25.tk
      refine ⟨rfl, _, rfl, pl, rfl, ⟨_, SqL.of (s25 _ _ hp2)⟩, fun p5 hp5 => comp_list (K := K) (a := pl) (p := p5) (xs := rs.map V.ref) (fun k ys σ H6 => ∃ v0 : Option V, σ = [v0] ∧ Same H5 H6 ∧ H6 p5 = some (.lst ys) ∧ ys = ((es.map fun e => brc ["turn", "or"] (kw e) (tx e)).take k).map V.str)
        ⟨none, rfl, Same.new hp5, upd_same, rfl⟩ ?_ ?_ ?_⟩
      · rintro k ys σ H6 _ ⟨v0, _, sm, hp6, _⟩
        exact ⟨SqL.of (sm _ _ (s25 _ _ hp2)), hp6⟩
      · rintro k ys x σ H6 hk hx ⟨v0, rfl, sm, hp6, rfl⟩
        rw [List.length_map] at hk
        rw [List.getElem?_map, List.getElem?_eq_getElem hk] at hx
        cases hx
        have hkq : k < qs.length := by (first | lia | omega)
        have hke : k < es.length := by (first | lia | omega)
        have pr := (hP5.2.2 k _ _ _ (List.getElem?_eq_getElem hk) (List.getElem?_eq_getElem hkq) (List.getElem?_eq_getElem hke)).tk sm.tk
        have hse := szL_mem (List.getElem_mem hke)
        refine ⟨_, rfl, (by show 2 ≤ sizeLine; decide), fun tt htt => ?_⟩
        have s7 : Same H6 (upd H6 tt (.tup [.str "turn", .str "or"])) := Same.new htt
        refine ⟨rs[k], qs[k], es[k], tt, ["turn", "or"], rfl, pr.tk s7.tk, by (first | lia | omega), SqT.of upd_same, s7 _ _ hp6, len1000' (by rw [List.length_map, List.length_take]; (first | lia | omega)), CW.next (by rw [List.length_map]; exact hk) ⟨_, rfl, (sm.trans s7).upd_new hp5, upd_same, ?_⟩⟩
        rw [List.take_succ_eq_append_getElem (by rw [List.length_map]; exact hke), List.map_append, List.getElem_map]
        rfl
      · rintro ys σ H6 ⟨v0, rfl, sm, hp6, rfl⟩
        have hlm : (rs.map V.ref).length = (es.map fun e => brc ["turn", "or"] (kw e) (tx e)).length := by rw [List.length_map, List.length_map]; exact hP.1
        rw [hlm, List.take_length] at hp6
        refine ⟨" ", p5, es.map fun e => brc ["turn", "or"] (kw e) (tx e), rfl, rfl, SqL.of hp6, ?_, (by show 2 ≤ sizeLine; decide), fun p7 hp7 => ?_⟩
        · have h9 := txs_len ["turn", "or"] (ofL es) hws
          rw [txs_of, szs_of] at h9
          show _ + _ * 1 ≤ _
          (first | lia | omega)
        have s26 := s25.trans sm
        have s8 : Same H6 (upd H6 p7 (.tup [.ref p4, .str (Txt.join " " (es.map fun e => brc ["turn", "or"] (kw e) (tx e)))])) := Same.new hp7
        have s27 := s26.trans s8
        have etx : tx (.several true (ofL es)) = Txt.join " " (es.map fun e => brc ["turn", "or"] (kw e) (tx e)) := by
          rw [tx]
          show Txt.join " " (txs ["turn", "or"] (ofL es)) = _
          rw [txs_of]
        refine q p7 p4 (.several true (ofL es)) i' lf' _ (((b1.trans bt).trans (But.same s27))) (s27 _ _ hst) hi' hlf' ⟨?_, .several (q := r3) (vs := qs.map V.ref) ?_ ?_ (reps.mono ((s5.trans sm).trans s8).tk), hws⟩ ?_ ?_ (Wl_of _ (by (first | lia | omega)) hwl) (by have := bx_sev true es; (first | lia | omega))
        · rw [etx]; exact upd_same
        · exact s8 _ _ (sm _ _ e4)
        · exact s8 _ _ (sm _ _ (s5 _ _ e3))
        · show ((szs (ofL es) + 1 : Nat) : Int) + 2 * lf' ≤ _
          rw [szs_of]
          (first | lia | omega)
        · show ((dps (ofL es) + 1 : Nat) : Int) < room
          have := dps_of es (by (first | lia | omega)) hdp
          (first | lia | omega)
    · refine ⟨_, rfl, (by show 2 ≤ sizeLine; decide), fun p4 hp4 => ?_⟩
      have s5 : Same H4 (upd H4 p4 (.tup [.str "or", .ref r3])) := Same.new hp4
      have e4 : (upd H4 p4 (.tup [.str "or", .ref r3])) p4 = some (.tup [.str "or", .ref r3]) := upd_same
      generalize upd H4 p4 (.tup [.str "or", .ref r3]) = H5 at s5 e4 ⊢
      have s25 := s24.trans s5
      have hP5 := hP.tk s25.tk
      refine ⟨rfl, _, rfl, pl, rfl, ⟨_, SqL.of (s25 _ _ hp2)⟩, fun p5 hp5 => comp_list (K := K) (a := pl) (p := p5) (xs := rs.map V.ref) (fun k ys σ H6 => ∃ v0 : Option V, σ = [v0] ∧ Same H5 H6 ∧ H6 p5 = some (.lst ys) ∧ ys = ((es.map fun e => brc ["or"] (kw e) (tx e)).take k).map V.str)
        ⟨none, rfl, Same.new hp5, upd_same, rfl⟩ ?_ ?_ ?_⟩
      · rintro k ys σ H6 _ ⟨v0, _, sm, hp6, _⟩
        exact ⟨SqL.of (sm _ _ (s25 _ _ hp2)), hp6⟩
      · rintro k ys x σ H6 hk hx ⟨v0, rfl, sm, hp6, rfl⟩
        rw [List.length_map] at hk
        rw [List.getElem?_map, List.getElem?_eq_getElem hk] at hx
        cases hx
        have hkq : k < qs.length := by (first | lia | omega)
        have hke : k < es.length := by (first | lia | omega)
        have pr := (hP5.2.2 k _ _ _ (List.getElem?_eq_getElem hk) (List.getElem?_eq_getElem hkq) (List.getElem?_eq_getElem hke)).tk sm.tk
        have hse := szL_mem (List.getElem_mem hke)
        refine ⟨_, rfl, (by show 1 ≤ sizeLine; decide), fun tt htt => ?_⟩
        have s7 : Same H6 (upd H6 tt (.tup [.str "or"])) := Same.new htt
        refine ⟨rs[k], qs[k], es[k], tt, ["or"], rfl, pr.tk s7.tk, by (first | lia | omega), SqT.of upd_same, s7 _ _ hp6, len1000' (by rw [List.length_map, List.length_take]; (first | lia | omega)), CW.next (by rw [List.length_map]; exact hk) ⟨_, rfl, (sm.trans s7).upd_new hp5, upd_same, ?_⟩⟩
        rw [List.take_succ_eq_append_getElem (by rw [List.length_map]; exact hke), List.map_append, List.getElem_map]
        rfl
      · rintro ys σ H6 ⟨v0, rfl, sm, hp6, rfl⟩
        have hlm : (rs.map V.ref).length = (es.map fun e => brc ["or"] (kw e) (tx e)).length := by rw [List.length_map, List.length_map]; exact hP.1
        rw [hlm, List.take_length] at hp6
        refine ⟨" | ", p5, es.map fun e => brc ["or"] (kw e) (tx e), rfl, rfl, SqL.of hp6, ?_, (by show 2 ≤ sizeLine; decide), fun p7 hp7 => ?_⟩
        · have h9 := txs_len ["or"] (ofL es) hws
          rw [txs_of, szs_of] at h9
          show _ + _ * 3 ≤ _
          (first | lia | omega)
        have s26 := s25.trans sm
        have s8 : Same H6 (upd H6 p7 (.tup [.ref p4, .str (Txt.join " | " (es.map fun e => brc ["or"] (kw e) (tx e)))])) := Same.new hp7
        have s27 := s26.trans s8
        have etx : tx (.several false (ofL es)) = Txt.join " | " (es.map fun e => brc ["or"] (kw e) (tx e)) := by
          rw [tx]
          show Txt.join " | " (txs ["or"] (ofL es)) = _
          rw [txs_of]
        refine q p7 p4 (.several false (ofL es)) i' lf' _ (((b1.trans bt).trans (But.same s27))) (s27 _ _ hst) hi' hlf' ⟨?_, .several (q := r3) (vs := qs.map V.ref) ?_ ?_ (reps.mono ((s5.trans sm).trans s8).tk), hws⟩ ?_ ?_ (Wl_of _ (by (first | lia | omega)) hwl) (by have := bx_sev false es; (first | lia | omega))
        · rw [etx]; exact upd_same
        · exact s8 _ _ (sm _ _ e4)
        · exact s8 _ _ (sm _ _ (s5 _ _ e3))
        · show ((szs (ofL es) + 1 : Nat) : Int) + 2 * lf' ≤ _
          rw [szs_of]
          (first | lia | omega)
        · show ((dps (ofL es) + 1 : Nat) : Int) < room
          have := dps_of es (by (first | lia | omega)) hdp
          (first | lia | omega)
set_option maxHeartbeats 4000000 in
theorem ok_l_made (n : Nat) (B : ∀ x ∈ blts, mg x = none) (g_l_next : Has P w K mg base "_law_next" ["_law_script", "_law_state"] 1 (spNext K)) (g_l_leaf : Has P w K mg base "_law_leaf" ["_law_cell", "_law_room", "_law_some"] 2 spLeaf) (g_l_several : Has P w K mg base "_law_several" ["_law_script", "_law_state", "_law_room", "_law_cell", "_law_names_here"] (2 * n + 5) (spSeveral K n))
    (g_l_made : Has P w K mg base "_law_made" ["_law_script", "_law_state", "_law_room", "_law_names_here"] (2 * n + 4) (spMade K n)) (g_l_word : Has P w K mg base "_law_word" ["_law_cell", "_law_letters"] 1 spWd) (g_l_braced : Has P w K mg base "_law_braced" ["_law_made_here", "_law_words"] 1 (spBraced K)) (F : Fun K "_law_made" "_law_made" s_l_made f fd) : FnOk P w K mg base CX0 (2 * n + 6) f fd ["_law_script", "_law_state", "_law_room", "_law_names_here"] (spMade K (n + 1)) := by
  refine F.ok sc_l_made (fun vs H Q E h => ?_) (fun cdv A outer s H vs Q E hr h => ?_)
  · obtain ⟨a, ns, st, i, lf, room, nh, ot, al, rfl, _⟩ := h
    rfl
  obtain ⟨a, ns, st, i, lf, room, nh, ot, al, rfl, hS, hl100, hr0, hrn, hN, q⟩ := h
  have hu := hu_room hr
  refine ⟨_, (pss_cons (ps_set (i := 4) sc_l_made.nd rfl (Or.inl rfl) (pe_has g_l_next hr rfl (pa_cons (pv 0) (pa_cons (pv 1) pa_nil)) (by (first | lia | omega))))
    (pss_cons (ps_set (i := 5) sc_l_made.nd rfl (Or.inl rfl) (pe_op op_mod (pv 4) pe_int))
    (pss_cons (ps_if (PW.pt (pw_or (pt_cmpR op_lt (pv 5) pe_int (nomark _)) (pw_or (pt_cmpR op_lt (pv 2) pe_int (nomark _)) (pw_or1 (pt_cmpR op_lt (pe_ix ix_list (pv 1) pe_int (fun _ _ => rfl)) pe_int (nomark _))))))
      (pss_one (ps_ret (pe_has g_l_leaf hr rfl (pa_cons (pe_op op_fdiv (pv 4) pe_int) (pa_cons (pv 2) (pa_cons (pe_ix ix_tup (pv 3) pe_int (fun _ _ => rfl)) pa_nil))) (by (first | lia | omega)))))
      pss_nil)
    (pss_cons (ps_if (PW.pt (pw_or (pt_cmpR op_eq (pv 5) pe_int (nomark _)) (pw_or1 (pt_cmpR op_eq (pv 5) pe_int (nomark _)))))
      (pss_one (ps_ret (pe_has g_l_several hr rfl (pa_cons (pv 0) (pa_cons (pv 1) (pa_cons (pv 2) (pa_cons (pv 4) (pa_cons (pv 3) pa_nil))))) (by (first | lia | omega)))))
      pss_nil)
    (pss_cons (ps_asg (pe_op op_sub (pe_ix ix_list (pv 1) pe_int (fun _ _ => rfl)) pe_int) (pg_sub (pv 1) pe_int set_list))
    (pss_cons (ps_if (pt_cmpR op_eq (pv 5) pe_int (nomark _))
      (pss_cons (ps_set (i := 6) sc_l_made.nd rfl (Or.inl rfl) (pe_has g_l_made hr rfl (pa_cons (pv 0) (pa_cons (pv 1) (pa_cons (pe_op op_sub (pv 2) pe_int) (pa_cons (pe_tup (pa_cons (pe_ix ix_tup (pv 3) pe_int (fun _ _ => rfl)) (pa_cons (pe_ix ix_tup (pv 3) pe_int (fun _ _ => rfl)) pa_nil))) pa_nil)))) (by (first | lia | omega))))
        (pss_cons (ps_set (i := 7) sc_l_made.nd rfl (Or.inl rfl) (pe_has g_l_word hr rfl (pa_cons (pe_op op_fdiv (pv 4) pe_int) (pa_cons pe_str pa_nil)) (by (first | lia | omega))))
        (pss_cons (ps_if (pt_cmpR (op_eqN hu) (pe_ix ix_tup (pv 6) pe_int (fun _ _ => rfl)) (pe_tup (pa_cons pe_str pa_nil)) (nomark _))
          (pss_one (ps_ret (pe_tup (pa_cons (pe_tup (pa_cons pe_str (pa_cons (pv 7) (pa_cons (pe_ix ix_tup (pv 6) pe_int (fun _ _ => rfl)) pa_nil)))) (pa_cons (pv 7) pa_nil)))))
          pss_nil)
        (pss_one (ps_ret (pe_tup (pa_cons (pe_tup (pa_cons pe_str (pa_cons (pv 7) (pa_cons (pe_ix ix_tup (pv 6) pe_int (fun _ _ => rfl)) pa_nil)))) (pa_cons (pe_op op_add_str (pe_op op_add_str (pe_op op_add_str (pv 7) pe_str) (pe_ix ix_tup (pv 6) pe_int (fun _ _ => rfl))) pe_str) pa_nil))))))))
      pss_nil)
    (pss_cons (ps_set (i := 6) sc_l_made.nd rfl (Or.inl rfl) (pe_has g_l_made hr rfl (pa_cons (pv 0) (pa_cons (pv 1) (pa_cons (pe_op op_sub (pv 2) pe_int) (pa_cons (pv 3) pa_nil)))) (by (first | lia | omega))))
    (pss_cons (ps_set (i := 8) sc_l_made.nd rfl (Or.inl rfl) (pe_ix ix_list (pe_lst (pa_cons pe_str (pa_cons pe_str (pa_cons pe_str pa_nil)))) (pe_op op_sub (pv 5) pe_int) (fun _ _ => rfl)))
    (pss_cons (ps_set (i := 9) sc_l_made.nd rfl (Or.inl rfl) (pe_ix ix_list (pe_lst (pa_cons pe_str (pa_cons pe_str (pa_cons pe_str pa_nil)))) (pe_op op_sub (pv 5) pe_int) (fun _ _ => rfl)))
    (pss_one (ps_ret (pe_tup (pa_cons (pe_tup (pa_cons (pv 9) (pa_cons (pe_ix ix_tup (pv 6) pe_int (fun _ _ => rfl)) pa_nil))) (pa_cons (pe_op op_add_str (pe_has g_l_braced hr rfl (pa_cons (pv 6) (pa_cons (pe_tup (pa_cons pe_str (pa_cons pe_str (pa_cons pe_str (pa_cons pe_str (pa_cons pe_str pa_nil)))))) pa_nil)) (by (first | lia | omega))) (pv 8)) pa_nil)))))))))))))), ?_⟩
  refine ⟨_, rfl, _, rfl, a, ns, st, i, lf, rfl, hS, fun cell => ?_⟩
  have b1 : But st H (upd H st (.lst [.int (i + 1), .int lf])) := But.up
  have hS1 : St20 K (upd H st (.lst [.int (i + 1), .int lf])) a ns st (i + 1) lf := hS.to b1 upd_same (by have := hS.i0; (first | lia | omega)) hS.l0
  have hN1 := hN.but b1 hS.at_
  generalize upd H st (.lst [.int (i + 1), .int lf]) = H1 at b1 hS1 hN1 ⊢
  obtain ⟨⟨xo, xa, hnh, hxo, hxa⟩, hoa, hal, hla, hlo⟩ := id hN1
  refine ⟨_, rfl, _, _, rfl, rfl, (by show (0 : Int) < 10; decide), ?_⟩
  have w0 := Int.emod_nonneg cell (by decide : (10 : Int) ≠ 0)
  have w9 := Int.emod_lt_of_pos cell (by decide : (0 : Int) < 10)
  have leaf : ∀ D : Ends, D.rt = Q → tRet (tCall spLeaf [] E0 (tCons (tOp (rI CDiv fun i j => V.int (i / j)) (tVar 4) (tC (V.int 10))) (tCons (tVar 2) (tCons (tOp (rIxT K) (tVar 3) (tC (V.int 0))) tNil)))) D [some (.ref a), some (.ref st), some (.int room), some (.ref nh), some (.int cell), some (.int (cell % 10)), none, none, none, none] H1 := by
    intro D hD
    refine ⟨_, rfl, _, _, rfl, rfl, ⟨by decide, by decide⟩, _, rfl, _, rfl, nh, _, 0, _, rfl, rfl, SqT.of hnh, rfl, _, room, xo, ot, rfl, hxo, hlo, fun n hn => hal n (hoa n hn), hr0, fun r p e H' s' hp hsz hdp hwf hnm hb => ?_⟩
    rw [hD]
    exact q r p e (i + 1) lf H' (b1.trans (But.same s')) (s' _ _ hS1.at_) hS1.i0 hS1.l0 hp (by (first | lia | omega)) hdp ⟨hwf, hnm false, fun n hn => hoa n (hnm true n hn)⟩ (by (first | lia | omega))
  refine ⟨_, rfl, _, _, rfl, rfl, _, rfl, ite2 (fun _ => iteT (leaf _ rfl)) (fun c4 => ?_)⟩
  refine ⟨_, rfl, _, _, rfl, rfl, _, rfl, ite2 (fun _ => iteT (leaf _ rfl)) (fun c2 => ?_)⟩
  refine ⟨_, rfl, st, _, 1, _, rfl, rfl, SqL.of hS1.at_, rfl, _, _, rfl, rfl, _, rfl, ite2 (fun _ => leaf _ rfl) (fun cl => ?_)⟩
  have h4 : 4 ≤ cell % 10 := by
    have : ¬ (cell % 10 < 4) := fun z => c4 (decide_eq_true z)
    (first | lia | omega)
  have h2 : 2 ≤ room := by
    have : ¬ (room < 2) := fun z => c2 (decide_eq_true z)
    (first | lia | omega)
  have hl2 : 2 ≤ lf := by
    have : ¬ (lf < 2) := fun z => cl (decide_eq_true z)
    (first | lia | omega)
  have sev : ∀ D : Ends, D.rt = Q → tRet (tCall (spSeveral K n) [] E0 (tCons (tVar 0) (tCons (tVar 1) (tCons (tVar 2) (tCons (tVar 4) (tCons (tVar 3) tNil)))))) D [some (.ref a), some (.ref st), some (.int room), some (.ref nh), some (.int cell), some (.int (cell % 10)), none, none, none, none] H1 := by
    intro D hD
    refine ⟨_, rfl, _, rfl, _, rfl, _, rfl, _, rfl, a, ns, st, i + 1, lf, room, cell, nh, ot, al, rfl, hS1, hl2, hl100, by (first | lia | omega), by (first | lia | omega), hN1, fun r p e i' lf' H' b' h' k1 k2 hp hsz hdp hwl hbx => ?_⟩
    rw [hD]
    exact q r p e i' lf' H' (b1.trans b') h' k1 k2 hp hsz hdp hwl hbx
  refine ⟨_, rfl, rfl, _, rfl, ite2 (fun _ => iteT (sev _ rfl)) (fun c5 => ?_)⟩
  refine ⟨_, rfl, rfl, _, rfl, ite2 (fun _ => sev _ rfl) (fun c6 => ?_)⟩
  have n5 : cell % 10 ≠ 5 := fun z => c5 (decide_eq_true (congrArg V.int z))
  have n6 : cell % 10 ≠ 6 := fun z => c6 (decide_eq_true (congrArg V.int z))
  -- one less, and the part
  refine ⟨_, rfl, st, _, 1, _, rfl, rfl, SqL.of hS1.at_, rfl, _, _, rfl, rfl, _, rfl, st, _, 1, 1, rfl, rfl, hS1.at_, rfl, ?_⟩
  have b2 : But st H1 (upd H1 st (.lst ([V.int (i + 1), .int lf].set 1 (.int (lf - 1))))) := But.up
  have hS2 : St20 K (upd H1 st (.lst ([V.int (i + 1), .int lf].set 1 (.int (lf - 1))))) a ns st (i + 1) (lf - 1) := hS1.to b2 upd_same hS1.i0 (by (first | lia | omega))
  have hN2 := hN1.but b2 hS1.at_
  generalize upd H1 st (.lst ([V.int (i + 1), .int lf].set 1 (.int (lf - 1)))) = H2 at b2 hS2 hN2 ⊢
  refine ⟨_, rfl, rfl, _, rfl, ite2 (fun c => ?_) (fun c7 => ?_)⟩
  · -- a tag
    obtain ⟨⟨xo, xa, hnh, hxo, hxa⟩, _⟩ := id hN2
    refine ⟨_, rfl, _, rfl, _, rfl, _, _, rfl, rfl, _, rfl, nh, _, 1, _, rfl, rfl, SqT.of hnh, rfl, _, rfl, nh, _, 1, _, rfl, rfl, SqT.of hnh, rfl, (by show 2 ≤ sizeLine; decide), fun nt hnt => ?_⟩
    have s3 : Same H2 (upd H2 nt (.tup [.ref xa, .ref xa])) := Same.new hnt
    have hN3 : NmR (upd H2 nt (.tup [.ref xa, .ref xa])) nt al al := ⟨⟨xa, xa, upd_same, s3 _ _ hxa, s3 _ _ hxa⟩, fun _ h => h, hal, hla, hla⟩
    have hS3' : St20 K (upd H2 nt (.tup [.ref xa, .ref xa])) a ns st (i + 1) (lf - 1) := hS2.to (But.same s3) (s3 _ _ hS2.at_) hS2.i0 hS2.l0
    generalize upd H2 nt (.tup [.ref xa, .ref xa]) = H2' at s3 hN3 hS3' ⊢
    refine ⟨a, ns, st, i + 1, lf - 1, room - 1, nt, al, al, rfl, hS3', by (first | lia | omega), by (first | lia | omega), by (first | lia | omega), hN3, fun r p e i2 lf2 H3 b3 hst3 k1 k2 hp hsz hdp hwl hbx => ?_⟩
    have b13 := (b1.trans (b2.trans (But.same s3))).trans b3
    have hlen := tx_len e hp.2.2
    have hse : sz e ≤ 200 := by (first | lia | omega)
    obtain ⟨rr, htop, hre⟩ := hp.2.1.top
    refine ⟨_, rfl, _, _, rfl, rfl, ⟨by decide, by decide⟩, _, _, rfl, lets26, fun t t1 t8 hx => ?_⟩
    have s4 : Same H3 H3 := Same.refl H3
    generalize hH4 : H3 = H4 at s4 ⊢
    rw [hH4] at hp hst3 b3 b13 htop
    have s4 : Same H4 H4 := Same.refl H4
    have hp4 := hp.tk s4.tk
    refine ⟨_, rfl, r, _, 0, .ref p, rfl, rfl, SqT.of hp4.1, rfl, (by show 1 ≤ sizeLine; decide), fun tn htn => ⟨p, tn, kw e, rr, "nil", rfl, rfl, SqT.of ?_, SqT.of upd_same, ?_⟩⟩
    · rw [upd_ne (ne_of_none (s4 _ _ htop) htn)]
      exact s4 _ _ htop
    rw [hre, nil_kw]
    refine ⟨_, rfl, ?_⟩
    have s5 : Same H4 (upd H4 tn (.tup [.str "nil"])) := Same.new htn
    have s45 := s4.trans s5
    have hp5 := hp.tk s45.tk
    generalize upd H4 tn (.tup [.str "nil"]) = H5 at s5 s45 hp5 ⊢
    have fin : ∀ (z : Str), z = tx (.tag t e) → ∀ p1, H5 p1 = none → ∀ p2, (upd H5 p1 (.tup [.str "tag", .str t, .ref p])) p2 = none → Q (.ref p2) (upd (upd H5 p1 (.tup [.str "tag", .str t, .ref p])) p2 (.tup [.ref p1, .str z])) := by
      intro z hz p1 hp1 p2 hp2
      obtain ⟨n21, hp2'⟩ := upd_none hp2
      have s6 : Same H5 (upd (upd H5 p1 (.tup [.str "tag", .str t, .ref p])) p2 (.tup [.ref p1, .str z])) := (Same.new hp1).upd_new hp2'
      refine q p2 p1 (.tag t e) i2 lf2 _ ((b13.trans (But.same s45)).trans (But.same s6)) (s6 _ _ (s45 _ _ hst3)) k1 k2 ⟨?_, .tag (q := p) ?_ (hp5.tk s6.tk).2.1, ⟨t8, hp.2.2⟩⟩ ?_ ?_ ⟨⟨⟨lets_of t1 hx, t8⟩, hwl.1⟩, fun n hn => (nomatch hn), hwl.2.2⟩ ?_
      · rw [← hz]; exact upd_same
      · rw [upd_ne n21.symm]; exact upd_same
      · show ((sz e + 1 : Nat) : Int) + 2 * lf2 ≤ _; (first | lia | omega)
      · show ((dp e + 1 : Nat) : Int) < room; (first | lia | omega)
      · have h9 : (tx (.tag t e)).length ≤ t.length + 1 + (tx e).length + 1 := by
          rw [tx]
          split
          · (first | lia | omega)
          · rw [app_len, app_len, app_len]
            exact Nat.le_refl _
        have h10 : bx (.tag t e) = (tx (.tag t e)).length := rfl
        have h11 : (tx e).length ≤ bx e := Nat.le_add_right _ _
        rw [h10]
        (first | lia | omega)
    by_cases hn : isNil e = true
    · refine ite2 (fun _ => ?_) (fun y => absurd hn y)
      refine ⟨_, rfl, _, rfl, r, _, 0, .ref p, rfl, rfl, SqT.of hp5.1, rfl, (by show 3 ≤ sizeLine; decide), fun p1 hp1 => ⟨_, rfl, (by show 2 ≤ sizeLine; decide), fun p2 hp2 => fin t ?_ p1 hp1 p2 hp2⟩⟩
      rw [tx, if_pos hn]
    · refine ite2 (fun y => absurd y hn) (fun _ => ?_)
      refine ⟨_, rfl, _, rfl, r, _, 0, .ref p, rfl, rfl, SqT.of hp5.1, rfl, (by show 3 ≤ sizeLine; decide), fun p1 hp1 => ?_⟩
      have hr1 : (upd H5 p1 (.tup [.str "tag", .str t, .ref p])) r = some (.tup [.ref p, .str (tx e)]) := by rw [upd_ne (ne_of_none hp5.1 hp1)]; exact hp5.1
      refine ⟨_, rfl, _, _, rfl, rfl, len1000 (by show _ + 1 ≤ _; (first | lia | omega)), _, rfl, r, _, 1, .str (tx e), rfl, rfl, SqT.of hr1, rfl, _, _, rfl, rfl, len1000 (by rw [app_len]; show _ + 1 + _ ≤ _; (first | lia | omega)), _, _, rfl, rfl, len1000 (by rw [app_len, app_len]; show _ + 1 + _ + 1 ≤ _; (first | lia | omega)), (by show 2 ≤ sizeLine; decide), fun p2 hp2 => fin _ ?_ p1 hp1 p2 hp2⟩
      rw [tx, if_neg hn]
  · -- many, some, maybe
    have n4 : cell % 10 ≠ 4 := fun z => c7 (decide_eq_true (congrArg V.int z))
    refine ⟨_, rfl, _, rfl, _, rfl, _, _, rfl, rfl, _, rfl, a, ns, st, i + 1, lf - 1, room - 1, nh, ot, al, rfl, hS2, by (first | lia | omega), by (first | lia | omega), by (first | lia | omega), hN2, fun r p e i2 lf2 H3 b3 hst3 k1 k2 hp hsz hdp hwl hbx => ?_⟩
    have b13 := (b1.trans b2).trans b3
    have hlen := tx_len e hp.2.2
    have hse : sz e ≤ 200 := by (first | lia | omega)
    obtain ⟨rr, htop, hre⟩ := hp.2.1.top
    obtain ⟨m, hm⟩ : ∃ m : Nat, cell % 10 - 7 = (m : Int) := ⟨(cell % 10 - 7).toNat, by (first | lia | omega)⟩
    have m3 : m < 3 := by (first | lia | omega)
    have hmk : atI [V.str "*", .str "+", .str "?"] (cell % 10 - 7) = some (.str (repM m)) := by
      rw [hm]
      match m, m3 with
      | 0, _ => rfl
      | 1, _ => rfl
      | 2, _ => rfl
    have hmw : atI [V.str "many", .str "some", .str "maybe"] (cell % 10 - 7) = some (.str (repW m)) := by
      rw [hm]
      match m, m3 with
      | 0, _ => rfl
      | 1, _ => rfl
      | 2, _ => rfl
    refine ⟨(by show 3 ≤ sizeLine; decide), fun l1 hl1 => ⟨_, rfl, _, _, rfl, rfl, l1, _, _, _, rfl, rfl, SqL.of upd_same, hmk, ?_⟩⟩
    have s4 : Same H3 (upd H3 l1 (.lst [.str "*", .str "+", .str "?"])) := Same.new hl1
    generalize upd H3 l1 (.lst [.str "*", .str "+", .str "?"]) = H4 at s4 ⊢
    refine ⟨(by show 3 ≤ sizeLine; decide), fun l2 hl2 => ⟨_, rfl, _, _, rfl, rfl, l2, _, _, _, rfl, rfl, SqL.of upd_same, hmw, ?_⟩⟩
    have s5 : Same H3 (upd H4 l2 (.lst [.str "many", .str "some", .str "maybe"])) := s4.upd_new (s4.free hl2)
    generalize upd H4 l2 (.lst [.str "many", .str "some", .str "maybe"]) = H5 at s5 ⊢
    have hp5 := hp.tk s5.tk
    refine ⟨_, rfl, _, rfl, r, _, 0, .ref p, rfl, rfl, SqT.of hp5.1, rfl, (by show 2 ≤ sizeLine; decide), fun p1 hp1 => ?_⟩
    have s6 : Same H5 (upd H5 p1 (.tup [.str (repW m), .ref p])) := Same.new hp1
    have e6 : (upd H5 p1 (.tup [.str (repW m), .ref p])) p1 = some (.tup [.str (repW m), .ref p]) := upd_same
    generalize upd H5 p1 (.tup [.str (repW m), .ref p]) = H6 at s6 e6 ⊢
    refine ⟨_, rfl, (by show 5 ≤ sizeLine; decide), fun tf htf => ?_⟩
    have s7 : Same H6 (upd H6 tf (.tup (five.map V.str))) := Same.new htf
    have hb := brc_len five (kw e) (tx e)
    have h3 : (repM m).length = 1 := by unfold repM; split; rfl; split <;> rfl
    refine ⟨r, p, e, tf, five, rfl, hp5.tk (s6.trans s7).tk, hse, SqT.of upd_same, _, rfl, _, _, rfl, rfl, len1000 (by rw [h3]; (first | lia | omega)), (by show 2 ≤ sizeLine; decide), fun p2 hp2 => ?_⟩
    have s8 : Same (upd H6 tf (.tup (five.map V.str))) (upd (upd H6 tf (.tup (five.map V.str))) p2 (.tup [.ref p1, .str (brc five (kw e) (tx e) ++ repM m)])) := Same.new hp2
    have s58 := (s6.trans s7).trans s8
    refine q p2 p1 (.rep m e) i2 lf2 _ ((b13.trans (But.same s5)).trans (But.same s58)) (s58 _ _ (s5 _ _ hst3)) k1 k2 ⟨?_, .rep (q := p) (s8 _ _ (s7 _ _ e6)) (hp5.tk s58.tk).2.1, hp.2.2⟩ ?_ ?_ ⟨⟨by (first | lia | omega), hwl.1⟩, hwl.2⟩ ?_
    · rw [tx]; exact upd_same
    · show ((sz e + 1 : Nat) : Int) + 2 * lf2 ≤ _; (first | lia | omega)
    · show ((dp e + 1 : Nat) : Int) < room; (first | lia | omega)
    · have h9 := brc_bx (l := five) (fun _ h => h) e
      have h10 : bx (.rep m e) ≤ (brc five (kw e) (tx e)).length + 1 + 2 := by
        unfold bx
        rw [tx, app_len, h3]
        split <;> (first | lia | omega)
      (first | lia | omega)
/-! the law's names -/
theorem csl (t : Str) : (cs t).length = t.length := Array.length_toList
theorem cs_to {t : Str} {j : Int} (h0 : 0 ≤ j) (h : j ≤ t.length) : cs (PySem.StrLaws.sliceText t none (some j)) = (cs t).take j.toNat := by
  have hlt : t.cps.toList.length = t.length := by rw [Array.length_toList]; rfl
  rw [PySem.StrLaws.sliceText_to (x := t) (j := j) ⟨h0, by rw [hlt]; (first | lia | omega)⟩]
  show ((t.cps.toList.drop 0).take _).toArray.toList = _
  rw [List.drop_zero]
  simp [cs]
theorem cs_from {t : Str} {j : Int} (h0 : 0 ≤ j) (h : j ≤ t.length) : cs (PySem.StrLaws.sliceText t (some j) none) = (cs t).drop j.toNat := by
  have hlt : t.cps.toList.length = t.length := by rw [Array.length_toList]; rfl
  rw [PySem.StrLaws.sliceText_from (x := t) (i := j) ⟨h0, by rw [hlt]; (first | lia | omega)⟩]
  show (List.take _ (List.drop _ t.cps.toList)).toArray.toList = _
  simp only [List.toList_toArray]
  rw [List.take_of_length_le (by rw [List.length_drop, hlt]; (first | lia | omega))]
  rfl
theorem nodup_map_range {m : Nat} {g : Nat → Str} (h : ∀ i j, i < m → j < m → g i = g j → i = j) : ((List.range m).map g).Nodup := by
  refine List.pairwise_iff_getElem.mpr fun i j hi hj hij e => ?_
  rw [List.length_map, List.length_range] at hi hj
  rw [List.getElem_map, List.getElem_map, List.getElem_range, List.getElem_range] at e
  have := h i j hi hj e
  (first | lia | omega)
def spNames : Sp := fun vs H Q _ => ∃ (c : Int) (m : Nat), vs = [.int c, .int (m : Int)] ∧ m ≤ 8 ∧ ∀ (l : Addr) (ns : List Str) (H' : Hp), Same H H' → H l = none → H' l = some (.lst (ns.map V.str)) → ns.length = m → ns.Nodup → (∀ n ∈ ns, Upr n ∧ n.length ≤ 8) → Q (.ref l) H'
theorem great26 : (Str.ofString "ABCDEFGHIJKLMNOPQRSTUVWXYZ").cps.toList.length = 26 := by decide
theorem great_in : ∀ x ∈ cs (Str.ofString "ABCDEFGHIJKLMNOPQRSTUVWXYZ"), 65 ≤ x ∧ x ≤ 90 := by decide
theorem great_at (j : Nat) (h : j < 26) : atI (Str.ofString "ABCDEFGHIJKLMNOPQRSTUVWXYZ").cps.toList (j : Int) = some (65 + j) := by
  refine atI_nat ?_
  have : ∀ j : Fin 26, (Str.ofString "ABCDEFGHIJKLMNOPQRSTUVWXYZ").cps.toList[j.val]? = some (65 + j.val) := by decide
  exact this ⟨j, h⟩
theorem upr_of {t : Str} (h1 : 1 ≤ t.length) (h : ∀ x ∈ cs t, 65 ≤ x ∧ x ≤ 90) : Upr t := by
  refine ⟨fun z => ?_, h⟩
  have := csl t
  rw [z] at this
  have : 0 = t.length := this
  (first | lia | omega)
set_option maxHeartbeats 2000000 in
theorem ok_l_names (B : ∀ x ∈ blts, mg x = none) (g_l_word : Has P w K mg base "_law_word" ["_law_cell", "_law_letters"] 1 spWd) (F : Fun K "_law_names" "_law_names" s_l_names f fd) : FnOk P w K mg base CX0 2 f fd ["_law_cell", "_law_many"] spNames := by
  refine F.ok sc_l_names (fun vs H Q E h => ?_) (fun cdv A outer s H vs Q E hr h => ?_)
  · obtain ⟨c, m, rfl, _⟩ := h
    rfl
  obtain ⟨c, m, rfl, hm, q⟩ := h
  refine ⟨_, (pss_cons (ps_set (i := 2) sc_l_names.nd rfl (Or.inr rfl) pe_str)
    (pss_cons (ps_set (i := 3) sc_l_names.nd rfl (Or.inr rfl) (pe_has g_l_word hr rfl (pa_cons (pe_op op_fdiv (pv 0) pe_int) (pa_cons (pv 2) pa_nil))))
    (pss_cons (ps_if (pt_cmpR op_eq (pe_op op_mod (pv 0) pe_int) pe_int (nomark _))
      (pss_one (ps_ret (pe_comp (cl := _) ["_law_k"] [("_law_cell", 0), ("_law_base", 3)] (pi_range1 rfl (B "range" (by decide)) (pa_cons (pv 1) pa_nil)) (fun _ _ _ _ => (pg_name (i := 0) (show List.Nodup (["_law_k", "_law_cell", "_law_base"] : List Str) by decide) rfl (Or.inl rfl))) (fun _ _ _ _ => (pe_slice sl_str (pe_op op_mul_str (pv 2) pe_int) po_none (po_some (pe_op op_add pe_int (pe_op op_mod (pe_op op_add (pv 0) (pe_op op_fdiv (pv 1) pe_int)) pe_int))))) rfl rfl (by decide) rfl (by decide) (cap_cl (by (repeat' first | exact List.forall_mem_nil _ | refine List.forall_mem_cons.mpr ⟨?_, ?_⟩) <;> rfl)) (cap_has (by (repeat' first | exact List.forall_mem_nil _ | refine List.forall_mem_cons.mpr ⟨?_, ?_⟩) <;> first | (intro h; exact ⟨_, rfl⟩) | (intro h; exact absurd h (by decide)))) (fun _ => by (repeat' first | exact List.forall_mem_nil _ | refine List.forall_mem_cons.mpr ⟨?_, ?_⟩) <;> exact ⟨rfl, rfl, Or.inl rfl⟩) (fun _ => rfl))))
      pss_nil)
    (pss_cons (ps_set (i := 4) sc_l_names.nd rfl (Or.inr rfl) (pe_op op_mod (pe_op op_fdiv (pv 0) pe_int) (pe_callB call_len_str rfl (B "len" (by decide)) PySem.boot_len (pa_cons (pv 3) pa_nil))))
    (pss_one (ps_ret (pe_comp (cl := _) ["_law_k"] [("_law_cell", 0), ("_law_great", 2), ("_law_base", 3), ("_law_at", 4)] (pi_range1 rfl (B "range" (by decide)) (pa_cons (pv 1) pa_nil)) (fun _ _ _ _ => (pg_name (i := 0) (show List.Nodup (["_law_k", "_law_cell", "_law_great", "_law_base", "_law_at"] : List Str) by decide) rfl (Or.inl rfl))) (fun _ _ _ _ => (pe_op op_add_str (pe_op op_add_str (pe_slice sl_str (pv 3) po_none (po_some (pv 4))) (pe_ix ix_str (pv 2) (pe_op op_mod (pe_op op_add (pe_op op_fdiv (pv 1) pe_int) (pv 0)) pe_int) (fun _ _ => rfl))) (pe_slice sl_str (pv 3) (po_some (pe_op op_add (pv 4) pe_int)) po_none))) rfl rfl (by decide) rfl (by decide) (cap_cl (by (repeat' first | exact List.forall_mem_nil _ | refine List.forall_mem_cons.mpr ⟨?_, ?_⟩) <;> rfl)) (cap_has (by (repeat' first | exact List.forall_mem_nil _ | refine List.forall_mem_cons.mpr ⟨?_, ?_⟩) <;> first | (intro h; exact ⟨_, rfl⟩) | (intro h; exact absurd h (by decide)))) (fun _ => by (repeat' first | exact List.forall_mem_nil _ | refine List.forall_mem_cons.mpr ⟨?_, ?_⟩) <;> exact ⟨rfl, rfl, Or.inl rfl⟩) (fun _ => rfl)))))))), ?_⟩
  refine ⟨_, rfl, _, _, rfl, rfl, ⟨by decide, by decide⟩, _, rfl, _, _, rfl, great26, fun t t1 t8 hx => ?_⟩
  have hup : ∀ x ∈ cs t, 65 ≤ x ∧ x ≤ 90 := fun x h => great_in x (hx x h)
  have hct := csl t
  refine ⟨_, rfl, _, _, rfl, rfl, (by show (0 : Int) < 2; decide), rfl, _, rfl, ite2 (fun _ => ?_) (fun _ => ?_)⟩
  · have hrl : (repS t 8).length = 8 * t.length := repS_len t 8
    have k0 : ∀ i : Nat, 0 ≤ (0 + (i : Int) + c / 2) % 8 ∧ (0 + (i : Int) + c / 2) % 8 < 8 := fun i => ⟨Int.emod_nonneg _ (by decide), Int.emod_lt_of_pos _ (by decide)⟩
    have gcs : ∀ i : Nat, cs (PySem.StrLaws.sliceText (repS t 8) none (some (1 + (0 + (i : Int) + c / 2) % 8))) = (cs (repS t 8)).take (1 + (0 + (i : Int) + c / 2) % 8).toNat := fun i => cs_to (by have := (k0 i).1; (first | lia | omega)) (by have := (k0 i).2; rw [hrl]; (first | lia | omega))
    have glen : ∀ i : Nat, ((PySem.StrLaws.sliceText (repS t 8) none (some (1 + (0 + (i : Int) + c / 2) % 8))).length : Int) = 1 + (0 + (i : Int) + c / 2) % 8 := fun i => by
      have h1 := k0 i
      rw [← csl, gcs, List.length_take, csl, hrl]
      (first | lia | omega)
    refine ⟨_, rfl, (m : Int), rfl, by (first | lia | omega), by (first | lia | omega), fun pl hpl => comp_range (lo := 0) (n := (m : Int).toNat) (p := pl) (fun k ys σ H2 => ∃ v0 : Option V, σ = [v0, some (.int c), some (.str t)] ∧ Same H H2 ∧ H2 pl = some (.lst ys) ∧ ys = ((List.range k).map fun i : Nat => PySem.StrLaws.sliceText (repS t 8) none (some (1 + (0 + (i : Int) + c / 2) % 8))).map V.str)
      ⟨none, rfl, Same.new hpl, upd_same, rfl⟩ ?_ ?_ ?_⟩
    · rintro k ys σ H2 _ ⟨v0, _, _, h2, _⟩
      exact h2
    · rintro k ys σ H2 hk ⟨v0, rfl, sm, hp2, rfl⟩
      refine ⟨_, rfl, _, _, rfl, rfl, by decide, by decide, len1000 (by show 8 * _ ≤ _; (first | lia | omega)), _, rfl, _, rfl, _, _, rfl, rfl, ⟨by decide, by decide⟩, _, _, rfl, rfl, _, _, rfl, rfl, (by show (0 : Int) < 8; decide), _, _, rfl, rfl, _, rfl, _, rfl, len1000 (by rw [show (8 : Int).toNat = 8 from rfl, hrl]; (first | lia | omega)), hp2, len1000' (by rw [List.length_map, List.length_map, List.length_range]; (first | lia | omega)), CW.next hk ⟨_, rfl, sm.upd_new hpl, upd_same, ?_⟩⟩
      rw [List.range_succ, List.map_append, List.map_append]
      rfl
    · rintro ys σ H2 ⟨v0, _, sm, hp2, rfl⟩
      rw [Int.toNat_natCast] at hp2
      refine q pl _ H2 sm hpl hp2 (by rw [List.length_map, List.length_range]) (nodup_map_range fun i j hi hj e => ?_) (fun n hn => ?_)
      · have h1 := glen i
        have h2 := glen j
        rw [e] at h1
        (first | lia | omega)
      · obtain ⟨i, _, rfl⟩ := List.mem_map.mp hn
        have h1 := glen i
        have h2 := k0 i
        refine ⟨upr_of (by (first | lia | omega)) fun x hx => ?_, by (first | lia | omega)⟩
        rw [gcs] at hx
        have hx := List.mem_of_mem_take hx
        have : x ∈ (repS t 8).cps.toList := hx
        rw [repS_cps] at this
        obtain ⟨l, hl, hxl⟩ := List.mem_flatten.mp this
        rw [(List.mem_replicate.mp hl).2] at hxl
        exact hup x hxl
  · have tp : (0 : Int) < (t.length : Int) := by (first | lia | omega)
    have a0 := Int.emod_nonneg (c / 16) (Int.ne_of_gt tp)
    have a1 := Int.emod_lt_of_pos (c / 16) tp
    have gk : ∀ i : Nat, ∃ j : Nat, (c / 208 + (0 + (i : Int))) % 26 = (j : Int) ∧ j < 26 := fun i => ⟨((c / 208 + (0 + (i : Int))) % 26).toNat, by have := Int.emod_nonneg (c / 208 + (0 + (i : Int))) (by decide : (26 : Int) ≠ 0); (first | lia | omega), by have := Int.emod_lt_of_pos (c / 208 + (0 + (i : Int))) (by decide : (0 : Int) < 26); have := Int.emod_nonneg (c / 208 + (0 + (i : Int))) (by decide : (26 : Int) ≠ 0); (first | lia | omega)⟩
    have e1 : cs (PySem.StrLaws.sliceText t none (some (c / 16 % (t.length : Int)))) = (cs t).take (c / 16 % (t.length : Int)).toNat := cs_to a0 (by (first | lia | omega))
    have e2 : cs (PySem.StrLaws.sliceText t (some (c / 16 % (t.length : Int) + 1)) none) = (cs t).drop (c / 16 % (t.length : Int) + 1).toNat := cs_from (by (first | lia | omega)) (by (first | lia | omega))
    refine ⟨_, rfl, _, _, rfl, rfl, ⟨by decide, by decide⟩, _, rfl, t, rfl, len1000 (by (first | lia | omega)), _, _, rfl, rfl, tp, ?_⟩
    refine ⟨_, rfl, (m : Int), rfl, by (first | lia | omega), by (first | lia | omega), fun pl hpl => comp_range (lo := 0) (n := (m : Int).toNat) (p := pl) (fun k ys σ H2 => ∃ v0 : Option V, σ = [v0, some (.int c), some (.str "ABCDEFGHIJKLMNOPQRSTUVWXYZ"), some (.str t), some (.int (c / 16 % (t.length : Int)))] ∧ Same H H2 ∧ H2 pl = some (.lst ys) ∧ ys = ((List.range k).map fun i : Nat => PySem.StrLaws.sliceText t none (some (c / 16 % (t.length : Int))) ++ ⟨#[65 + ((c / 208 + (0 + (i : Int))) % 26).toNat]⟩ ++ PySem.StrLaws.sliceText t (some (c / 16 % (t.length : Int) + 1)) none).map V.str)
      ⟨none, rfl, Same.new hpl, upd_same, rfl⟩ ?_ ?_ ?_⟩
    · rintro k ys σ H2 _ ⟨v0, _, _, h2, _⟩
      exact h2
    · rintro k ys σ H2 hk ⟨v0, rfl, sm, hp2, rfl⟩
      obtain ⟨j, hj, hj26⟩ := gk k
      have hch : atI (Str.ofString "ABCDEFGHIJKLMNOPQRSTUVWXYZ").cps.toList ((c / 208 + (0 + (k : Int))) % 26) = some (65 + ((c / 208 + (0 + (k : Int))) % 26).toNat) := by
        rw [hj]
        exact great_at j hj26
      have l1 := congrArg List.length e1
      have l2 := congrArg List.length e2
      rw [csl, List.length_take, csl] at l1
      rw [csl, List.length_drop, csl] at l2
      refine ⟨_, rfl, _, rfl, _, rfl, _, rfl, len1000 (by (first | lia | omega)), ?_⟩
      refine ⟨_, rfl, _, rfl, _, _, rfl, rfl, ⟨by decide, by decide⟩, _, rfl, _, _, rfl, rfl, _, _, rfl, rfl, (by show (0 : Int) < 26; decide), _, _, _, rfl, rfl, len1000 (by decide), hch, _, _, rfl, rfl, ?_, ?_⟩
      · rw [l1]
        show _ + 1 ≤ sizeLine
        exact len1000 (by (first | lia | omega))
      refine ⟨_, rfl, _, rfl, _, _, rfl, rfl, _, rfl, _, rfl, len1000 (by (first | lia | omega)), _, _, rfl, rfl, ?_, hp2, len1000' (by rw [List.length_map, List.length_map, List.length_range]; (first | lia | omega)), CW.next hk ⟨_, rfl, sm.upd_new hpl, upd_same, ?_⟩⟩
      · rw [app_len, l1, l2]
        show _ + 1 + _ ≤ sizeLine
        exact len1000 (by (first | lia | omega))
      · rw [List.range_succ, List.map_append, List.map_append]
        rfl
    · rintro ys σ H2 ⟨v0, _, sm, hp2, rfl⟩
      rw [Int.toNat_natCast] at hp2
      refine q pl _ H2 sm hpl hp2 (by rw [List.length_map, List.length_range]) (nodup_map_range fun i j hi hj e => ?_) (fun n hn => ?_)
      · have e := congrArg cs e
        rw [cs_app, cs_app, cs_app, cs_app] at e
        have e := List.append_cancel_right e
        have e := List.append_cancel_left e
        have e : [65 + ((c / 208 + (0 + (i : Int))) % 26).toNat] = [65 + ((c / 208 + (0 + (j : Int))) % 26).toNat] := e
        injection e with e _
        (first | lia | omega)
      · obtain ⟨i, _, rfl⟩ := List.mem_map.mp hn
        have l1 := congrArg List.length e1
        have l2 := congrArg List.length e2
        rw [csl, List.length_take, csl] at l1
        rw [csl, List.length_drop, csl] at l2
        obtain ⟨j, hj, hj26⟩ := gk i
        refine ⟨upr_of ?_ fun x hx => ?_, ?_⟩
        · rw [app_len, app_len]
          show 1 ≤ _ + 1 + _
          (first | lia | omega)
        · rw [cs_app, cs_app, e1, e2] at hx
          rcases List.mem_append.mp hx with hx | hx
          · rcases List.mem_append.mp hx with hx | hx
            · exact hup x (List.mem_of_mem_take hx)
            · have : x = 65 + ((c / 208 + (0 + (i : Int))) % 26).toNat := List.mem_singleton.mp hx
              rw [hj] at this
              (first | lia | omega)
          · exact hup x (List.mem_of_mem_drop hx)
        · rw [app_len, app_len, l1, l2]
          show _ + 1 + _ ≤ 8
          (first | lia | omega)
/-! the law's books -/
def BkE (H : Hp) (vs : List V) (bk : List (Str × Ex)) : Prop := Paired (fun (v : V) (x : Str × Ex) => ∃ p q, v = .ref p ∧ H p = some (.tup [.str x.1, .ref q]) ∧ RepE H q x.2) vs bk
theorem BkE.tk {H H' : Hp} (k : TK H H') {vs : List V} {bk : List (Str × Ex)} (h : BkE H vs bk) : BkE H' vs bk := Paired.mapP h fun _ _ z => by
  obtain ⟨p, q, e, h1, h2⟩ := z
  exact ⟨p, q, e, k _ _ h1, h2.mono k⟩
mutual
theorem RepE.toK {K : PySem.W.Frag} {H : Hp} : ∀ {p : Addr} {e : Ex}, RepE H p e → RepK K H p e
  | _, _, .nil h => .nil (SqT.of h)
  | _, _, .tag h r => .tag (SqT.of h) (RepE.toK r)
  | _, _, .name h => .name (SqT.of h)
  | _, _, .several h1 h2 r => .several (SqT.of h1) (SqT.of h2) (RepEs.toK r)
  | _, _, .rep h r => .rep (SqT.of h) (RepE.toK r)
theorem RepEs.toK {K : PySem.W.Frag} {H : Hp} : ∀ {vs : List V} {ps : Exs}, RepEs H vs ps → RepKs K H vs ps
  | _, _, .nil => .nil
  | _, _, .cons h r => .cons (RepE.toK h) (RepEs.toK r)
end
theorem BkE.toK {K : PySem.W.Frag} {H : Hp} {vs : List V} {bk : List (Str × Ex)} (h : BkE H vs bk) : BkR K H vs bk := Paired.mapP h fun _ _ z => by
  obtain ⟨p, q, e, h1, h2⟩ := z
  exact ⟨p, q, e, h1, h2.toK⟩
def LK (names : List Str) (rs : List Int) (k : Nat) (n : Str) : Prop := ∃ (j : Nat) (r r' : Int), names[j]? = some n ∧ rs[j]? = some r ∧ rs[k]? = some r' ∧ r' < r
def rkF : List Str → List Int → Str → Int
  | n :: ns, r :: rs, x => if n = x then r else rkF ns rs x
  | _, _, _ => 0
theorem rkF_at : ∀ {ns : List Str} {rs : List Int} {j : Nat} {n : Str} {r : Int}, ns.Nodup → ns[j]? = some n → rs[j]? = some r → rkF ns rs n = r
  | [], _, _, _, _, _, h, _ => by simp at h
  | _ :: _, [], _, _, _, _, _, h => by simp at h
  | a :: ns, b :: rs, 0, n, r, _, h1, h2 => by
    cases h1
    cases h2
    rw [rkF, if_pos rfl]
  | a :: ns, b :: rs, j + 1, n, r, hn, h1, h2 => by
    rw [List.nodup_cons] at hn
    have h1 : ns[j]? = some n := by simpa using h1
    have h2 : rs[j]? = some r := by simpa using h2
    rw [rkF, if_neg (fun z => hn.1 (by rw [z]; exact List.mem_of_getElem? h1))]
    exact rkF_at hn.2 h1 h2
def bxS (bk : List (Str × Ex)) : Nat := (bk.map fun x => bx x.2).sum
theorem prT_bx : ∀ {bk : List (Str × Ex)}, (∀ x ∈ bk, x.1.length ≤ 8) → ((bk.map prT).map (·.length)).sum ≤ 11 * bk.length + bxS bk
  | [], _ => Nat.le_refl _
  | x :: bk, h => by
    have h1 := h x (List.mem_cons_self ..)
    have h2 := prT_bx (bk := bk) fun y hy => h y (List.mem_cons_of_mem _ hy)
    have h3 : (tx x.2).length ≤ bx x.2 := Nat.le_add_right _ _
    have h4 : (prT x).length = x.1.length + 3 + (tx x.2).length := by
      unfold prT
      rw [app_len, app_len]
      rfl
    unfold bxS at h2 ⊢
    simp only [List.map_cons, List.sum_cons, List.length_cons]
    (first | lia | omega)
theorem bkT_len {bk : List (Str × Ex)} (h : ∀ x ∈ bk, x.1.length ≤ 8) : (bkT bk).length ≤ 13 * bk.length + bxS bk := by
  have h1 := prT_bx h
  have h2 := len_le_sum "; " (bk.map prT)
  rw [List.length_map] at h2
  have h3 : bk.length * (Str.ofString "; ").length = bk.length * 2 := rfl
  unfold bkT
  (first | lia | omega)
theorem bk_ok {bk : List (Str × Ex)} {names : List Str} {rs : List Int} {m : Nat} (m1 : 1 ≤ m) (m8 : m ≤ 8) (hbn : bk.map (·.1) = names) (hnl : names.length = m) (hrl : rs.length = m) (hnd : names.Nodup) (hr0 : ∀ r ∈ rs, 0 ≤ r) (hbx : (bxS bk : Int) ≤ 8 * m + 140) (h1 : ∀ x ∈ bk, Bk1 x ∧ Bk2 x ∧ ∀ n ∈ nm true x.2, n ∈ names) (h2 : ∀ (i : Nat) x, bk[i]? = some x → ∀ n ∈ nm false x.2, LK names rs i n) : BkOk bk := by
  have hbl : bk.length = m := by rw [← hnl, ← hbn, List.length_map]
  refine ⟨by (first | lia | omega), by (first | lia | omega), ?_, fun x hx => ⟨(h1 x hx).1, (h1 x hx).2.1⟩, by rw [hbn]; exact hnd, fun x hx n hn => by rw [hbn]; exact (h1 x hx).2.2 n hn, fun n => (rkF names rs n).toNat, fun x hx n hn => ?_⟩
  · have := bkT_len (bk := bk) fun x hx => (h1 x hx).1.1
    (first | lia | omega)
  · obtain ⟨i, hi, he⟩ := List.getElem_of_mem hx
    have hx1 : bk[i]? = some x := by rw [List.getElem?_eq_getElem hi, he]
    have hxn : names[i]? = some x.1 := by rw [← hbn, List.getElem?_map, hx1]; rfl
    obtain ⟨j, r, r', e1, e2, e3, hlt⟩ := h2 i x hx1 n hn
    show (rkF names rs x.1).toNat < (rkF names rs n).toNat
    rw [rkF_at hnd hxn e3, rkF_at hnd e1 e2]
    have := hr0 r' (List.mem_of_getElem? e3)
    (first | lia | omega)
theorem int_at {rs : List Int} {j : Nat} {r : Int} (h : rs[j]? = some r) : atI (rs.map V.int) (0 + (j : Int)) = some (.int r) := by
  rw [Int.zero_add]
  exact atI_nat (by rw [List.getElem?_map, h]; rfl)
theorem str_at {rs : List Str} {j : Nat} {r : Str} (h : rs[j]? = some r) : atI (rs.map V.str) (0 + (j : Int)) = some (.str r) := by
  rw [Int.zero_add]
  exact atI_nat (by rw [List.getElem?_map, h]; rfl)
theorem SqL.apart {K : PySem.W.Frag} {H : Hp} {a b : Addr} {xs : List V} (h : SqL K H a xs) (n : H b = none) : a ≠ b ∨ ∀ H', SqL K H' a xs := by
  rcases h with (h | ⟨o, h⟩) | h
  · exact .inl fun z => by rw [z, n] at h; cases h
  · exact .inl fun z => by rw [z, n] at h; cases h
  · exact .inr fun _ => .inr h
def spBook (K : PySem.W.Frag) : Sp := fun vs H Q _ => ∃ (a : Addr) (ns : List Int) (st : Addr) (i lf : Int), vs = [.ref a, .ref st] ∧ St20 K H a ns st i lf ∧
  ∀ (r qa : Addr) (bk : List (Str × Ex)) (ws : List V) (i' lf' : Int) (H' : Hp), But st H H' → H' st = some (.lst [.int i', .int lf']) → -1 ≤ i' → 0 ≤ lf' → H' r = some (.tup [.ref qa, .str (bkT bk)]) → H' qa = some (.tup ws) → BkE H' ws bk → BkOk bk → Q (.ref r) H'
/-- what stands behind the names and the ranks -/
def BkH (K : PySem.W.Frag) (H : Hp) (a : Addr) (ns : List Int) (st : Addr) (lf : Int) (σ' : St) (H' : Hp) : Prop := ∃ (cell : Int) (m : Nat) (ln lr : Addr) (names : List Str) (rs : List Int) (i' : Int), σ' = [some (.ref a), some (.ref st), some (.int cell), some (.int (m : Int)), some (.ref ln), some (.ref lr), none, none, none, none, none] ∧ But st H H' ∧ St20 K H' a ns st i' lf ∧ 1 ≤ m ∧ m ≤ 8 ∧ H' ln = some (.lst (names.map V.str)) ∧ names.length = m ∧ names.Nodup ∧ (∀ n ∈ names, Upr n ∧ n.length ≤ 8) ∧ H' lr = some (.lst (rs.map V.int)) ∧ rs.length = m ∧ (∀ r ∈ rs, 0 ≤ r) ∧ ln ≠ st ∧ lr ≠ st
theorem St20.upd {K : PySem.W.Frag} {H : Hp} {a st b : Addr} {ns : List Int} {i lf : Int} {o : HO} (h : St20 K H a ns st i lf) (n : a ≠ b ∨ ∀ H', SqL K H' a (ns.map V.int)) (nb : b ≠ st) : St20 K (upd H b o) a ns st i lf := ⟨SqL.off h.scr n, h.l63, h.ne, by rw [upd_ne nb.symm]; exact h.at_, h.i0, h.l0⟩
/-- all but the state and the two lists stays -/
def But3 (st pl tl : Addr) (H H' : Hp) : Prop := ∀ b o, b ≠ st → b ≠ pl → b ≠ tl → H b = some o → H' b = some o
/-- pairs and texts so far -/
def BkI (K : PySem.W.Frag) (H4 : Hp) (a : Addr) (ns : List Int) (st pl tl : Addr) (names : List Str) (rs : List Int) (k : Nat) (H5 : Hp) : Prop := ∃ (bk : List (Str × Ex)) (vs : List V) (i5 lf5 : Int), But3 st pl tl H4 H5 ∧ St20 K H5 a ns st i5 lf5 ∧ lf5 ≤ 14 ∧ H5 pl = some (.lst vs) ∧ BkE H5 vs bk ∧ H5 tl = some (.lst ((bk.map prT).map V.str)) ∧ bk.map (·.1) = names.take k ∧ (bxS bk : Int) + 10 * lf5 ≤ 8 * k + 140 ∧ (∀ x ∈ bk, Bk1 x ∧ Bk2 x ∧ ∀ n ∈ nm true x.2, n ∈ names) ∧ ∀ (i : Nat) x, bk[i]? = some x → ∀ n ∈ nm false x.2, LK names rs i n
set_option maxHeartbeats 4000000 in
theorem ok_l_book (B : ∀ x ∈ blts, mg x = none) (g_l_next : Has P w K mg base "_law_next" ["_law_script", "_law_state"] 1 (spNext K)) (g_l_names : Has P w K mg base "_law_names" ["_law_cell", "_law_many"] 2 spNames) (g_l_made : Has P w K mg base "_law_made" ["_law_script", "_law_state", "_law_room", "_law_names_here"] 30 (spMade K 13)) (F : Fun K "_law_book" "_law_book" s_l_book f fd) : FnOk P w K mg base CX0 31 f fd ["_law_script", "_law_state"] (spBook K) := by
  refine F.ok sc_l_book (fun vs H Q E h => ?_) (fun cdv A outer s H vs Q E hr h => ?_)
  · obtain ⟨a, ns, st, i, lf, rfl, _⟩ := h
    rfl
  obtain ⟨a, ns, st, i, lf, rfl, hS, q⟩ := h
  refine cut 5 (BkH K H a ns st lf) ⟨_, (pss_cons (ps_asg pe_int (pg_sub (pv 1) pe_int set_list))
    (pss_cons (ps_set (i := 6) sc_l_book.nd rfl (Or.inl rfl) (pe_lst pa_nil))
    (pss_cons (ps_set (i := 7) sc_l_book.nd rfl (Or.inl rfl) (pe_lst pa_nil))
    (pss_cons (ps_for PassesOwn.never rfl (pi_range1 rfl (B "range" (by decide)) (pa_cons (pv 3) pa_nil)) (pg_name (i := 8) sc_l_book.nd rfl (Or.inr rfl))
      (pss_cons (ps_set_comp_if (cl := _) (n0 := 9) sc_l_book.nd rfl (Or.inl rfl) ["_law_j"] [("_law_names_here", 4), ("_law_ranks", 5), ("_law_k", 8)] (pi_range1 rfl (B "range" (by decide)) (pa_cons (pv 3) pa_nil)) (fun _ _ _ _ => (pg_name (i := 0) (show List.Nodup (["_law_j", "_law_names_here", "_law_ranks", "_law_k"] : List Str) by decide) rfl (Or.inl rfl))) (fun _ _ _ _ => (pt_cmpR op_gt (pe_ix (ix_listK (K := K) rfl) (pv 2) (pv 0) (fun _ _ => rfl)) (pe_ix (ix_listK (K := K) rfl) (pv 2) (pv 3) (fun _ _ => rfl)) (nomark _))) (fun _ _ _ _ => (pe_ix (ix_listK (K := K) rfl) (pv 1) (pv 0) (fun _ _ => rfl))) rfl rfl (by decide) rfl (by decide) (cap_cl (by (repeat' first | exact List.forall_mem_nil _ | refine List.forall_mem_cons.mpr ⟨?_, ?_⟩) <;> rfl)) (cap_has (by (repeat' first | exact List.forall_mem_nil _ | refine List.forall_mem_cons.mpr ⟨?_, ?_⟩) <;> first | (intro h; exact ⟨_, rfl⟩) | (intro h; exact absurd h (by decide)))) (fun _ => by (repeat' first | exact List.forall_mem_nil _ | refine List.forall_mem_cons.mpr ⟨?_, ?_⟩) <;> exact ⟨rfl, rfl, Or.inl rfl⟩) (fun _ => rfl) rfl)
        (pss_cons (ps_set (i := 10) sc_l_book.nd rfl (Or.inl rfl) (pe_has g_l_made hr rfl (pa_cons (pv 0) (pa_cons (pv 1) (pa_cons pe_int (pa_cons (pe_tup (pa_cons (pv 9) (pa_cons (pv 4) pa_nil))) pa_nil))))))
        (pss_cons (ps_expr (pe_bm PySem.F.plainAttrs_list PySem.F.slot_list_append PySem.F.type_list_append mt_append (pv 6) (pa_cons (pe_tup (pa_cons (pe_ix ix_list (pv 4) (pv 8) (fun _ _ => rfl)) (pa_cons (pe_ix ix_tup (pv 10) pe_int (fun _ _ => rfl)) pa_nil))) pa_nil)))
        (pss_one (ps_expr (pe_bm PySem.F.plainAttrs_list PySem.F.slot_list_append PySem.F.type_list_append mt_append (pv 7) (pa_cons (pe_op op_add_str (pe_op op_add_str (pe_ix ix_list (pv 4) (pv 8) (fun _ _ => rfl)) pe_str) (pe_ix ix_tup (pv 10) pe_int (fun _ _ => rfl))) pa_nil))))))))
    (pss_one (ps_ret (pe_tup (pa_cons (pe_callTy call_tuple_of rfl (B "tuple" (by decide)) bt_tuple (pa_cons (pv 6) pa_nil)) (pa_cons (pe_bm PySem.F.plainAttrs_str PySem.F.slot_str_join PySem.F.type_str_join mt_join pe_str (pa_cons (pv 7) pa_nil)) pa_nil))))))))), ?_⟩ (fun u hv0 hR => ⟨_, (pss_cons (ps_set (i := 2) sc_l_book.nd rfl (Or.inr rfl) (pe_has g_l_next hr rfl (pa_cons (pv 0) (pa_cons (pv 1) pa_nil))))
    (pss_cons (ps_set (i := 3) sc_l_book.nd rfl (Or.inr rfl) (pe_op op_add pe_int (pe_op op_mod (pv 2) pe_int)))
    (pss_cons (ps_set (i := 4) sc_l_book.nd rfl (Or.inr rfl) (pe_has g_l_names hr rfl (pa_cons (pe_has g_l_next hr rfl (pa_cons (pv 0) (pa_cons (pv 1) pa_nil))) (pa_cons (pv 3) pa_nil))))
    (pss_cons (ps_set (i := 5) sc_l_book.nd rfl (Or.inr rfl) (pe_comp (cl := _) ["_law_k"] [("_law_cell", 2), ("_law_many", 3)] (pi_range1 rfl (B "range" (by decide)) (pa_cons (pv 3) pa_nil)) (fun _ _ _ _ => (pg_name (i := 0) (show List.Nodup (["_law_k", "_law_cell", "_law_many"] : List Str) by decide) rfl (Or.inl rfl))) (fun _ _ _ _ => (pe_op op_mod (pe_op op_add (pv 0) (pe_op op_fdiv (pv 1) pe_int)) (pv 2))) rfl rfl (by decide) rfl (by decide) (cap_cl (by (repeat' first | exact List.forall_mem_nil _ | refine List.forall_mem_cons.mpr ⟨?_, ?_⟩) <;> rfl)) (cap_has (by (repeat' first | exact List.forall_mem_nil _ | refine List.forall_mem_cons.mpr ⟨?_, ?_⟩) <;> first | (intro h; exact ⟨_, rfl⟩) | (intro h; exact absurd h (by decide)))) (fun _ => by (repeat' first | exact List.forall_mem_nil _ | refine List.forall_mem_cons.mpr ⟨?_, ?_⟩) <;> exact ⟨rfl, rfl, Or.inl rfl⟩) (fun _ => rfl)))
    (pss_cons (ps_if (pt_cmpR op_eq (pe_op op_mod (pe_op op_fdiv (pv 2) pe_int) pe_int) pe_int (nomark _))
      (pss_one (ps_set (i := 5) sc_l_book.nd rfl (Or.inr rfl) (pe_comp (cl := _) ["_law_rank"] [("_law_many", 3)] (pi_list (pv 5)) (fun _ _ _ _ => (pg_name (i := 0) (show List.Nodup (["_law_rank", "_law_many"] : List Str) by decide) rfl (Or.inl rfl))) (fun _ _ _ _ => (pe_op op_sub (pe_op op_sub (pv 1) pe_int) (pv 0))) rfl rfl (by decide) rfl (by decide) (cap_cl (by (repeat' first | exact List.forall_mem_nil _ | refine List.forall_mem_cons.mpr ⟨?_, ?_⟩) <;> rfl)) (cap_has (by (repeat' first | exact List.forall_mem_nil _ | refine List.forall_mem_cons.mpr ⟨?_, ?_⟩) <;> first | (intro h; exact ⟨_, rfl⟩) | (intro h; exact absurd h (by decide)))) (fun _ => by (repeat' first | exact List.forall_mem_nil _ | refine List.forall_mem_cons.mpr ⟨?_, ?_⟩) <;> exact ⟨rfl, rfl, Or.inl rfl⟩) (fun _ => rfl))))
      pss_nil)
    hv0))))), ?_⟩)
  · rintro σ' H1 ⟨cell, m, ln, lr, names, rs, i1, rfl, b1, hS1, m1, m8, hln, hnl, hnd, hnu, hlr, hrl, hr0, nst, rst⟩
    refine ⟨_, rfl, st, _, 1, 1, rfl, rfl, hS1.at_, rfl, ?_⟩
    have b2 : But st H1 (upd H1 st (.lst ([V.int i1, .int lf].set 1 (.int 14)))) := But.up
    have hS2 : St20 K (upd H1 st (.lst ([V.int i1, .int lf].set 1 (.int 14)))) a ns st i1 14 := hS1.to b2 upd_same hS1.i0 (by decide)
    have hln2 := b2 _ _ nst hln
    have hlr2 := b2 _ _ rst hlr
    generalize upd H1 st (.lst ([V.int i1, .int lf].set 1 (.int 14))) = H2 at b2 hS2 hln2 hlr2 ⊢
    refine ⟨(by show 0 ≤ sizeLine; decide), fun pl hpl => ?_⟩
    have s3 : Same H2 (upd H2 pl (.lst [])) := Same.new hpl
    have e3 : upd H2 pl (.lst []) pl = some (.lst []) := upd_same
    have npl : pl ≠ st := (ne_of_none hS2.at_ hpl).symm
    have nlnp : ln ≠ pl := ne_of_none hln2 hpl
    have nlrp : lr ≠ pl := ne_of_none hlr2 hpl
    have apl := SqL.apart hS2.scr hpl
    generalize upd H2 pl (.lst []) = H3 at s3 e3 ⊢
    refine ⟨(by show 0 ≤ sizeLine; decide), fun tl htl => ?_⟩
    have s4 : Same H3 (upd H3 tl (.lst [])) := Same.new htl
    have e4 : upd H3 tl (.lst []) tl = some (.lst []) := upd_same
    have ntl : tl ≠ st := (ne_of_none (s3 _ _ hS2.at_) htl).symm
    have nlnt : ln ≠ tl := ne_of_none (s3 _ _ hln2) htl
    have nlrt : lr ≠ tl := ne_of_none (s3 _ _ hlr2) htl
    have nplt : pl ≠ tl := ne_of_none e3 htl
    have atl := SqL.apart (s3.seq hS2.scr) htl
    generalize upd H3 tl (.lst []) = H4 at s4 e4 ⊢
    have s24 := s3.trans s4
    have hln4 := s24 _ _ hln2
    have hlr4 := s24 _ _ hlr2
    have hS4 : St20 K H4 a ns st i1 14 := hS2.to (But.same s24) (s24 _ _ hS2.at_) hS2.i0 (by decide)
    refine ⟨_, rfl, (m : Int), rfl, by (first | lia | omega), by (first | lia | omega), for_range (lo := 0) (n := (m : Int).toNat) (fun k σ H5 => ∃ v8 v9 v10 : Option V, σ = [some (.ref a), some (.ref st), some (.int cell), some (.int (m : Int)), some (.ref ln), some (.ref lr), some (.ref pl), some (.ref tl), v8, v9, v10] ∧ BkI K H4 a ns st pl tl names rs k H5)
      ⟨none, none, none, rfl, [], [], i1, 14, (fun _ _ _ _ _ h => h), hS4, (by decide), s4 _ _ e3, .nil, e4, rfl, (by show (0 : Int) + 10 * 14 ≤ 8 * ((0 : Nat) : Int) + 140; decide), (fun _ h => nomatch h), (fun i x h => by simp at h)⟩ ?_ ?_⟩
    · rintro k σ H5 hk ⟨v8, v9, v10, rfl, bk, vs, i5, lf5, b5, hS5, hlf5, hpl5, hE5, htl5, hbn, hbx5, hk1, hk2⟩
      rw [Int.toNat_natCast] at hk
      have hln5 := b5 _ _ nst nlnp nlnt hln4
      have hlr5 := b5 _ _ rst nlrp nlrt hlr4
      have hkn : names[k]? = some names[k] := List.getElem?_eq_getElem (by (first | lia | omega))
      have hkr : rs[k]? = some rs[k] := List.getElem?_eq_getElem (by (first | lia | omega))
      have hbl : bk.length = k := by
        have := congrArg List.length hbn
        rw [List.length_map, List.length_take] at this
        (first | lia | omega)
      have hvl : vs.length = k := by rw [← hbl]; exact Paired.length hE5
      obtain ⟨hnk1, hnk2⟩ := hnu names[k] (List.getElem_mem (by (first | lia | omega)))
      refine ⟨_, rfl, (m : Int), rfl, by (first | lia | omega), by (first | lia | omega), fun p9 hp9 => comp_rangeT (lo := 0) (n := (m : Int).toNat) (p := p9) (fun j ys σ H6 => ∃ (v0 : Option V) (ot : List Str), σ = [v0, some (.ref ln), some (.ref lr), some (.int (0 + (k : Int)))] ∧ Same H5 H6 ∧ H6 p9 = some (.lst ys) ∧ ys = ot.map V.str ∧ ot.length ≤ j ∧ ∀ n ∈ ot, LK names rs k n)
        ⟨none, [], rfl, Same.new hp9, upd_same, rfl, Nat.le_refl _, fun _ h => nomatch h⟩ ?_ ?_ ?_⟩
      · rintro j ys σ H6 _ ⟨v0, ot, _, _, h6, _⟩
        exact h6
      · rintro j ys σ H6 hj ⟨v0, ot, rfl, sm, h6, rfl, hol, hoL⟩
        rw [Int.toNat_natCast] at hj
        have hjn : names[j]? = some names[j] := List.getElem?_eq_getElem (by (first | lia | omega))
        have hjr : rs[j]? = some rs[j] := List.getElem?_eq_getElem (by (first | lia | omega))
        refine ⟨_, rfl, _, rfl, lr, _, _, _, rfl, rfl, SqL.of (sm _ _ hlr5), int_at hjr, _, rfl, _, rfl, lr, _, _, _, rfl, rfl, SqL.of (sm _ _ hlr5), int_at hkr, _, _, rfl, rfl, _, rfl, ite2 (fun z => ?_) (fun z => ?_)⟩
        · have z := of_decide_eq_true z
          refine ⟨_, rfl, _, rfl, ln, _, _, _, rfl, rfl, SqL.of (sm _ _ hln5), str_at hjn, h6, len1000' (by rw [List.length_map]; (first | lia | omega)), CW.next (by rw [Int.toNat_natCast]; exact hj) ⟨_, ot ++ [names[j]], rfl, sm.upd_new hp9, upd_same, by simp, by simp; (first | lia | omega), fun n hn => ?_⟩⟩
          rcases List.mem_append.mp hn with hn | hn
          · exact hoL n hn
          · rw [List.mem_singleton.mp hn]
            exact ⟨j, _, _, hjn, hjr, hkr, z⟩
        · exact CW.next (by rw [Int.toNat_natCast]; exact hj) ⟨_, ot, rfl, sm, h6, rfl, by (first | lia | omega), hoL⟩
      rintro ys σ H6 ⟨v0, ot, _, s6, h6, rfl, hol, hoL⟩
      rw [Int.toNat_natCast] at hol
      refine ⟨_, rfl, _, rfl, _, rfl, _, rfl, (by show 2 ≤ sizeLine; decide), fun nt hnt => ?_⟩
      have s7 : Same H6 (upd H6 nt (.tup [.ref p9, .ref ln])) := Same.new hnt
      have e7 : upd H6 nt (.tup [.ref p9, .ref ln]) nt = some (.tup [.ref p9, .ref ln]) := upd_same
      generalize upd H6 nt (.tup [.ref p9, .ref ln]) = H7 at s7 e7 ⊢
      have s57 := s6.trans s7
      have hS7 : St20 K H7 a ns st i5 lf5 := hS5.to (But.same s57) (s57 _ _ hS5.at_) hS5.i0 hS5.l0
      have hN7 : NmR H7 nt ot names := ⟨⟨p9, ln, e7, s7 _ _ h6, s57 _ _ hln5⟩, fun n hn => by
        obtain ⟨j, _, _, h1, _⟩ := hoL n hn
        exact List.mem_of_getElem? h1, hnu, by (first | lia | omega), by (first | lia | omega)⟩
      refine ⟨a, ns, st, i5, lf5, 12, nt, ot, names, rfl, hS7, by (first | lia | omega), by decide, by decide, hN7, fun r p e i8 lf8 H8 b8 h8 k1 k2 hp hsz hdp hwl hbx => ?_⟩
      have hS8 : St20 K H8 a ns st i8 lf8 := hS7.to b8 h8 k1 k2
      have hpl8 := b8 _ _ npl (s57 _ _ hpl5)
      have htl8 := b8 _ _ ntl (s57 _ _ htl5)
      have hln8 := b8 _ _ nst (s57 _ _ hln5)
      have tk58 : TK H5 H8 := s57.tk.trans (b8.tk hS7.at_)
      have hlen := tx_len e hp.2.2
      have hse : sz e ≤ 200 := by (first | lia | omega)
      refine ⟨_, rfl, .inl ⟨rfl, _, SqL.of hpl8⟩, _, rfl, _, rfl, ln, _, _, _, rfl, rfl, SqL.of hln8, str_at hkn, _, rfl, r, _, 0, _, rfl, rfl, SqT.of hp.1, rfl, (by show 2 ≤ sizeLine; decide), fun pt hpt => ?_⟩
      have s9 : Same H8 (upd H8 pt (.tup [.str names[k], .ref p])) := Same.new hpt
      have e9 : upd H8 pt (.tup [.str names[k], .ref p]) pt = some (.tup [.str names[k], .ref p]) := upd_same
      generalize upd H8 pt (.tup [.str names[k], .ref p]) = H9 at s9 e9 ⊢
      have hpl9 := s9 _ _ hpl8
      refine ⟨pl, vs, _, rfl, rfl, hpl9, len1000' (by (first | lia | omega)), ?_⟩
      have tk10 : TK H9 (upd H9 pl (.lst (vs ++ [.ref pt]))) := TK.lst hpl9
      have htl10 : upd H9 pl (.lst (vs ++ [.ref pt])) tl = some (.lst ((bk.map prT).map V.str)) := by rw [upd_ne nplt.symm]; exact s9 _ _ htl8
      have hln10 : upd H9 pl (.lst (vs ++ [.ref pt])) ln = some (.lst (names.map V.str)) := by rw [upd_ne nlnp]; exact s9 _ _ hln8
      have hr10 := tk10 _ _ (s9 _ _ hp.1)
      have epl10 : upd H9 pl (.lst (vs ++ [.ref pt])) pl = some (.lst (vs ++ [.ref pt])) := upd_same
      have hS10 : St20 K (upd H9 pl (.lst (vs ++ [.ref pt]))) a ns st i8 lf8 := (hS8.to (But.same s9) (s9 _ _ hS8.at_) hS8.i0 hS8.l0).upd apl npl
      have k10 : ∀ b o, b ≠ pl → H9 b = some o → upd H9 pl (.lst (vs ++ [.ref pt])) b = some o := fun b o nb hb => by rw [upd_ne nb]; exact hb
      generalize upd H9 pl (.lst (vs ++ [.ref pt])) = H10 at tk10 htl10 hln10 hr10 epl10 hS10 k10 ⊢
      refine ⟨_, rfl, .inl ⟨rfl, _, SqL.of htl10⟩, _, rfl, _, rfl, ln, _, _, _, rfl, rfl, SqL.of hln10, str_at hkn, _, _, rfl, rfl, len1000 (by show _ + 3 ≤ _; (first | lia | omega)), _, rfl, r, _, 1, _, rfl, rfl, SqT.of hr10, rfl, _, _, rfl, rfl, len1000 (by rw [app_len]; show _ + 3 + _ ≤ _; (first | lia | omega)), tl, _, _, rfl, rfl, htl10, len1000' (by rw [List.length_map, List.length_map]; (first | lia | omega)), ?_⟩
      have tk11 : TK H10 (upd H10 tl (.lst ((bk.map prT).map V.str ++ [.str (names[k] ++ " = " ++ tx e)]))) := TK.lst htl10
      have tk8 := s9.tk.trans (tk10.trans tk11)
      refine ⟨_, _, _, rfl, bk ++ [(names[k], e)], vs ++ [.ref pt], i8, lf8, ?_, hS10.upd atl ntl, by (first | lia | omega), by rw [upd_ne nplt]; exact epl10, ?_, ?_, ?_, ?_, ?_, ?_⟩
      · intro b o n1 n2 n3 hb
        rw [upd_ne n3]
        exact k10 _ _ n2 (s9 _ _ (b8 _ _ n1 (s57 _ _ (b5 _ _ n1 n2 n3 hb))))
      · exact Paired.app (hE5.tk (tk58.trans tk8)) (.cons ⟨pt, p, rfl, (tk10.trans tk11) _ _ e9, (hp.2.1).mono tk8⟩ .nil)
      · rw [upd_same, List.map_append, List.map_append]
        rfl
      · rw [List.map_append, hbn, List.take_succ_eq_append_getElem (by (first | lia | omega))]
        rfl
      · unfold bxS at hbx5 ⊢
        rw [List.map_append, List.sum_append]
        simp only [List.map_cons, List.map_nil, List.sum_cons, List.sum_nil]
        (first | lia | omega)
      · intro x hx
        rcases List.mem_append.mp hx with hx | hx
        · exact hk1 x hx
        · rw [List.mem_singleton.mp hx]
          exact ⟨⟨hnk2, by show dp e < 13; (first | lia | omega), hse, hp.2.2⟩, ⟨hnk1, hwl.1, by show dp e < 12; (first | lia | omega)⟩, hwl.2.2⟩
      · intro i x hx n hn
        rcases snoc_get hx with ⟨_, hx⟩ | ⟨hi, rfl⟩
        · exact hk2 i x hx n hn
        · rw [hi, hbl]
          exact hoL n (hwl.2.1 n hn)
    · rintro σ H5 ⟨v8, v9, v10, rfl, bk, vs, i5, lf5, b5, hS5, hlf5, hpl5, hE5, htl5, hbn, hbx5, hk1, hk2⟩
      rw [Int.toNat_natCast] at hbn hbx5
      rw [← hnl, List.take_length] at hbn
      have hl0 := hS5.l0
      have hok : BkOk bk := bk_ok m1 m8 hbn hnl hrl hnd hr0 (by (first | lia | omega)) hk1 hk2
      refine ⟨_, rfl, pl, vs, rfl, .inl ⟨SqL.of hpl5, fun r6 hr6 => ?_⟩⟩
      have s6 : Same H5 (upd H5 r6 (.tup vs)) := Same.new hr6
      have e6 : upd H5 r6 (.tup vs) r6 = some (.tup vs) := upd_same
      generalize upd H5 r6 (.tup vs) = H6 at s6 e6 ⊢
      refine ⟨rfl, _, rfl, "; ", tl, bk.map prT, rfl, rfl, SqL.of (s6 _ _ htl5), ?_, (by show 2 ≤ sizeLine; decide), fun p7 hp7 => ?_⟩
      · have := prT_sum fun x hx => (hk1 x hx).1
        have h8 := hok.l8
        rw [List.length_map]
        show _ + _ * 2 ≤ _
        (first | lia | omega)
      · have s7 : Same H6 (upd H6 p7 (.tup [.ref r6, .str (bkT bk)])) := Same.new hp7
        have s57 := s6.trans s7
        refine q p7 r6 bk vs i5 lf5 _ ?_ (s57 _ _ hS5.at_) hS5.i0 hS5.l0 upd_same (s7 _ _ e6) (hE5.tk s57.tk) hok
        intro b o nb hb
        have h2 := b2 _ _ nb (b1 _ _ nb hb)
        have n1 : b ≠ pl := ne_of_none h2 hpl
        have n2 : b ≠ tl := ne_of_none (s3 _ _ h2) htl
        exact s57 _ _ (b5 _ _ nb n1 n2 (s24 _ _ h2))
  · refine ⟨_, rfl, _, rfl, a, ns, st, i, lf, rfl, hS, fun cell => ?_⟩
    have b1 : But st H (upd H st (.lst [.int (i + 1), .int lf])) := But.up
    have hS1 : St20 K (upd H st (.lst [.int (i + 1), .int lf])) a ns st (i + 1) lf := hS.to b1 upd_same (by have := hS.i0; (first | lia | omega)) hS.l0
    generalize upd H st (.lst [.int (i + 1), .int lf]) = H1 at b1 hS1 ⊢
    have c0 := Int.emod_nonneg cell (by decide : (8 : Int) ≠ 0)
    have c1 := Int.emod_lt_of_pos cell (by decide : (0 : Int) < 8)
    obtain ⟨m, hm⟩ : ∃ m : Nat, 1 + cell % 8 = (m : Int) := ⟨(1 + cell % 8).toNat, by (first | lia | omega)⟩
    have m1 : 1 ≤ m := by (first | lia | omega)
    have m8 : m ≤ 8 := by (first | lia | omega)
    refine ⟨_, rfl, _, _, rfl, rfl, (by show (0 : Int) < 8; decide), _, _, rfl, rfl, ?_⟩
    show gName 3 (V.int (1 + cell % 8)) _ _ _
    rw [hm]
    refine ⟨_, rfl, _, rfl, a, ns, st, i + 1, lf, rfl, hS1, fun cell2 => ?_⟩
    have b2 : But st H1 (upd H1 st (.lst [.int (i + 1 + 1), .int lf])) := But.up
    have hS2 : St20 K (upd H1 st (.lst [.int (i + 1 + 1), .int lf])) a ns st (i + 1 + 1) lf := hS1.to b2 upd_same (by have := hS1.i0; (first | lia | omega)) hS1.l0
    generalize upd H1 st (.lst [.int (i + 1 + 1), .int lf]) = H2 at b2 hS2 ⊢
    refine ⟨_, rfl, cell2, m, rfl, m8, fun ln names H3 s3 fln e3 hnl hnd hnu => ?_⟩
    have nst : ln ≠ st := fun z => by rw [z, hS2.at_] at fln; cases fln
    have mp : (0 : Int) < (m : Int) := by (first | lia | omega)
    refine ⟨_, rfl, (m : Int), rfl, by (first | lia | omega), by (first | lia | omega), fun lr hlr => comp_range (lo := 0) (n := (m : Int).toNat) (p := lr) (fun k ys σ H4 => ∃ v0 : Option V, σ = [v0, some (.int cell), some (.int (m : Int))] ∧ Same H3 H4 ∧ H4 lr = some (.lst ys) ∧ ys = ((List.range k).map fun j : Nat => (0 + (j : Int) + cell / 8) % (m : Int)).map V.int)
      ⟨none, rfl, Same.new hlr, upd_same, rfl⟩ ?_ ?_ ?_⟩
    · rintro k ys σ H4 _ ⟨v0, _, _, h4, _⟩
      exact h4
    · rintro k ys σ H4 hk ⟨v0, rfl, sm, h4, rfl⟩
      refine ⟨_, rfl, _, rfl, _, _, rfl, rfl, ⟨by decide, by decide⟩, _, _, rfl, rfl, _, rfl, _, _, rfl, rfl, mp, h4, len1000' (by rw [List.length_map, List.length_map, List.length_range]; (first | lia | omega)), CW.next hk ⟨_, rfl, sm.upd_new hlr, upd_same, ?_⟩⟩
      rw [List.range_succ, List.map_append, List.map_append]
      rfl
    · rintro ys σ H4 ⟨v0, _, sm, h4, rfl⟩
      have rst : lr ≠ st := fun z => by rw [z, s3 _ _ hS2.at_] at hlr; cases hlr
      have s24 := s3.trans sm
      have b24 : But st H H4 := (b1.trans b2).trans (But.same s24)
      have hS4 : St20 K H4 a ns st (i + 1 + 1) lf := hS2.to (But.same s24) (s24 _ _ hS2.at_) hS2.i0 hS2.l0
      have r0 : ∀ r ∈ ((List.range (m : Int).toNat).map fun j : Nat => (0 + (j : Int) + cell / 8) % (m : Int)), 0 ≤ r ∧ r < m := fun r hr => by
        obtain ⟨j, _, rfl⟩ := List.mem_map.mp hr
        exact ⟨Int.emod_nonneg _ (Int.ne_of_gt mp), Int.emod_lt_of_pos _ mp⟩
      have rl : ((List.range (m : Int).toNat).map fun j : Nat => (0 + (j : Int) + cell / 8) % (m : Int)).length = m := by rw [List.length_map, List.length_range, Int.toNat_natCast]
      generalize ((List.range (m : Int).toNat).map fun j : Nat => (0 + (j : Int) + cell / 8) % (m : Int)) = rs at h4 r0 rl
      refine ⟨_, rfl, _, _, rfl, rfl, ⟨by decide, by decide⟩, _, _, rfl, rfl, (by show (0 : Int) < 2; decide), rfl, _, rfl, ite2 (fun _ => ?_) (fun _ => ?_)⟩
      · refine ⟨_, rfl, lr, rfl, ⟨_, SqL.of h4⟩, fun l5 hl5 => comp_list (K := K) (a := lr) (p := l5) (xs := rs.map V.int) (fun k ys σ H5 => ∃ (v0 : Option V) (qs : List Int), σ = [v0, some (.int (m : Int))] ∧ Same H4 H5 ∧ H5 l5 = some (.lst ys) ∧ ys = qs.map V.int ∧ qs.length = k ∧ ∀ r ∈ qs, 0 ≤ r)
          ⟨none, [], rfl, Same.new hl5, upd_same, rfl, rfl, fun _ h => nomatch h⟩ ?_ ?_ ?_⟩
        · rintro k ys σ H5 _ ⟨v0, qs, _, sm5, h5, _⟩
          exact ⟨SqL.of (sm5 _ _ h4), h5⟩
        · rintro k ys x σ H5 hk hx ⟨v0, qs, rfl, sm5, h5, rfl, hql, hq0⟩
          rw [List.getElem?_map] at hx
          obtain ⟨r, hr1, rfl⟩ := Option.map_eq_some_iff.mp hx
          have hr2 := r0 r (List.mem_of_getElem? hr1)
          rw [List.length_map] at hk
          refine ⟨_, rfl, _, _, rfl, rfl, _, rfl, _, _, rfl, rfl, h5, len1000' (by rw [List.length_map]; (first | lia | omega)), CW.next (by rw [List.length_map]; exact hk) ⟨_, qs ++ [(m : Int) - 1 - r], rfl, sm5.upd_new hl5, upd_same, by simp, by simp [hql], fun x hx => ?_⟩⟩
          rcases List.mem_append.mp hx with hx | hx
          · exact hq0 x hx
          · rw [List.mem_singleton.mp hx]
            (first | lia | omega)
        · rintro ys σ H5 ⟨v0, qs, _, sm5, h5, rfl, hql, hq0⟩
          rw [List.length_map, rl] at hql
          exact hR _ _ ⟨cell, m, ln, l5, names, qs, i + 1 + 1, rfl, b24.trans (But.same sm5), hS4.to (But.same sm5) (sm5 _ _ hS4.at_) hS4.i0 hS4.l0, m1, m8, sm5 _ _ (sm _ _ e3), hnl, hnd, hnu, h5, hql, hq0, nst, fun z => by rw [z, hS4.at_] at hl5; cases hl5⟩
      · exact hR _ _ ⟨cell, m, ln, lr, names, rs, i + 1 + 1, rfl, b24, hS4, m1, m8, sm _ _ e3, hnl, hnd, hnu, h4, rl, fun r hr => (r0 r hr).1, nst, rst⟩
/-! the same: texts and tuples all through -/
inductive Alk (K : PySem.W.Frag) (H : Hp) : Nat → V → V → Prop
  | str {d : Nat} {s : Str} : Alk K H (d + 1) (.str s) (.str s)
  | tup {d : Nat} {p q : Addr} {xs ys : List V} : SqT K H p xs → SqT K H q ys → xs.length = ys.length → xs.length ≤ 1000 → (∀ (i : Nat) x y, xs[i]? = some x → ys[i]? = some y → Alk K H d x y) → Alk K H (d + 1) (.ref p) (.ref q)
theorem Alk.up {K : PySem.W.Frag} {H : Hp} {d : Nat} {x y : V} (h : Alk K H d x y) : ∀ {e : Nat}, d ≤ e → Alk K H e x y := by
  induction h with
  | str =>
    intro e he
    obtain ⟨e, rfl⟩ : ∃ e', e = e' + 1 := ⟨e - 1, by (first | lia | omega)⟩
    exact .str
  | tup h1 h2 h3 h4 _ ih =>
    intro e he
    obtain ⟨e, rfl⟩ : ∃ e', e = e' + 1 := ⟨e - 1, by (first | lia | omega)⟩
    exact .tup h1 h2 h3 h4 fun i x y a b => ih i x y a b (by (first | lia | omega))
theorem Alk.one {K : PySem.W.Frag} {H : Hp} {d : Nat} {p q : Addr} {a b : V} (h1 : SqT K H p [a, b]) {a' b' : V} (h2 : SqT K H q [a', b']) (k1 : Alk K H d a a') (k2 : Alk K H d b b') : Alk K H (d + 1) (.ref p) (.ref q) :=
  .tup h1 h2 rfl (by show 2 ≤ 1000; decide) fun i x y hx hy => by
    match i, hx, hy with
    | 0, hx, hy => cases hx; cases hy; exact k1
    | 1, hx, hy => cases hx; cases hy; exact k2
    | i + 2, hx, _ => simp at hx
mutual
theorem alk_ex {K : PySem.W.Frag} {H : Hp} : ∀ {e : Ex} {p q : Addr}, sz e ≤ 200 → RepK K H p e → RepK K H q e → Alk K H (2 * dp e + 2) (.ref p) (.ref q)
  | .nil, _, _, _, .nil h1, .nil h2 => .tup h1 h2 rfl (by show 1 ≤ 1000; decide) fun i x y hx hy => by
    match i, hx, hy with
    | 0, hx, hy => cases hx; cases hy; exact .str
    | i + 1, hx, _ => simp at hx
  | .name n, _, _, _, .name h1, .name h2 => .one h1 h2 .str .str
  | .tag t i, _, _, hs, .tag h1 r1, .tag h2 r2 => by
    have hs : sz i + 1 ≤ 200 := hs
    have := alk_ex (e := i) (by (first | lia | omega)) r1 r2
    refine (Alk.tup h1 h2 rfl (by show 3 ≤ 1000; decide) (d := 2 * dp i + 2) fun j x y hx hy => ?_).up (by show _ ≤ 2 * (dp i + 1) + 2; (first | lia | omega))
    match j, hx, hy with
    | 0, hx, hy => cases hx; cases hy; exact .str
    | 1, hx, hy => cases hx; cases hy; exact .str
    | 2, hx, hy => cases hx; cases hy; exact this
    | j + 3, hx, _ => simp at hx
  | .several b ps, _, _, hs, .several h1 h3 r1, .several h2 h4 r2 => by
    have hs : szs ps + 1 ≤ 200 := hs
    have hc := cnt_le ps
    have := alk_exs (ps := ps) (by (first | lia | omega)) r1 r2
    refine (Alk.one h1 h2 .str (Alk.tup h3 h4 (by rw [r1.length, r2.length]) (by rw [r1.length]; (first | lia | omega)) this)).up ?_
    show 2 * dps ps + 2 + 1 + 1 ≤ 2 * (dps ps + 1) + 2
    (first | lia | omega)
  | .rep m e, _, _, hs, .rep h1 r1, .rep h2 r2 => by
    have hs : sz e + 1 ≤ 200 := hs
    exact (Alk.one h1 h2 .str (alk_ex (e := e) (by (first | lia | omega)) r1 r2)).up (by show _ ≤ 2 * (dp e + 1) + 2; (first | lia | omega))
theorem alk_exs {K : PySem.W.Frag} {H : Hp} : ∀ {ps : Exs} {xs ys : List V}, szs ps ≤ 200 → RepKs K H xs ps → RepKs K H ys ps → ∀ (i : Nat) x y, xs[i]? = some x → ys[i]? = some y → Alk K H (2 * dps ps + 2) x y
  | .nil, _, _, _, .nil, .nil, i, x, y, hx, _ => by simp at hx
  | .cons e r, _, _, hs, .cons h1 r1, .cons h2 r2, i, x, y, hx, hy => by
    have hs : sz e + szs r ≤ 200 := hs
    have hm : dp e ≤ dps (.cons e r) ∧ dps r ≤ dps (.cons e r) := by
      show dp e ≤ max (dp e) (dps r) ∧ dps r ≤ max (dp e) (dps r)
      (first | lia | omega)
    match i, hx, hy with
    | 0, hx, hy =>
      cases hx
      cases hy
      exact (alk_ex (e := e) (by (first | lia | omega)) h1 h2).up (by (first | lia | omega))
    | i + 1, hx, hy => exact (alk_exs (ps := r) (by (first | lia | omega)) r1 r2 i x y (by simpa using hx) (by simpa using hy)).up (by (first | lia | omega))
end
theorem alk_bk {K : PySem.W.Frag} {H : Hp} {p q : Addr} {xs ys : List V} {bk : List (Str × Ex)} (h1 : SqT K H p xs) (h2 : SqT K H q ys) (r1 : BkR K H xs bk) (r2 : BkR K H ys bk) (hl : bk.length ≤ 8) (hk : ∀ x ∈ bk, Bk1 x) : Alk K H 28 (.ref p) (.ref q) := by
  have l1 : xs.length = bk.length := Paired.length r1
  have l2 : ys.length = bk.length := Paired.length r2
  refine .tup h1 h2 (by (first | lia | omega)) (by (first | lia | omega)) fun i x y hx hy => ?_
  obtain ⟨z, hz, p1, q1, rfl, e1, e2⟩ := paired_get r1 hx
  obtain ⟨z', hz', p2, q2, rfl, e3, e4⟩ := paired_get r2 hy
  rw [hz] at hz'
  cases hz'
  obtain ⟨_, b2, b3, _⟩ := hk z (List.mem_of_getElem? hz)
  exact (Alk.one (SqT.of e1) (SqT.of e3) .str (alk_ex b3 e2 e4)).up (by (first | lia | omega))
theorem call_isinstT {X : Cx} : CallR X (.builtin "isinstance") (fun xs H Q => ∃ x n b, xs = [x, .ty n] ∧ ((∃ s, x = .str s ∧ PySem.W.kitOne X.K (.type "str") (.type n) = some b) ∨ ∃ a ys, x = .ref a ∧ SqT X.K H a ys ∧ PySem.W.kitOne X.K (.type "tuple") (.type n) = some b) ∧ Q (.bl b) H) := by
  intro pins s σ H xs us Q I r h
  obtain ⟨x, n, b, rfl, h, q⟩ := h
  obtain ⟨u, v, rfl, rx, ry⟩ := Vals.two r
  obtain rfl : v = Value.type n := ry
  rcases h with ⟨z, rfl, e⟩ | ⟨a, ys, rfl, hq, e⟩
  · exact isinst_ok I rx (.str z) e fun tk => ⟨.bl b, H, I.tok tk, rfl, q⟩
  · cases (show u = Value.ref a from rx)
    obtain ⟨its, _, ⟨o, h1, h2, _⟩, _⟩ := I.tuple hq
    exact PySem.W.kia_one PySem.W.kitx_tuple I.kIn ⟨o, h1, h2⟩ e (fun z => nomatch z) fun tk => ⟨.bl b, H, I.tok tk, rfl, q⟩
def spAlike (K : PySem.W.Frag) (d : Nat) : Sp := fun vs H Q _ => ∃ x y, vs = [x, y] ∧ Alk K H d x y ∧ Q (.bl true) H
set_option maxHeartbeats 1000000 in
theorem ok_l_alike (d : Nat) (B : ∀ x ∈ blts, mg x = none) (g_l_alike : Has P w K mg base "_law_alike" ["_law_told", "_law_due"] d (spAlike K d)) (F : Fun K "_law_alike" "_law_alike" s_l_alike f fd) : FnOk P w K mg base CX0 (d + 1) f fd ["_law_told", "_law_due"] (spAlike K (d + 1)) := by
  refine F.ok sc_l_alike (fun vs H Q E h => ?_) (fun cdv A outer s H vs Q E hr h => ?_)
  · obtain ⟨x, y, rfl, _⟩ := h
    rfl
  obtain ⟨x, y, rfl, hA, q⟩ := h
  have hu := hu_room hr
  refine ⟨_, (pss_cons (ps_if (pt_truth (pe_callB K21.call_isinstT rfl (B "isinstance" (by decide)) bt_isinstance (pa_cons (pv 1) (pa_cons (pe_ty rfl (B "str" (by decide)) bt_str) pa_nil))) (fun _ => rfl))
      (pss_one (ps_ret (pe_and (pe_callB K21.call_isinstT rfl (B "isinstance" (by decide)) bt_isinstance (pa_cons (pv 0) (pa_cons (pe_ty rfl (B "str" (by decide)) bt_str) pa_nil))) (pe_one (pe_cmpR op_eq (pv 0) (pv 1) (nomark _))))))
      pss_nil)
    (pss_cons (ps_if (PW.pt (pw_or (pt_not (pt_truth (pe_callB K21.call_isinstT rfl (B "isinstance" (by decide)) bt_isinstance (pa_cons (pv 0) (pa_cons (pe_ty rfl (B "tuple" (by decide)) bt_tuple) pa_nil))) (fun _ => rfl))) (pw_or1 (pt_cmpR op_ne (pe_callB call_len_seq rfl (B "len" (by decide)) PySem.boot_len (pa_cons (pv 0) pa_nil)) (pe_callB call_len_seq rfl (B "len" (by decide)) PySem.boot_len (pa_cons (pv 1) pa_nil)) (nomark _)))))
      (pss_one (ps_ret pe_bl))
      pss_nil)
    (pss_cons (ps_for PassesOwn.never rfl (pi_range1 rfl (B "range" (by decide)) (pa_cons (pe_callB call_len_seq rfl (B "len" (by decide)) PySem.boot_len (pa_cons (pv 1) pa_nil)) pa_nil)) (pg_name (i := 2) sc_l_alike.nd rfl (Or.inl rfl))
      (pss_one (ps_if (pt_not (pt_truth (pe_has g_l_alike hr rfl (pa_cons (pe_ix ix_tup (pv 0) (pv 2) (fun _ _ => rfl)) (pa_cons (pe_ix ix_tup (pv 1) (pv 2) (fun _ _ => rfl)) pa_nil)) (by (first | lia | omega))) (fun _ => rfl)))
          (pss_one (ps_ret pe_bl))
          pss_nil)))
    (pss_one (ps_ret pe_bl))))), ?_⟩
  cases hA with
  | @str _ z =>
    refine ⟨_, rfl, .str z, "str", true, rfl, .inl ⟨z, rfl, rfl⟩, true, rfl, iteT ?_⟩
    refine ⟨_, rfl, .str z, "str", true, rfl, .inl ⟨z, rfl, rfl⟩, true, rfl, iteT ?_⟩
    refine ⟨_, rfl, _, rfl, rfl, ?_⟩
    rw [decide_eq_true rfl]
    exact q
  | @tup _ p qa xs ys h1 h2 h3 h4 k =>
    refine ⟨_, rfl, .ref qa, "str", false, rfl, .inr ⟨_, _, rfl, h2, rfl⟩, false, rfl, iteF ?_⟩
    refine ⟨_, rfl, .ref p, "tuple", true, rfl, .inr ⟨_, _, rfl, h1, rfl⟩, true, rfl, iteF ?_⟩
    refine ⟨_, rfl, p, _, rfl, .inr h1, _, rfl, qa, _, rfl, .inr h2, rfl, _, rfl, ite2 (fun z => absurd z (by rw [h3]; simp)) (fun _ => ?_)⟩
    refine ⟨_, rfl, qa, _, rfl, .inr h2, _, rfl, by (first | lia | omega), by (first | lia | omega), for_range (lo := 0) (fun i σ H1 => ∃ (v2 : Option V), σ = [some (.ref p), some (.ref qa), v2] ∧ H1 = H) ⟨none, rfl, rfl⟩ ?_ ?_⟩
    · rintro i σ H1 hi ⟨v2, rfl, rfl⟩
      rw [Int.toNat_natCast] at hi
      have hx : xs[i]? = some xs[i] := List.getElem?_eq_getElem (by (first | lia | omega))
      have hy : ys[i]? = some ys[i] := List.getElem?_eq_getElem (by (first | lia | omega))
      have ax : atI xs (0 + (i : Int)) = some xs[i] := by rw [Int.zero_add]; exact atI_nat hx
      have ay : atI ys (0 + (i : Int)) = some ys[i] := by rw [Int.zero_add]; exact atI_nat hy
      exact ⟨_, rfl, _, rfl, p, _, _, _, rfl, rfl, h1, ax, _, rfl, _, rfl, qa, _, _, _, rfl, rfl, h2, ay, xs[i], ys[i], rfl, k i _ _ hx hy, true, rfl, iteF ⟨_, rfl, rfl⟩⟩
    · rintro σ H1 ⟨v2, rfl, rfl⟩
      exact q
/-! the law -/
set_option maxHeartbeats 4000000 in
theorem ok_law (B : ∀ x ∈ blts, mg x = none) (g_l_book : Has P w K mg base "_law_book" ["_law_script", "_law_state"] 31 (spBook K)) (g_shown : Has P w K mg base "shown" ["book"] 28 (spShown K)) (g_l_alike : Has P w K mg base "_law_alike" ["_law_told", "_law_due"] 28 (spAlike K 28)) (g_read : Has P w K mg base "read" ["text"] 67 (spRead K)) (F : Fun K "law" "law" s_law f fd) : FnOk P w K mg base CX0 68 f fd ["_law_script"] (spLaw K) := by
  refine F.ok sc_law (fun vs H Q E h => ?_) (fun cdv A outer s H vs Q E hr h => ?_)
  · obtain ⟨a, ns, rfl, _⟩ := h
    rfl
  obtain ⟨a, ns, rfl, hS, h63, q⟩ := h
  refine ⟨_, (pss_cons (ps_set (i := 1) sc_law.nd rfl (Or.inl rfl) (pe_lst (pa_cons (pe_un un_neg pe_int) (pa_cons pe_int pa_nil))))
    (pss_cons (ps_set (i := 2) sc_law.nd rfl (Or.inl rfl) (pe_has g_l_book hr rfl (pa_cons (pv 0) (pa_cons (pv 1) pa_nil))))
    (pss_cons (ps_set (i := 3) sc_law.nd rfl (Or.inl rfl) (pe_has g_l_book hr rfl (pa_cons (pv 0) (pa_cons (pv 1) pa_nil))))
    (pss_cons (ps_for PassesOwn.never rfl (pi_list (pe_lst (pa_cons (pv 2) (pa_cons (pv 3) (pa_cons (pv 2) pa_nil))))) (pg_tup rfl (pgs_cons (pg_name (i := 4) sc_law.nd rfl (Or.inl rfl)) (pgs_cons (pg_name (i := 5) sc_law.nd rfl (Or.inl rfl)) pgs_nil)))
      (pss_cons (ps_set (i := 6) sc_law.nd rfl (Or.inl rfl) (pe_has g_shown hr rfl (pa_cons (pv 4) pa_nil)))
        (pss_one (ps_if (PW.pt (pw_or (pt_not (pt_truth (pe_callB call_isinst rfl (B "isinstance" (by decide)) bt_isinstance (pa_cons (pv 6) (pa_cons (pe_ty rfl (B "str" (by decide)) bt_str) pa_nil))) (fun _ => rfl))) (pw_or (pt_cmpR op_ne (pv 6) (pv 5) (nomark _)) (pw_or1 (pt_not (pt_truth (pe_has g_l_alike hr rfl (pa_cons (pe_has g_read hr rfl (pa_cons (pv 5) pa_nil)) (pa_cons (pv 4) pa_nil))) (fun _ => rfl)))))))
          (pss_one (ps_ret pe_bl))
          pss_nil))))
    (pss_one (ps_ret pe_bl)))))), ?_⟩
  refine ⟨_, rfl, (by show 2 ≤ sizeLine; decide), fun st hst => ?_⟩
  have hne := SqL.apart hS hst
  have s0 : Same H (upd H st (.lst [.int (-1), .int 0])) := Same.new hst
  have hS0 : St20 K (upd H st (.lst [.int (-1), .int 0])) a ns st (-1) 0 := ⟨s0.seq hS, h63, hne, upd_same, by decide, by decide⟩
  generalize upd H st (.lst [.int (-1), .int 0]) = H0 at s0 hS0 ⊢
  refine ⟨_, rfl, _, rfl, a, ns, st, (-1), 0, rfl, hS0, fun r1 p1 bk1 ws1 i1 l1 H1 b1 h1 i10 l10 er1 ep1 hE1 hok1 => ?_⟩
  have hS1 : St20 K H1 a ns st i1 l1 := hS0.to b1 h1 i10 l10
  refine ⟨_, rfl, _, rfl, a, ns, st, i1, l1, rfl, hS1, fun r2 p2 bk2 ws2 i2 l2 H3 b3 h3 i20 l20 er2 ep2 hE2 hok2 => ?_⟩
  have tk3 := b3.tk hS1.at_
  refine ⟨_, rfl, _, rfl, _, rfl, (by show 3 ≤ sizeLine; decide), fun l hl => ?_⟩
  have s4 : Same H3 (upd H3 l (.lst [.ref r1, .ref r2, .ref r1])) := Same.new hl
  have e4 : (upd H3 l (.lst [.ref r1, .ref r2, .ref r1])) l = some (.lst [.ref r1, .ref r2, .ref r1]) := upd_same
  generalize upd H3 l (.lst [.ref r1, .ref r2, .ref r1]) = H4 at s4 e4 ⊢
  refine ⟨l, rfl, ⟨_, SqL.of e4⟩, for_list (K := K) (a := l) (xs := [V.ref r1, .ref r2, .ref r1]) (fun i σ H5 => ∃ v4 v5 v6 : Option V, σ = [some (.ref a), some (.ref st), some (.ref r1), some (.ref r2), v4, v5, v6] ∧ Same H4 H5)
    ⟨none, none, none, rfl, Same.refl _⟩ ?_ ?_ ?_⟩
  · rintro i σ H5 _ ⟨v4, v5, v6, _, sm⟩
    exact SqL.of (sm _ _ e4)
  · rintro i x σ H5 hi ⟨v4, v5, v6, rfl, sm⟩
    have hx : ∃ r p bk ws, x = .ref r ∧ H5 r = some (.tup [.ref p, .str (bkT bk)]) ∧ H5 p = some (.tup ws) ∧ BkE H5 ws bk ∧ BkOk bk := by
      have s5 := s4.trans sm
      have k1 : ∃ r p bk ws, V.ref r1 = .ref r ∧ H5 r = some (.tup [.ref p, .str (bkT bk)]) ∧ H5 p = some (.tup ws) ∧ BkE H5 ws bk ∧ BkOk bk := ⟨r1, p1, bk1, ws1, rfl, s5 _ _ (tk3 _ _ er1), s5 _ _ (tk3 _ _ ep1), hE1.tk (tk3.trans s5.tk), hok1⟩
      have k2 : ∃ r p bk ws, V.ref r2 = .ref r ∧ H5 r = some (.tup [.ref p, .str (bkT bk)]) ∧ H5 p = some (.tup ws) ∧ BkE H5 ws bk ∧ BkOk bk := ⟨r2, p2, bk2, ws2, rfl, s5 _ _ er2, s5 _ _ ep2, hE2.tk s5.tk, hok2⟩
      match i, hi with
      | 0, hi => cases hi; exact k1
      | 1, hi => cases hi; exact k2
      | 2, hi => cases hi; exact k1
      | i + 3, hi => simp at hi
    obtain ⟨r, p, bk, ws, rfl, er, ep, hE, hok⟩ := hx
    have h8 := hok.l8
    have hk1 : ∀ x ∈ bk, Bk1 x := fun x hx => (hok.ok x hx).1
    refine ⟨r, _, rfl, SqT.of er, rfl, _, _, rfl, _, _, rfl, rfl, ?_⟩
    refine ⟨_, rfl, p, ws, bk, rfl, .inr (SqT.of ep), hE.toK, by (first | lia | omega), hk1, fun H6 s6 => ?_⟩
    refine ⟨_, rfl, .str (bkT bk), "str", .type "str", true, rfl, .str _, rfl, true, rfl, iteF ?_⟩
    refine ⟨_, rfl, _, rfl, rfl, _, rfl, ite2 (fun z => absurd z (by simp)) (fun _ => ?_)⟩
    refine ⟨_, rfl, bkT bk, bk, rfl, rfl, hok, fun l7 ws7 H7 s7 e7 hB7 => ?_⟩
    have s67 := s6.trans s7
    refine ⟨_, rfl, .ref l7, .ref p, rfl, alk_bk e7 (SqT.of (s67 _ _ ep)) hB7 (hE.toK.same s67) h8 hk1, true, rfl, iteF ?_⟩
    exact ⟨_, _, _, rfl, sm.trans s67⟩
  · rintro σ H5 ⟨v4, v5, v6, rfl, sm⟩
    exact q H5
end
theorem all_mk {l : PySem.W.OpenLaw} {w : World} {K : PySem.W.Frag} {h : Heap} {mg : Str → Option Value} {fa f1 f2 f3 f4 f5 f6 f7 f8 f9 f10 f11 f12 f13 f14 f15 f16 f17 f18 f19 f20 f21 f22 f23 f24 f25 f26 f27 f28 f29 f30 f31 f32 f33 f34 f35 f36 f37 : Addr} (X : K.In h) (G : h.Ns mainGlobals mg) (hfa : mg "law" = some (.ref fa))
    {od1 an1 od2 an2 od3 an3 od4 an4 od5 an5 od6 an6 od7 an7 od8 an8 od9 an9 od10 an10 od11 an11 od12 an12 od13 an13 od14 an14 od15 an15 od16 an16 od17 an17 od18 an18 od19 an19 od20 an20 od21 an21 od22 an22 od23 an23 od24 an24 od25 an25 od26 an26 od27 an27 od28 an28 od29 an29 od30 an30 od31 an31 od32 an32 od33 an33 od34 an34 od35 an35 od36 an36 od37 an37 : Option Addr} {sl1 sl2 sl3 sl4 sl5 sl6 sl7 sl8 sl9 sl10 sl11 sl12 sl13 sl14 sl15 sl16 sl17 sl18 sl19 sl20 sl21 sl22 sl23 sl24 sl25 sl26 sl27 sl28 sl29 sl30 sl31 sl32 sl33 sl34 sl35 sl36 sl37 : Array (Option Value)} {oc1 kV1 dc1 pm1 cd1 ct1 oc2 kV2 dc2 pm2 cd2 ct2 oc3 kV3 dc3 pm3 cd3 ct3 oc4 kV4 dc4 pm4 cd4 ct4 oc5 kV5 dc5 pm5 cd5 ct5 oc6 kV6 dc6 pm6 cd6 ct6 oc7 kV7 dc7 pm7 cd7 ct7 oc8 kV8 dc8 pm8 cd8 ct8 oc9 kV9 dc9 pm9 cd9 ct9 oc10 kV10 dc10 pm10 cd10 ct10 oc11 kV11 dc11 pm11 cd11 ct11 oc12 kV12 dc12 pm12 cd12 ct12 oc13 kV13 dc13 pm13 cd13 ct13 oc14 kV14 dc14 pm14 cd14 ct14 oc15 kV15 dc15 pm15 cd15 ct15 oc16 kV16 dc16 pm16 cd16 ct16 oc17 kV17 dc17 pm17 cd17 ct17 oc18 kV18 dc18 pm18 cd18 ct18 oc19 kV19 dc19 pm19 cd19 ct19 oc20 kV20 dc20 pm20 cd20 ct20 oc21 kV21 dc21 pm21 cd21 ct21 oc22 kV22 dc22 pm22 cd22 ct22 oc23 kV23 dc23 pm23 cd23 ct23 oc24 kV24 dc24 pm24 cd24 ct24 oc25 kV25 dc25 pm25 cd25 ct25 oc26 kV26 dc26 pm26 cd26 ct26 oc27 kV27 dc27 pm27 cd27 ct27 oc28 kV28 dc28 pm28 cd28 ct28 oc29 kV29 dc29 pm29 cd29 ct29 oc30 kV30 dc30 pm30 cd30 ct30 oc31 kV31 dc31 pm31 cd31 ct31 oc32 kV32 dc32 pm32 cd32 ct32 oc33 kV33 dc33 pm33 cd33 ct33 oc34 kV34 dc34 pm34 cd34 ct34 oc35 kV35 dc35 pm35 cd35 ct35 oc36 kV36 dc36 pm36 cd36 ct36 oc37 kV37 dc37 pm37 cd37 ct37 : Value}
    {C_Source : Addr}
    (cn1 : PySem.W.nsIn K mainGlobals "Source" = some (some (.ref C_Source))) (cp1 : PySem.W.plainGet K C_Source Str.empty = true) (ch1 : PySem.W.hasDictIn K C_Source = true) (cq1 : PySem.W.plainOver K C_Source = true) (cs1 : PySem.W.findIn K (.ref C_Source) "__setattr__" = some (some (.builtin "object.__setattr__"))) (cm1 : PySem.W.makesIn K C_Source = true) (ck1 : PySem.W.keepIn K (.ref C_Source) = true)
    (cx1_0 : PySem.W.findIn K (.ref C_Source) "text" = some none)
    (cx1_1 : PySem.W.findIn K (.ref C_Source) "at" = some none)
    (a1 : PySem.W.nsIn K mainGlobals "_law_next" = some (some (.ref f1))) (l1 : K.lookup f1 = some ⟨oc1, od1, .func (PySem.W.fnOf "_law_next" "_law_next" (defArgs s_l_next) (defBody s_l_next) (defScope s_l_next) .none kV1 dc1 pm1 an1 cd1 ct1), sl1⟩) (c1 : PySem.W.codeIn K cd1 "_law_next" = true) (k1 : PySem.W.keepIn K (.ref f1) = true)
    (a2 : PySem.W.nsIn K mainGlobals "_law_word" = some (some (.ref f2))) (l2 : K.lookup f2 = some ⟨oc2, od2, .func (PySem.W.fnOf "_law_word" "_law_word" (defArgs s_l_word) (defBody s_l_word) (defScope s_l_word) .none kV2 dc2 pm2 an2 cd2 ct2), sl2⟩) (c2 : PySem.W.codeIn K cd2 "_law_word" = true) (k2 : PySem.W.keepIn K (.ref f2) = true)
    (a3 : PySem.W.nsIn K mainGlobals "_law_names" = some (some (.ref f3))) (l3 : K.lookup f3 = some ⟨oc3, od3, .func (PySem.W.fnOf "_law_names" "_law_names" (defArgs s_l_names) (defBody s_l_names) (defScope s_l_names) .none kV3 dc3 pm3 an3 cd3 ct3), sl3⟩) (c3 : PySem.W.codeIn K cd3 "_law_names" = true) (k3 : PySem.W.keepIn K (.ref f3) = true)
    (a4 : PySem.W.nsIn K mainGlobals "_law_leaf" = some (some (.ref f4))) (l4 : K.lookup f4 = some ⟨oc4, od4, .func (PySem.W.fnOf "_law_leaf" "_law_leaf" (defArgs s_l_leaf) (defBody s_l_leaf) (defScope s_l_leaf) .none kV4 dc4 pm4 an4 cd4 ct4), sl4⟩) (c4 : PySem.W.codeIn K cd4 "_law_leaf" = true) (k4 : PySem.W.keepIn K (.ref f4) = true)
    (a5 : PySem.W.nsIn K mainGlobals "_law_braced" = some (some (.ref f5))) (l5 : K.lookup f5 = some ⟨oc5, od5, .func (PySem.W.fnOf "_law_braced" "_law_braced" (defArgs s_l_braced) (defBody s_l_braced) (defScope s_l_braced) .none kV5 dc5 pm5 an5 cd5 ct5), sl5⟩) (c5 : PySem.W.codeIn K cd5 "_law_braced" = true) (k5 : PySem.W.keepIn K (.ref f5) = true)
    (a6 : PySem.W.nsIn K mainGlobals "_law_several" = some (some (.ref f6))) (l6 : K.lookup f6 = some ⟨oc6, od6, .func (PySem.W.fnOf "_law_several" "_law_several" (defArgs s_l_several) (defBody s_l_several) (defScope s_l_several) .none kV6 dc6 pm6 an6 cd6 ct6), sl6⟩) (c6 : PySem.W.codeIn K cd6 "_law_several" = true) (k6 : PySem.W.keepIn K (.ref f6) = true)
    (a7 : PySem.W.nsIn K mainGlobals "_law_made" = some (some (.ref f7))) (l7 : K.lookup f7 = some ⟨oc7, od7, .func (PySem.W.fnOf "_law_made" "_law_made" (defArgs s_l_made) (defBody s_l_made) (defScope s_l_made) .none kV7 dc7 pm7 an7 cd7 ct7), sl7⟩) (c7 : PySem.W.codeIn K cd7 "_law_made" = true) (k7 : PySem.W.keepIn K (.ref f7) = true)
    (a8 : PySem.W.nsIn K mainGlobals "_law_book" = some (some (.ref f8))) (l8 : K.lookup f8 = some ⟨oc8, od8, .func (PySem.W.fnOf "_law_book" "_law_book" (defArgs s_l_book) (defBody s_l_book) (defScope s_l_book) .none kV8 dc8 pm8 an8 cd8 ct8), sl8⟩) (c8 : PySem.W.codeIn K cd8 "_law_book" = true) (k8 : PySem.W.keepIn K (.ref f8) = true)
    (a9 : PySem.W.nsIn K mainGlobals "parts_of" = some (some (.ref f9))) (l9 : K.lookup f9 = some ⟨oc9, od9, .func (PySem.W.fnOf "parts_of" "parts_of" (defArgs s_parts_of) (defBody s_parts_of) (defScope s_parts_of) .none kV9 dc9 pm9 an9 cd9 ct9), sl9⟩) (c9 : PySem.W.codeIn K cd9 "parts_of" = true) (k9 : PySem.W.keepIn K (.ref f9) = true)
    (a10 : PySem.W.nsIn K mainGlobals "shown_part" = some (some (.ref f10))) (l10 : K.lookup f10 = some ⟨oc10, od10, .func (PySem.W.fnOf "shown_part" "shown_part" (defArgs s_shown_part) (defBody s_shown_part) (defScope s_shown_part) .none kV10 dc10 pm10 an10 cd10 ct10), sl10⟩) (c10 : PySem.W.codeIn K cd10 "shown_part" = true) (k10 : PySem.W.keepIn K (.ref f10) = true)
    (a11 : PySem.W.nsIn K mainGlobals "shown_expr" = some (some (.ref f11))) (l11 : K.lookup f11 = some ⟨oc11, od11, .func (PySem.W.fnOf "shown_expr" "shown_expr" (defArgs s_shown_expr) (defBody s_shown_expr) (defScope s_shown_expr) .none kV11 dc11 pm11 an11 cd11 ct11), sl11⟩) (c11 : PySem.W.codeIn K cd11 "shown_expr" = true) (k11 : PySem.W.keepIn K (.ref f11) = true)
    (a12 : PySem.W.nsIn K mainGlobals "shown" = some (some (.ref f12))) (l12 : K.lookup f12 = some ⟨oc12, od12, .func (PySem.W.fnOf "shown" "shown" (defArgs s_shown) (defBody s_shown) (defScope s_shown) .none kV12 dc12 pm12 an12 cd12 ct12), sl12⟩) (c12 : PySem.W.codeIn K cd12 "shown" = true) (k12 : PySem.W.keepIn K (.ref f12) = true)
    (a13 : PySem.W.nsIn K mainGlobals "_law_alike" = some (some (.ref f13))) (l13 : K.lookup f13 = some ⟨oc13, od13, .func (PySem.W.fnOf "_law_alike" "_law_alike" (defArgs s_l_alike) (defBody s_l_alike) (defScope s_l_alike) .none kV13 dc13 pm13 an13 cd13 ct13), sl13⟩) (c13 : PySem.W.codeIn K cd13 "_law_alike" = true) (k13 : PySem.W.keepIn K (.ref f13) = true)
    (a14 : PySem.W.findIn K (.ref C_Source) "__init__" = some (some (.ref f14))) (l14 : K.lookup f14 = some ⟨oc14, od14, .func (PySem.W.fnOf "__init__" "Source.__init__" (defArgs s_Source___init__) (defBody s_Source___init__) (defScope s_Source___init__) .none kV14 dc14 pm14 an14 cd14 ct14), sl14⟩) (c14 : PySem.W.codeIn K cd14 "Source.__init__" = true) (k14 : PySem.W.keepIn K (.ref f14) = true) (n14 : PySem.W.isFn K (.ref f14) = true)
    (a15 : PySem.W.findIn K (.ref C_Source) "at_end" = some (some (.ref f15))) (l15 : K.lookup f15 = some ⟨oc15, od15, .func (PySem.W.fnOf "at_end" "Source.at_end" (defArgs s_Source_at_end) (defBody s_Source_at_end) (defScope s_Source_at_end) .none kV15 dc15 pm15 an15 cd15 ct15), sl15⟩) (c15 : PySem.W.codeIn K cd15 "Source.at_end" = true) (k15 : PySem.W.keepIn K (.ref f15) = true) (n15 : PySem.W.isFn K (.ref f15) = true)
    (a16 : PySem.W.findIn K (.ref C_Source) "take_letters" = some (some (.ref f16))) (l16 : K.lookup f16 = some ⟨oc16, od16, .func (PySem.W.fnOf "take_letters" "Source.take_letters" (defArgs s_Source_take_letters) (defBody s_Source_take_letters) (defScope s_Source_take_letters) .none kV16 dc16 pm16 an16 cd16 ct16), sl16⟩) (c16 : PySem.W.codeIn K cd16 "Source.take_letters" = true) (k16 : PySem.W.keepIn K (.ref f16) = true) (n16 : PySem.W.isFn K (.ref f16) = true)
    (a17 : PySem.W.findIn K (.ref C_Source) "take_name" = some (some (.ref f17))) (l17 : K.lookup f17 = some ⟨oc17, od17, .func (PySem.W.fnOf "take_name" "Source.take_name" (defArgs s_Source_take_name) (defBody s_Source_take_name) (defScope s_Source_take_name) .none kV17 dc17 pm17 an17 cd17 ct17), sl17⟩) (c17 : PySem.W.codeIn K cd17 "Source.take_name" = true) (k17 : PySem.W.keepIn K (.ref f17) = true) (n17 : PySem.W.isFn K (.ref f17) = true)
    (a18 : PySem.W.findIn K (.ref C_Source) "sees" = some (some (.ref f18))) (l18 : K.lookup f18 = some ⟨oc18, od18, .func (PySem.W.fnOf "sees" "Source.sees" (defArgs s_Source_sees) (defBody s_Source_sees) (defScope s_Source_sees) .none kV18 dc18 pm18 an18 cd18 ct18), sl18⟩) (c18 : PySem.W.codeIn K cd18 "Source.sees" = true) (k18 : PySem.W.keepIn K (.ref f18) = true) (n18 : PySem.W.isFn K (.ref f18) = true)
    (a19 : PySem.W.findIn K (.ref C_Source) "skips" = some (some (.ref f19))) (l19 : K.lookup f19 = some ⟨oc19, od19, .func (PySem.W.fnOf "skips" "Source.skips" (defArgs s_Source_skips) (defBody s_Source_skips) (defScope s_Source_skips) .none kV19 dc19 pm19 an19 cd19 ct19), sl19⟩) (c19 : PySem.W.codeIn K cd19 "Source.skips" = true) (k19 : PySem.W.keepIn K (.ref f19) = true) (n19 : PySem.W.isFn K (.ref f19) = true)
    (a20 : PySem.W.findIn K (.ref C_Source) "must_skip" = some (some (.ref f20))) (l20 : K.lookup f20 = some ⟨oc20, od20, .func (PySem.W.fnOf "must_skip" "Source.must_skip" (defArgs s_Source_must_skip) (defBody s_Source_must_skip) (defScope s_Source_must_skip) .none kV20 dc20 pm20 an20 cd20 ct20), sl20⟩) (c20 : PySem.W.codeIn K cd20 "Source.must_skip" = true) (k20 : PySem.W.keepIn K (.ref f20) = true) (n20 : PySem.W.isFn K (.ref f20) = true)
    (a21 : PySem.W.nsIn K mainGlobals "is_tag" = some (some (.ref f21))) (l21 : K.lookup f21 = some ⟨oc21, od21, .func (PySem.W.fnOf "is_tag" "is_tag" (defArgs s_is_tag) (defBody s_is_tag) (defScope s_is_tag) .none kV21 dc21 pm21 an21 cd21 ct21), sl21⟩) (c21 : PySem.W.codeIn K cd21 "is_tag" = true) (k21 : PySem.W.keepIn K (.ref f21) = true)
    (a22 : PySem.W.findIn K (.ref C_Source) "take_inner" = some (some (.ref f22))) (l22 : K.lookup f22 = some ⟨oc22, od22, .func (PySem.W.fnOf "take_inner" "Source.take_inner" (defArgs s_Source_take_inner) (defBody s_Source_take_inner) (defScope s_Source_take_inner) .none kV22 dc22 pm22 an22 cd22 ct22), sl22⟩) (c22 : PySem.W.codeIn K cd22 "Source.take_inner" = true) (k22 : PySem.W.keepIn K (.ref f22) = true) (n22 : PySem.W.isFn K (.ref f22) = true)
    (a23 : PySem.W.findIn K (.ref C_Source) "take_single" = some (some (.ref f23))) (l23 : K.lookup f23 = some ⟨oc23, od23, .func (PySem.W.fnOf "take_single" "Source.take_single" (defArgs s_Source_take_single) (defBody s_Source_take_single) (defScope s_Source_take_single) .none kV23 dc23 pm23 an23 cd23 ct23), sl23⟩) (c23 : PySem.W.codeIn K cd23 "Source.take_single" = true) (k23 : PySem.W.keepIn K (.ref f23) = true) (n23 : PySem.W.isFn K (.ref f23) = true)
    (a24 : PySem.W.findIn K (.ref C_Source) "take_marked" = some (some (.ref f24))) (l24 : K.lookup f24 = some ⟨oc24, od24, .func (PySem.W.fnOf "take_marked" "Source.take_marked" (defArgs s_Source_take_marked) (defBody s_Source_take_marked) (defScope s_Source_take_marked) .none kV24 dc24 pm24 an24 cd24 ct24), sl24⟩) (c24 : PySem.W.codeIn K cd24 "Source.take_marked" = true) (k24 : PySem.W.keepIn K (.ref f24) = true) (n24 : PySem.W.isFn K (.ref f24) = true)
    (a25 : PySem.W.findIn K (.ref C_Source) "take_turn" = some (some (.ref f25))) (l25 : K.lookup f25 = some ⟨oc25, od25, .func (PySem.W.fnOf "take_turn" "Source.take_turn" (defArgs s_Source_take_turn) (defBody s_Source_take_turn) (defScope s_Source_take_turn) .none kV25 dc25 pm25 an25 cd25 ct25), sl25⟩) (c25 : PySem.W.codeIn K cd25 "Source.take_turn" = true) (k25 : PySem.W.keepIn K (.ref f25) = true) (n25 : PySem.W.isFn K (.ref f25) = true)
    (a26 : PySem.W.findIn K (.ref C_Source) "take_expr" = some (some (.ref f26))) (l26 : K.lookup f26 = some ⟨oc26, od26, .func (PySem.W.fnOf "take_expr" "Source.take_expr" (defArgs s_Source_take_expr) (defBody s_Source_take_expr) (defScope s_Source_take_expr) .none kV26 dc26 pm26 an26 cd26 ct26), sl26⟩) (c26 : PySem.W.codeIn K cd26 "Source.take_expr" = true) (k26 : PySem.W.keepIn K (.ref f26) = true) (n26 : PySem.W.isFn K (.ref f26) = true)
    (a27 : PySem.W.nsIn K mainGlobals "take_pair" = some (some (.ref f27))) (l27 : K.lookup f27 = some ⟨oc27, od27, .func (PySem.W.fnOf "take_pair" "take_pair" (defArgs s_take_pair) (defBody s_take_pair) (defScope s_take_pair) .none kV27 dc27 pm27 an27 cd27 ct27), sl27⟩) (c27 : PySem.W.codeIn K cd27 "take_pair" = true) (k27 : PySem.W.keepIn K (.ref f27) = true)
    (a28 : PySem.W.nsIn K mainGlobals "depth_of" = some (some (.ref f28))) (l28 : K.lookup f28 = some ⟨oc28, od28, .func (PySem.W.fnOf "depth_of" "depth_of" (defArgs s_depth_of) (defBody s_depth_of) (defScope s_depth_of) .none kV28 dc28 pm28 an28 cd28 ct28), sl28⟩) (c28 : PySem.W.codeIn K cd28 "depth_of" = true) (k28 : PySem.W.keepIn K (.ref f28) = true)
    (a29 : PySem.W.nsIn K mainGlobals "read_pairs" = some (some (.ref f29))) (l29 : K.lookup f29 = some ⟨oc29, od29, .func (PySem.W.fnOf "read_pairs" "read_pairs" (defArgs s_read_pairs) (defBody s_read_pairs) (defScope s_read_pairs) .none kV29 dc29 pm29 an29 cd29 ct29), sl29⟩) (c29 : PySem.W.codeIn K cd29 "read_pairs" = true) (k29 : PySem.W.keepIn K (.ref f29) = true)
    (a30 : PySem.W.nsIn K mainGlobals "refuse_doubles" = some (some (.ref f30))) (l30 : K.lookup f30 = some ⟨oc30, od30, .func (PySem.W.fnOf "refuse_doubles" "refuse_doubles" (defArgs s_refuse_doubles) (defBody s_refuse_doubles) (defScope s_refuse_doubles) .none kV30 dc30 pm30 an30 cd30 ct30), sl30⟩) (c30 : PySem.W.codeIn K cd30 "refuse_doubles" = true) (k30 : PySem.W.keepIn K (.ref f30) = true)
    (a31 : PySem.W.nsIn K mainGlobals "names_in" = some (some (.ref f31))) (l31 : K.lookup f31 = some ⟨oc31, od31, .func (PySem.W.fnOf "names_in" "names_in" (defArgs s_names_in) (defBody s_names_in) (defScope s_names_in) .none kV31 dc31 pm31 an31 cd31 ct31), sl31⟩) (c31 : PySem.W.codeIn K cd31 "names_in" = true) (k31 : PySem.W.keepIn K (.ref f31) = true)
    (a32 : PySem.W.nsIn K mainGlobals "refuse_unnamed" = some (some (.ref f32))) (l32 : K.lookup f32 = some ⟨oc32, od32, .func (PySem.W.fnOf "refuse_unnamed" "refuse_unnamed" (defArgs s_refuse_unnamed) (defBody s_refuse_unnamed) (defScope s_refuse_unnamed) .none kV32 dc32 pm32 an32 cd32 ct32), sl32⟩) (c32 : PySem.W.codeIn K cd32 "refuse_unnamed" = true) (k32 : PySem.W.keepIn K (.ref f32) = true)
    (a33 : PySem.W.nsIn K mainGlobals "names_outside" = some (some (.ref f33))) (l33 : K.lookup f33 = some ⟨oc33, od33, .func (PySem.W.fnOf "names_outside" "names_outside" (defArgs s_names_outside) (defBody s_names_outside) (defScope s_names_outside) .none kV33 dc33 pm33 an33 cd33 ct33), sl33⟩) (c33 : PySem.W.codeIn K cd33 "names_outside" = true) (k33 : PySem.W.keepIn K (.ref f33) = true)
    (a34 : PySem.W.nsIn K mainGlobals "ring_or_before" = some (some (.ref f34))) (l34 : K.lookup f34 = some ⟨oc34, od34, .func (PySem.W.fnOf "ring_or_before" "ring_or_before" (defArgs s_ring_or_before) (defBody s_ring_or_before) (defScope s_ring_or_before) .none kV34 dc34 pm34 an34 cd34 ct34), sl34⟩) (c34 : PySem.W.codeIn K cd34 "ring_or_before" = true) (k34 : PySem.W.keepIn K (.ref f34) = true)
    (a35 : PySem.W.nsIn K mainGlobals "refuse_rings" = some (some (.ref f35))) (l35 : K.lookup f35 = some ⟨oc35, od35, .func (PySem.W.fnOf "refuse_rings" "refuse_rings" (defArgs s_refuse_rings) (defBody s_refuse_rings) (defScope s_refuse_rings) .none kV35 dc35 pm35 an35 cd35 ct35), sl35⟩) (c35 : PySem.W.codeIn K cd35 "refuse_rings" = true) (k35 : PySem.W.keepIn K (.ref f35) = true)
    (a36 : PySem.W.nsIn K mainGlobals "read" = some (some (.ref f36))) (l36 : K.lookup f36 = some ⟨oc36, od36, .func (PySem.W.fnOf "read" "read" (defArgs s_read) (defBody s_read) (defScope s_read) .none kV36 dc36 pm36 an36 cd36 ct36), sl36⟩) (c36 : PySem.W.codeIn K cd36 "read" = true) (k36 : PySem.W.keepIn K (.ref f36) = true)
    (a37 : PySem.W.nsIn K mainGlobals "law" = some (some (.ref f37))) (l37 : K.lookup f37 = some ⟨oc37, od37, .func (PySem.W.fnOf "law" "law" (defArgs s_law) (defBody s_law) (defScope s_law) .none kV37 dc37 pm37 an37 cd37 ct37), sl37⟩) (c37 : PySem.W.codeIn K cd37 "law" = true) (k37 : PySem.W.keepIn K (.ref f37) = true)
    {tk0 tk1 tk2 tk3 tk4 : Tok} (y0 : PySem.W.nsIn K mainGlobals "DEEPEST" = some (some (.int 12 tk0))) (y1 : PySem.W.nsIn K mainGlobals "LONGEST_NAME" = some (some (.int 8 tk1))) (y2 : PySem.W.nsIn K mainGlobals "LONGEST_TAG" = some (some (.int 8 tk2))) (y3 : PySem.W.nsIn K mainGlobals "MOST_PAIRS" = some (some (.int 8 tk3))) (y4 : PySem.W.nsIn K mainGlobals "MOST_SIGNS" = some (some (.int 400 tk4)))
    {A_NIL A_MARKS A_BRACED B1 B2 B3 B4 B5 : Addr}
    {dd0 : Option Addr} {tt0_0 : Tok} {nn0 : Nat} {ss0 : Array (Option Value)}
    {dd1 : Option Addr} {tt1_0 tt1_1 : Tok} {nn1 : Nat} {ss1 : Array (Option Value)}
    {dd2 : Option Addr} {tt2_0 : Tok} {nn2 : Nat} {ss2 : Array (Option Value)}
    {dd3 : Option Addr} {tt3_0 tt3_1 tt3_2 tt3_3 tt3_4 : Tok} {nn3 : Nat} {ss3 : Array (Option Value)}
    {dd4 : Option Addr} {tt4_0 tt4_1 tt4_2 tt4_3 tt4_4 : Tok} {nn4 : Nat} {ss4 : Array (Option Value)}
    {dd5 : Option Addr} {tt5_0 tt5_1 tt5_2 tt5_3 tt5_4 : Tok} {nn5 : Nat} {ss5 : Array (Option Value)}
    (yNIL : PySem.W.nsIn K mainGlobals "NIL" = some (some (.ref A_NIL))) (yMARKS : PySem.W.nsIn K mainGlobals "MARKS" = some (some (.ref A_MARKS))) (yBRACED : PySem.W.nsIn K mainGlobals "BRACED" = some (some (.ref A_BRACED)))
    {hM0 hM1 hM2 hB0 hB1 hB2 hB3 hB4 : Int} {kM0 kM1 kM2 uM0 uM1 uM2 kB0 kB1 kB2 kB3 kB4 : Tok} {eM eB : Nat} {slM slB : Array (Option Value)}
    (lkM : K.lookup A_MARKS = some ⟨.type "dict", none, .dict #[{ hash := hM0, key := .str "many" kM0, val := .str "*" uM0 }, { hash := hM1, key := .str "some" kM1, val := .str "+" uM1 }, { hash := hM2, key := .str "maybe" kM2, val := .str "?" uM2 }] eM, slM⟩)
    (lkB : K.lookup A_BRACED = some ⟨.type "dict", none, .dict #[{ hash := hB0, key := .str "turn" kB0, val := .ref B1 }, { hash := hB1, key := .str "or" kB1, val := .ref B2 }, { hash := hB2, key := .str "many" kB2, val := .ref B3 }, { hash := hB3, key := .str "some" kB3, val := .ref B4 }, { hash := hB4, key := .str "maybe" kB4, val := .ref B5 }] eB, slB⟩)
    (lk0 : K.lookup A_NIL = some ⟨.type "tuple", dd0, .seq #[.str "nil" tt0_0] nn0, ss0⟩)
    (lk1 : K.lookup B1 = some ⟨.type "tuple", dd1, .seq #[.str "turn" tt1_0, .str "or" tt1_1] nn1, ss1⟩)
    (lk2 : K.lookup B2 = some ⟨.type "tuple", dd2, .seq #[.str "or" tt2_0] nn2, ss2⟩)
    (lk3 : K.lookup B3 = some ⟨.type "tuple", dd3, .seq #[.str "turn" tt3_0, .str "or" tt3_1, .str "many" tt3_2, .str "some" tt3_3, .str "maybe" tt3_4] nn3, ss3⟩)
    (lk4 : K.lookup B4 = some ⟨.type "tuple", dd4, .seq #[.str "turn" tt4_0, .str "or" tt4_1, .str "many" tt4_2, .str "some" tt4_3, .str "maybe" tt4_4] nn4, ss4⟩)
    (lk5 : K.lookup B5 = some ⟨.type "tuple", dd5, .seq #[.str "turn" tt5_0, .str "or" tt5_1, .str "many" tt5_2, .str "some" tt5_3, .str "maybe" tt5_4] nn5, ss5⟩)
    (ysm : (A_MARKS == sysModules) = false)
    (z0 : PySem.W.nsIn K mainGlobals "all" = some none) (z1 : PySem.W.nsIn K mainGlobals "any" = some none) (z2 : PySem.W.nsIn K mainGlobals "dict" = some none) (z3 : PySem.W.nsIn K mainGlobals "isinstance" = some none) (z4 : PySem.W.nsIn K mainGlobals "len" = some none) (z5 : PySem.W.nsIn K mainGlobals "list" = some none) (z6 : PySem.W.nsIn K mainGlobals "max" = some none) (z7 : PySem.W.nsIn K mainGlobals "min" = some none) (z8 : PySem.W.nsIn K mainGlobals "range" = some none) (z9 : PySem.W.nsIn K mainGlobals "str" = some none) (z10 : PySem.W.nsIn K mainGlobals "tuple" = some none) :
    ∃ fd : FuncData, (∀ (s : Shared) (v : Value), BindsTo s fd ⟨[v], []⟩ [("_law_script", v)]) ∧ ∀ base : Heap, K.In base → base.Ns mainGlobals mg → FnOk l.prog w K mg base CX0 68 fa fd ["_law_script"] (Fg.spLaw K) := by
  have e := hfa.symm.trans (PySem.W.mg_of X G a37)
  cases e
  have B : ∀ x ∈ blts, mg x = none := List.forall_mem_cons.mpr ⟨PySem.W.mg_none_of X G z0, List.forall_mem_cons.mpr ⟨PySem.W.mg_none_of X G z1, List.forall_mem_cons.mpr ⟨PySem.W.mg_none_of X G z2, List.forall_mem_cons.mpr ⟨PySem.W.mg_none_of X G z3, List.forall_mem_cons.mpr ⟨PySem.W.mg_none_of X G z4, List.forall_mem_cons.mpr ⟨PySem.W.mg_none_of X G z5, List.forall_mem_cons.mpr ⟨PySem.W.mg_none_of X G z6, List.forall_mem_cons.mpr ⟨PySem.W.mg_none_of X G z7, List.forall_mem_cons.mpr ⟨PySem.W.mg_none_of X G z8, List.forall_mem_cons.mpr ⟨PySem.W.mg_none_of X G z9, List.forall_mem_cons.mpr ⟨PySem.W.mg_none_of X G z10, List.forall_mem_nil _⟩⟩⟩⟩⟩⟩⟩⟩⟩⟩⟩
  have Cc_DEEPEST : ∃ t : Tok, mg "DEEPEST" = some (.int 12 t) := ⟨_, PySem.W.mg_of X G y0⟩
  have Cc_LONGEST_NAME : ∃ t : Tok, mg "LONGEST_NAME" = some (.int 8 t) := ⟨_, PySem.W.mg_of X G y1⟩
  have Cc_LONGEST_TAG : ∃ t : Tok, mg "LONGEST_TAG" = some (.int 8 t) := ⟨_, PySem.W.mg_of X G y2⟩
  have Cc_MOST_PAIRS : ∃ t : Tok, mg "MOST_PAIRS" = some (.int 8 t) := ⟨_, PySem.W.mg_of X G y3⟩
  have Cc_MOST_SIGNS : ∃ t : Tok, mg "MOST_SIGNS" = some (.int 400 t) := ⟨_, PySem.W.mg_of X G y4⟩
  have F1 := fun_mk (st := s_l_next) l1 c1 k1
  have b1 := F1.binds (ps := ["_law_script", "_law_state"]) fun _ _ _ _ _ _ us hl => by obtain ⟨_, _, rfl⟩ := len2 hl; rfl
  have F2 := fun_mk (st := s_l_word) l2 c2 k2
  have b2 := F2.binds (ps := ["_law_cell", "_law_letters"]) fun _ _ _ _ _ _ us hl => by obtain ⟨_, _, rfl⟩ := len2 hl; rfl
  have F3 := fun_mk (st := s_l_names) l3 c3 k3
  have b3 := F3.binds (ps := ["_law_cell", "_law_many"]) fun _ _ _ _ _ _ us hl => by obtain ⟨_, _, rfl⟩ := len2 hl; rfl
  have F4 := fun_mk (st := s_l_leaf) l4 c4 k4
  have b4 := F4.binds (ps := ["_law_cell", "_law_room", "_law_some"]) fun _ _ _ _ _ _ us hl => by obtain ⟨_, _, _, rfl⟩ := len3 hl; rfl
  have F5 := fun_mk (st := s_l_braced) l5 c5 k5
  have b5 := F5.binds (ps := ["_law_made_here", "_law_words"]) fun _ _ _ _ _ _ us hl => by obtain ⟨_, _, rfl⟩ := len2 hl; rfl
  have F6 := fun_mk (st := s_l_several) l6 c6 k6
  have b6 := F6.binds (ps := ["_law_script", "_law_state", "_law_room", "_law_cell", "_law_names_here"]) fun _ _ _ _ _ _ us hl => by obtain ⟨_, _, _, _, _, rfl⟩ := len5 hl; rfl
  have F7 := fun_mk (st := s_l_made) l7 c7 k7
  have b7 := F7.binds (ps := ["_law_script", "_law_state", "_law_room", "_law_names_here"]) fun _ _ _ _ _ _ us hl => by obtain ⟨_, _, _, _, rfl⟩ := len4 hl; rfl
  have F8 := fun_mk (st := s_l_book) l8 c8 k8
  have b8 := F8.binds (ps := ["_law_script", "_law_state"]) fun _ _ _ _ _ _ us hl => by obtain ⟨_, _, rfl⟩ := len2 hl; rfl
  have F9 := fun_mk (st := s_parts_of) l9 c9 k9
  have b9 := F9.binds (ps := ["expr"]) fun _ _ _ _ _ _ us hl => by obtain ⟨_, rfl⟩ := len1 hl; rfl
  have F10 := fun_mk (st := s_shown_part) l10 c10 k10
  have b10 := F10.binds (ps := ["around", "part"]) fun _ _ _ _ _ _ us hl => by obtain ⟨_, _, rfl⟩ := len2 hl; rfl
  have F11 := fun_mk (st := s_shown_expr) l11 c11 k11
  have b11 := F11.binds (ps := ["expr"]) fun _ _ _ _ _ _ us hl => by obtain ⟨_, rfl⟩ := len1 hl; rfl
  have F12 := fun_mk (st := s_shown) l12 c12 k12
  have b12 := F12.binds (ps := ["book"]) fun _ _ _ _ _ _ us hl => by obtain ⟨_, rfl⟩ := len1 hl; rfl
  have F13 := fun_mk (st := s_l_alike) l13 c13 k13
  have b13 := F13.binds (ps := ["_law_told", "_law_due"]) fun _ _ _ _ _ _ us hl => by obtain ⟨_, _, rfl⟩ := len2 hl; rfl
  have F14 := fun_mk (st := s_Source___init__) l14 c14 k14
  have b14 := F14.binds (ps := ["self", "text"]) fun _ _ _ _ _ _ us hl => by obtain ⟨_, _, rfl⟩ := len2 hl; rfl
  have F15 := fun_mk (st := s_Source_at_end) l15 c15 k15
  have b15 := F15.binds (ps := ["self"]) fun _ _ _ _ _ _ us hl => by obtain ⟨_, rfl⟩ := len1 hl; rfl
  have F16 := fun_mk (st := s_Source_take_letters) l16 c16 k16
  have b16 := F16.binds (ps := ["self", "first", "last"]) fun _ _ _ _ _ _ us hl => by obtain ⟨_, _, _, rfl⟩ := len3 hl; rfl
  have F17 := fun_mk (st := s_Source_take_name) l17 c17 k17
  have b17 := F17.binds (ps := ["self"]) fun _ _ _ _ _ _ us hl => by obtain ⟨_, rfl⟩ := len1 hl; rfl
  have F18 := fun_mk (st := s_Source_sees) l18 c18 k18
  have b18 := F18.binds (ps := ["self", "piece"]) fun _ _ _ _ _ _ us hl => by obtain ⟨_, _, rfl⟩ := len2 hl; rfl
  have F19 := fun_mk (st := s_Source_skips) l19 c19 k19
  have b19 := F19.binds (ps := ["self", "piece"]) fun _ _ _ _ _ _ us hl => by obtain ⟨_, _, rfl⟩ := len2 hl; rfl
  have F20 := fun_mk (st := s_Source_must_skip) l20 c20 k20
  have b20 := F20.binds (ps := ["self", "piece"]) fun _ _ _ _ _ _ us hl => by obtain ⟨_, _, rfl⟩ := len2 hl; rfl
  have F21 := fun_mk (st := s_is_tag) l21 c21 k21
  have b21 := F21.binds (ps := ["text"]) fun _ _ _ _ _ _ us hl => by obtain ⟨_, rfl⟩ := len1 hl; rfl
  have F22 := fun_mk (st := s_Source_take_inner) l22 c22 k22
  have b22 := F22.binds (ps := ["self", "levels"]) fun _ _ _ _ _ _ us hl => by obtain ⟨_, _, rfl⟩ := len2 hl; rfl
  have F23 := fun_mk (st := s_Source_take_single) l23 c23 k23
  have b23 := F23.binds (ps := ["self", "levels"]) fun _ _ _ _ _ _ us hl => by obtain ⟨_, _, rfl⟩ := len2 hl; rfl
  have F24 := fun_mk (st := s_Source_take_marked) l24 c24 k24
  have b24 := F24.binds (ps := ["self", "levels"]) fun _ _ _ _ _ _ us hl => by obtain ⟨_, _, rfl⟩ := len2 hl; rfl
  have F25 := fun_mk (st := s_Source_take_turn) l25 c25 k25
  have b25 := F25.binds (ps := ["self", "levels"]) fun _ _ _ _ _ _ us hl => by obtain ⟨_, _, rfl⟩ := len2 hl; rfl
  have F26 := fun_mk (st := s_Source_take_expr) l26 c26 k26
  have b26 := F26.binds (ps := ["self", "levels"]) fun _ _ _ _ _ _ us hl => by obtain ⟨_, _, rfl⟩ := len2 hl; rfl
  have F27 := fun_mk (st := s_take_pair) l27 c27 k27
  have b27 := F27.binds (ps := ["source"]) fun _ _ _ _ _ _ us hl => by obtain ⟨_, rfl⟩ := len1 hl; rfl
  have F28 := fun_mk (st := s_depth_of) l28 c28 k28
  have b28 := F28.binds (ps := ["expr"]) fun _ _ _ _ _ _ us hl => by obtain ⟨_, rfl⟩ := len1 hl; rfl
  have F29 := fun_mk (st := s_read_pairs) l29 c29 k29
  have b29 := F29.binds (ps := ["text"]) fun _ _ _ _ _ _ us hl => by obtain ⟨_, rfl⟩ := len1 hl; rfl
  have F30 := fun_mk (st := s_refuse_doubles) l30 c30 k30
  have b30 := F30.binds (ps := ["book"]) fun _ _ _ _ _ _ us hl => by obtain ⟨_, rfl⟩ := len1 hl; rfl
  have F31 := fun_mk (st := s_names_in) l31 c31 k31
  have b31 := F31.binds (ps := ["expr"]) fun _ _ _ _ _ _ us hl => by obtain ⟨_, rfl⟩ := len1 hl; rfl
  have F32 := fun_mk (st := s_refuse_unnamed) l32 c32 k32
  have b32 := F32.binds (ps := ["book"]) fun _ _ _ _ _ _ us hl => by obtain ⟨_, rfl⟩ := len1 hl; rfl
  have F33 := fun_mk (st := s_names_outside) l33 c33 k33
  have b33 := F33.binds (ps := ["expr"]) fun _ _ _ _ _ _ us hl => by obtain ⟨_, rfl⟩ := len1 hl; rfl
  have F34 := fun_mk (st := s_ring_or_before) l34 c34 k34
  have b34 := F34.binds (ps := ["uses", "names"]) fun _ _ _ _ _ _ us hl => by obtain ⟨_, _, rfl⟩ := len2 hl; rfl
  have F35 := fun_mk (st := s_refuse_rings) l35 c35 k35
  have b35 := F35.binds (ps := ["book"]) fun _ _ _ _ _ _ us hl => by obtain ⟨_, rfl⟩ := len1 hl; rfl
  have F36 := fun_mk (st := s_read) l36 c36 k36
  have b36 := F36.binds (ps := ["text"]) fun _ _ _ _ _ _ us hl => by obtain ⟨_, rfl⟩ := len1 hl; rfl
  have F37 := fun_mk (st := s_law) l37 c37 k37
  refine ⟨PySem.W.fnOf "law" "law" (defArgs s_law) (defBody s_law) (defScope s_law) .none kV37 dc37 pm37 an37 cd37 ct37, fun s v => .of_eq rfl, fun base _ _ => ?_⟩
  have C := K21.con20 (PySem.W.mg_of X G yNIL) (PySem.W.mg_of X G yMARKS) (PySem.W.mg_of X G yBRACED) lkM lkB lk0 lk1 lk2 lk3 lk4 lk5
  have marksD : KTab K A_MARKS K21.mks := ⟨_, _, _, lkM, .cons rfl ⟨_, rfl⟩ (.cons rfl ⟨_, rfl⟩ (.cons rfl ⟨_, rfl⟩ .nil))⟩
  have c_Source : K21.SrC K C_Source := ⟨⟨cp1, ch1, cq1, cs1⟩, cx1_0, cx1_1⟩
  have g_l_next : Has l.prog w K mg base "_law_next" ["_law_script", "_law_state"] 1 (K21.spNext K) := ⟨⟨f1, _, ok_l_next B  F1, b1, k1, PySem.W.mg_of X G a1⟩⟩
  have g_l_word : Has l.prog w K mg base "_law_word" ["_law_cell", "_law_letters"] 1 (K21.spWd) := ⟨⟨f2, _, ok_l_word B  F2, b2, k2, PySem.W.mg_of X G a2⟩⟩
  have g_l_names : Has l.prog w K mg base "_law_names" ["_law_cell", "_law_many"] 2 (K21.spNames) := ⟨⟨f3, _, ok_l_names B g_l_word F3, b3, k3, PySem.W.mg_of X G a3⟩⟩
  have g_l_leaf : Has l.prog w K mg base "_law_leaf" ["_law_cell", "_law_room", "_law_some"] 2 (K21.spLeaf) := ⟨⟨f4, _, ok_l_leaf B g_l_word F4, b4, k4, PySem.W.mg_of X G a4⟩⟩
  have g_l_braced : Has l.prog w K mg base "_law_braced" ["_law_made_here", "_law_words"] 1 (K21.spBraced K) := ⟨⟨f5, _, ok_l_braced B  F5, b5, k5, PySem.W.mg_of X G a5⟩⟩
  -- with _law_made
  have rm : ∀ n : Nat, Has l.prog w K mg base "_law_made" ["_law_script", "_law_state", "_law_room", "_law_names_here"] (2 * n + 4) (K21.spMade K n) ∧ Has l.prog w K mg base "_law_several" ["_law_script", "_law_state", "_law_room", "_law_cell", "_law_names_here"] (2 * n + 5) (K21.spSeveral K n) := by
    intro n
    induction n with
    | zero =>
      have h0 : Has l.prog w K mg base "_law_made" ["_law_script", "_law_state", "_law_room", "_law_names_here"] (2 * 0 + 4) (K21.spMade K 0) := ⟨⟨f7, _, FnOk.none (fun vs H Q E z => by obtain ⟨a, ns, st, i, lf, room, nh, ot, al, _, _, _, h1, h2, _⟩ := z; (first | lia | omega)), b7, k7, PySem.W.mg_of X G a7⟩⟩
      exact ⟨h0, ⟨⟨f6, _, ok_l_several 0 B h0 g_l_braced F6, b6, k6, PySem.W.mg_of X G a6⟩⟩⟩
    | succ n ih =>
      have h1 : Has l.prog w K mg base "_law_made" ["_law_script", "_law_state", "_law_room", "_law_names_here"] (2 * (n + 1) + 4) (K21.spMade K (n + 1)) := ⟨⟨f7, _, ok_l_made n B g_l_next g_l_leaf ih.2 ih.1 g_l_word g_l_braced F7, b7, k7, PySem.W.mg_of X G a7⟩⟩
      exact ⟨h1, ⟨⟨f6, _, ok_l_several (n + 1) B h1 g_l_braced F6, b6, k6, PySem.W.mg_of X G a6⟩⟩⟩
  have g_l_made := (rm 13).1
  have g_l_book : Has l.prog w K mg base "_law_book" ["_law_script", "_law_state"] 31 (K21.spBook K) := ⟨⟨f8, _, ok_l_book B g_l_next g_l_names g_l_made F8, b8, k8, PySem.W.mg_of X G a8⟩⟩
  have g_parts_of : Has l.prog w K mg base "parts_of" ["expr"] 1 (K21.spPartsOfK K) := ⟨⟨f9, _, ok_parts_of B  F9, b9, k9, PySem.W.mg_of X G a9⟩⟩
  -- with shown_expr
  have rs : ∀ d : Nat, Has l.prog w K mg base "shown_expr" ["expr"] (2 * d + 1) (K21.spShowK K d) ∧ Has l.prog w K mg base "shown_part" ["around", "part"] (2 * d + 2) (K21.spPartK K d) := by
    intro d
    induction d with
    | zero =>
      have h0 : Has l.prog w K mg base "shown_expr" ["expr"] (2 * 0 + 1) (K21.spShowK K 0) := ⟨⟨f11, _, FnOk.none (fun vs H Q E z => by obtain ⟨p, e, _, _, hd, _⟩ := z; exact absurd hd (Nat.not_lt_zero _)), b11, k11, PySem.W.mg_of X G a11⟩⟩
      exact ⟨h0, ⟨⟨f10, _, ok_shown_part 0 A_NIL A_MARKS A_BRACED B C h0 F10, b10, k10, PySem.W.mg_of X G a10⟩⟩⟩
    | succ d ih =>
      have h1 : Has l.prog w K mg base "shown_expr" ["expr"] (2 * (d + 1) + 1) (K21.spShowK K (d + 1)) := ⟨⟨f11, _, ok_shown_expr d A_NIL A_MARKS A_BRACED B C ih.1 g_parts_of ih.2 F11, b11, k11, PySem.W.mg_of X G a11⟩⟩
      exact ⟨h1, ⟨⟨f10, _, ok_shown_part (d + 1) A_NIL A_MARKS A_BRACED B C h1 F10, b10, k10, PySem.W.mg_of X G a10⟩⟩⟩
  have g_shown_expr := (rs 13).1
  have g_shown : Has l.prog w K mg base "shown" ["book"] 28 (K21.spShown K) := ⟨⟨f12, _, ok_shown B g_shown_expr F12, b12, k12, PySem.W.mg_of X G a12⟩⟩
  have r_l_alike : ∀ d : Nat, Has l.prog w K mg base "_law_alike" ["_law_told", "_law_due"] d (K21.spAlike K d) := by
    intro d
    induction d with
    | zero => exact ⟨⟨f13, _, FnOk.none (fun vs H Q E z => by obtain ⟨x, y, _, h, _⟩ := z; cases h), b13, k13, PySem.W.mg_of X G a13⟩⟩
    | succ d ih => exact ⟨⟨f13, _, ok_l_alike d B ih F13, b13, k13, PySem.W.mg_of X G a13⟩⟩
  have g_l_alike := r_l_alike 28
  have g_Source : HasC l.prog w K mg base C_Source "Source" ["self", "text"] 1 (K21.spSInit C_Source) := ⟨⟨f14, _, ok_Source___init__ B c_Source  F14, b14, ⟨cm1, a14, n14, ck1⟩, PySem.W.mg_of X G cn1⟩⟩
  have g_Source_at_end : HasM l.prog w K mg base C_Source "at_end" ["self"] 1 (K21.spSEnd C_Source) := ⟨⟨f15, _, ok_Source_at_end B c_Source  F15, b15, ⟨a15, n15, k15⟩⟩⟩
  have g_Source_take_letters : HasM l.prog w K mg base C_Source "take_letters" ["self", "first", "last"] 2 (K21.spLetters C_Source) := ⟨⟨f16, _, ok_Source_take_letters B c_Source g_Source_at_end F16, b16, ⟨a16, n16, k16⟩⟩⟩
  have g_Source_take_name : HasM l.prog w K mg base C_Source "take_name" ["self"] 3 (K21.spTName C_Source) := ⟨⟨f17, _, ok_Source_take_name B Cc_LONGEST_NAME c_Source g_Source_take_letters F17, b17, ⟨a17, n17, k17⟩⟩⟩
  have g_Source_sees : HasM l.prog w K mg base C_Source "sees" ["self", "piece"] 1 (K21.spSees C_Source) := ⟨⟨f18, _, ok_Source_sees B c_Source  F18, b18, ⟨a18, n18, k18⟩⟩⟩
  have g_Source_skips : HasM l.prog w K mg base C_Source "skips" ["self", "piece"] 2 (K21.spSkips C_Source) := ⟨⟨f19, _, ok_Source_skips B c_Source g_Source_sees F19, b19, ⟨a19, n19, k19⟩⟩⟩
  have g_Source_must_skip : HasM l.prog w K mg base C_Source "must_skip" ["self", "piece"] 3 (K21.spMust C_Source) := ⟨⟨f20, _, ok_Source_must_skip B c_Source g_Source_skips F20, b20, ⟨a20, n20, k20⟩⟩⟩
  have g_is_tag : Has l.prog w K mg base "is_tag" ["text"] 1 (Fg.spIsTag) := ⟨⟨f21, _, ok_is_tag B Cc_LONGEST_TAG  F21, b21, k21, PySem.W.mg_of X G a21⟩⟩
  -- with take_expr
  -- with take_expr
  -- with take_expr
  -- with take_expr
  have rt : ∀ L : Nat, HasM l.prog w K mg base C_Source "take_expr" ["self", "levels"] (5 * L + 4) (K21.spExprT K C_Source L) := by
    intro L
    induction L with
    | zero => exact ⟨⟨f26, _, FnOk.none (fun vs H Q E z => by obtain ⟨a, dx, T, n, e, r, _, _, _, _, _, _, hd, _⟩ := z; exact absurd hd (Nat.not_lt_zero _)), b26, ⟨a26, n26, k26⟩⟩⟩
    | succ L ih =>
      have h1 : HasM l.prog w K mg base C_Source "take_inner" ["self", "levels"] (5 * L + 5) (K21.spInnT K C_Source (L + 1)) := ⟨⟨f22, _, ok_Source_take_inner L B C.nil C.nilT c_Source g_Source_skips ih g_Source_must_skip F22, b22, ⟨a22, n22, k22⟩⟩⟩
      have h2 : HasM l.prog w K mg base C_Source "take_single" ["self", "levels"] (5 * L + 6) (K21.spSingT K C_Source (L + 1)) := ⟨⟨f23, _, ok_Source_take_single L B C.nil C.nilT c_Source g_Source_skips ih g_Source_must_skip g_Source_take_letters g_Source_take_name g_is_tag h1 F23, b23, ⟨a23, n23, k23⟩⟩⟩
      have h3 : HasM l.prog w K mg base C_Source "take_marked" ["self", "levels"] (5 * L + 7) (K21.spMarkT K C_Source (L + 1)) := ⟨⟨f24, _, ok_Source_take_marked L B C.marks marksD ysm c_Source h2 g_Source_skips F24, b24, ⟨a24, n24, k24⟩⟩⟩
      have h4 : HasM l.prog w K mg base C_Source "take_turn" ["self", "levels"] (5 * L + 8) (K21.spTurnT K C_Source (L + 1)) := ⟨⟨f25, _, ok_Source_take_turn L B c_Source h3 g_Source_sees g_Source_skips F25, b25, ⟨a25, n25, k25⟩⟩⟩
      exact ⟨⟨f26, _, ok_Source_take_expr L B c_Source h4 g_Source_skips F26, b26, ⟨a26, n26, k26⟩⟩⟩
  have g_Source_take_expr := rt 12
  have g_take_pair : Has l.prog w K mg base "take_pair" ["source"] 65 (K21.spPair K C_Source) := ⟨⟨f27, _, ok_take_pair B Cc_DEEPEST c_Source g_Source_take_name g_Source_must_skip g_Source_take_expr F27, b27, k27, PySem.W.mg_of X G a27⟩⟩
  have r_depth_of : ∀ d : Nat, Has l.prog w K mg base "depth_of" ["expr"] (d + 1) (K21.spDep K d) := by
    intro d
    induction d with
    | zero => exact ⟨⟨f28, _, FnOk.none (fun vs H Q E z => by obtain ⟨p, e, _, _, hd, _⟩ := z; exact absurd hd (Nat.not_lt_zero _)), b28, k28, PySem.W.mg_of X G a28⟩⟩
    | succ d ih => exact ⟨⟨f28, _, ok_depth_of d B g_parts_of ih F28, b28, k28, PySem.W.mg_of X G a28⟩⟩
  have g_depth_of := r_depth_of 13
  have g_read_pairs : Has l.prog w K mg base "read_pairs" ["text"] 66 (K21.spReadP K) := ⟨⟨f29, _, ok_read_pairs B Cc_MOST_SIGNS Cc_MOST_PAIRS Cc_DEEPEST c_Source g_Source g_take_pair g_Source_skips g_shown g_Source_at_end g_depth_of F29, b29, k29, PySem.W.mg_of X G a29⟩⟩
  have g_refuse_doubles : Has l.prog w K mg base "refuse_doubles" ["book"] 1 (K21.spDoubles K) := ⟨⟨f30, _, ok_refuse_doubles B  F30, b30, k30, PySem.W.mg_of X G a30⟩⟩
  have r_names_in : ∀ d : Nat, Has l.prog w K mg base "names_in" ["expr"] (d + 1) (K21.spNm K true d) := by
    intro d
    induction d with
    | zero => exact ⟨⟨f31, _, FnOk.none (fun vs H Q E z => by obtain ⟨p, e, _, _, hd, _⟩ := z; exact absurd hd (Nat.not_lt_zero _)), b31, k31, PySem.W.mg_of X G a31⟩⟩
    | succ d ih => exact ⟨⟨f31, _, ok_names_in d B g_parts_of ih F31, b31, k31, PySem.W.mg_of X G a31⟩⟩
  have g_names_in := r_names_in 13
  have g_refuse_unnamed : Has l.prog w K mg base "refuse_unnamed" ["book"] 15 (K21.spUnnamed K) := ⟨⟨f32, _, ok_refuse_unnamed B g_names_in F32, b32, k32, PySem.W.mg_of X G a32⟩⟩
  have r_names_outside : ∀ d : Nat, Has l.prog w K mg base "names_outside" ["expr"] (d + 1) (K21.spNm K false d) := by
    intro d
    induction d with
    | zero => exact ⟨⟨f33, _, FnOk.none (fun vs H Q E z => by obtain ⟨p, e, _, _, hd, _⟩ := z; exact absurd hd (Nat.not_lt_zero _)), b33, k33, PySem.W.mg_of X G a33⟩⟩
    | succ d ih => exact ⟨⟨f33, _, ok_names_outside d B g_parts_of ih F33, b33, k33, PySem.W.mg_of X G a33⟩⟩
  have g_names_outside := r_names_outside 13
  have g_ring_or_before : Has l.prog w K mg base "ring_or_before" ["uses", "names"] 1 (K21.spRob K) := ⟨⟨f34, _, ok_ring_or_before B  F34, b34, k34, PySem.W.mg_of X G a34⟩⟩
  have g_refuse_rings : Has l.prog w K mg base "refuse_rings" ["book"] 15 (K21.spRings K) := ⟨⟨f35, _, ok_refuse_rings B g_names_outside g_ring_or_before F35, b35, k35, PySem.W.mg_of X G a35⟩⟩
  have g_read : Has l.prog w K mg base "read" ["text"] 67 (K21.spRead K) := ⟨⟨f36, _, ok_read B g_read_pairs g_refuse_doubles g_refuse_unnamed g_refuse_rings F36, b36, k36, PySem.W.mg_of X G a36⟩⟩
  exact ok_law B g_l_book g_shown g_l_alike g_read F37
theorem walk {l : PySem.W.OpenLaw} {q : Program} {loose : List Str} {XP : (Str → Option Value) → Heap → Prop} {YP : World → Heap → Prop} {d : DefRec} {K : Params → PySem.W.Frag} (hn : l.most = some 63) (hdf : d.params.defaults = [])
    (hY : ∀ (w : World) (h : Heap), YP w h → (K w.params).In h)
    (F : ∀ (w : World) (mg : Str → Option Value) (fa : Addr) (h : Heap), (K w.params).In h → h.Ns mainGlobals mg → mg d.name = some (.ref fa) →
      ∃ fd : FuncData, (∀ (s : Shared) (u : Value), BindsTo s fd ⟨[u], []⟩ [("_law_script", u)]) ∧ ∀ base : Heap, (K w.params).In base → base.Ns mainGlobals mg → FnOk l.prog w (K w.params) mg base CX0 68 fa fd ["_law_script"] (Fg.spLaw (K w.params))) :
    PySem.W.WalkO q loose XP YP l.row.toRowW d [] (fun f vs => PySem.call f vs) :=
  L2.walk_of (n := 63) (k := 68) (x := "_law_script") (CX := fun _ => CX0) (sp := fun w => Fg.spLaw (K w.params)) hn (by decide) hdf ⟨rfl, by decide, by decide, rfl⟩ hY F (fun _ _ a ns hl _ hS => ⟨a, ns, rfl, hS, hl, fun _ => rfl⟩) fun _ _ _ _ _ z => z
end K21
def PySem.W.Fast.tw3418976434314161715 := 0
def PySem.W.Fast.tw3971376840229011459 := 0
def PySem.W.Fast.tw5674660062950311579 := 0
def PySem.W.Fast.tw5853926723746303700 := 0
def PySem.W.Fast.tw2272163394933541032 := 0
def PySem.W.Fast.tw17836135653599068247 := 0
def PySem.W.Fast.tw5681838936398336636 := 0
def PySem.W.Fast.tw2104387025901293059 := 0
def PySem.W.Fast.tw1081264812461191647 := 0
def PySem.W.Fast.tw3204811309370899189 := 0
def PySem.W.Fast.tw12075437049896031243 := 0
def PySem.W.Fast.tw2424070155579647902 := 0
def PySem.W.Fast.tw10115466209828384047 := 0
def PySem.W.Fast.tw13708533298475906144 := 0
def PySem.W.Fast.tw3590815731481072875 := 0
def PySem.W.Fast.tw612892650994732668 := 0
def PySem.W.Fast.tw13237572877898326406 := 0
def PySem.W.Fast.tw10778915249452011907 := 0
def PySem.W.Fast.tw5773046621798337494 := 0
def PySem.W.Fast.tw9843953641437463344 := 0
def PySem.W.Fast.tw5559652184352593603 := 0
def PySem.W.Fast.tw17937962909501467681 := 0
def PySem.W.Fast.tw3207200151323994441 := 0
def PySem.W.Fast.tw15888204814388676192 := 0
def PySem.W.Fast.tw8223749339515348786 := 0
def PySem.W.Fast.tw14987719478205713694 := 0
def PySem.W.Fast.tw552009919101940175 := 0
def PySem.W.Fast.tw1932217384085828013 := 0
def PySem.W.Fast.tw698943889285965341 := 0
def PySem.W.Fast.tw7984817339888001671 := 0
def PySem.W.Fast.tw13623640771665505646 := 0
def PySem.W.Fast.tw316278761968112396 := 0
def PySem.W.Fast.tw17562644761971966401 := 0
def PySem.W.Fast.tw9802260462186274662 := 0
def PySem.W.Fast.tw7971222982071947232 := 0
def PySem.W.Fast.tw6630152480149850058 := 0
def PySem.W.Fast.tw11880324459832648789 := 0
def PySem.W.Fast.tw2475703244408587395 := 0
def PySem.W.Fast.tw8611961078214355680 := 0
def PySem.W.Fast.tw10510782052940016407 := 0
def PySem.W.Fast.tw16688709674283310514 := 0
def PySem.W.Fast.tw8886672470507276112 := 0
def PySem.W.Fast.tw10557456202001403733 := 0
def PySem.W.Fast.tw12637097628505857899 := 0
def PySem.W.Fast.tw14976175868419720394 := 0
def PySem.W.Fast.tw16118622472962226031 := 0
def PySem.W.Fast.tw2136249987107647142 := 0
def PySem.W.Fast.tw12050513279996649646 := 0
def PySem.W.Fast.tw12673923056413608480 := 0
def PySem.W.Fast.tw13281311335285728983 := 0
def PySem.W.Fast.tw8261900605419690007 := 0
def PySem.W.Fast.tw14170575820472596645 := 0
def PySem.W.Fast.tw4030935460167159375 := 0
def PySem.W.Fast.tw15197624513510628502 := 0
def PySem.W.Fast.tw14736399255474328480 := 0
def PySem.W.Fast.tw6836009200042355522 := 0
def PySem.W.Fast.tw11912371654711101702 := 0
def PySem.W.Fast.tw5666266063470337359 := 0
def PySem.W.Fast.tw14828669620312996947 := 0
def PySem.W.Fast.tw13602651695803301434 := 0
def PySem.W.Fast.tw6172637073659900525 := 0
def PySem.W.Fast.tw7673740850683952695 := 0
def PySem.W.Fast.tw13664482620488174152 := 0
def PySem.W.Fast.tw15563364657407553169 := 0
def PySem.W.Fast.tw3327573079127996192 := 0
def PySem.W.Fast.tw4503651245064038451 := 0
def PySem.W.Fast.tw214286802892037863 := 0
def PySem.W.Fast.tw12844625630102714446 := 0
def PySem.W.Fast.tw5332406424433842076 := 0
def PySem.W.Fast.tw9124294695214261063 := 0
def PySem.W.Fast.tw14726967936669110373 := 0
def PySem.W.Fast.tw14168407050617841240 := 0
def PySem.W.Fast.tw1009860315414513583 := 0
def PySem.W.Fast.tw1997623876819127231 := 0
def PySem.W.Fast.tw2660875853978225299 := 0
def PySem.W.Fast.tw5464281686156504252 := 0
def PySem.W.Fast.tw578517608635241293 := 0
def PySem.W.Fast.tw686657261966423787 := 0
def PySem.W.Fast.tw5200788217977077622 := 0
def PySem.W.Fast.tw5351146264650179095 := 0
def PySem.W.Fast.tw9632668477163376078 := 0
def PySem.W.Fast.tw1254366939553064422 := 0
def PySem.W.Fast.tw14144886711965579408 := 0
def PySem.W.Fast.tw14133397621513450182 := 0
def PySem.W.Fast.tw5060771608794068539 := 0
def PySem.W.Fast.tw2546941068508904672 := 0
def PySem.W.Fast.tw16612708353580918614 := 0
def PySem.W.Fast.tw7332490327940227873 := 0
def PySem.W.Fast.tw1171816388756627013 := 0
def PySem.W.Fast.tw3854091000372508558 := 0
def PySem.W.Fast.tw14137846754560892812 := 0
def PySem.W.Fast.tw3889728727632569267 := 0
def PySem.W.Fast.tw10867534151800208429 := 0
def PySem.W.Fast.tw2847235455286044822 := 0
def PySem.W.Fast.tw5863738023648939795 := 0
def PySem.W.Fast.tw13533343128920311310 := 0
def PySem.W.Fast.tw10656872639313600453 := 0
def PySem.W.Fast.tw77349027952923921 := 0
def PySem.W.Fast.tw12182842734621158433 := 0
def PySem.W.Fast.tw13701342932755882550 := 0
def PySem.W.Fast.tw8258389670402603764 := 0
def PySem.W.Fast.tw16473779975512203691 := 0
def PySem.W.Fast.tw2483808835554270996 := 0
def PySem.W.Fast.tw11269473019758983996 := 0
def PySem.W.Fast.tw3809000912791640723 := 0
def PySem.W.Fast.tw16943705139635682827 := 0
def PySem.W.Fast.tw10509970741563745595 := 0
def PySem.W.Fast.tw1948585342587819783 := 0
def PySem.W.Fast.tw11644501442251496987 := 0
def PySem.W.Fast.tw18076299532548722446 := 0
def PySem.W.Fast.tw13825182572084957054 := 0
def PySem.W.Fast.tw8938505889970393025 := 0
def PySem.W.Fast.tw634837591175873541 := 0
def PySem.W.Fast.tw14576061179278004006 := 0
def PySem.W.Fast.tw4838152309967081410 := 0
def PySem.W.Fast.tw16981182765847137461 := 0
def PySem.W.Fast.tw8372248094320567782 := 0
def PySem.W.Fast.tw4875058693118560907 := 0
def PySem.W.Fast.tw207386527184381207 := 0
def PySem.W.Fast.tw18229751002298958672 := 0
def PySem.W.Fast.tw7362896125171911157 := 0
def PySem.W.Fast.tw18349912350736841346 := 0
def PySem.W.Fast.tw12150900907479293673 := 0
def PySem.W.Fast.tw8300798975397134910 := 0
def PySem.W.Fast.tw13283832849636778968 := 0
def PySem.W.Fast.tw14367181228589979506 := 0
def PySem.W.Fast.tw12712191040624604956 := 0
def PySem.W.Fast.tw3846814613335980945 := 0
def PySem.W.Fast.tw1165912850277460848 := 0
def PySem.W.Fast.tw18325165189045871149 := 0
def PySem.W.Fast.tw13323167886956401736 := 0
def PySem.W.Fast.tw16377054714874366132 := 0
def PySem.W.Fast.tw3663322340881403328 := 0
def PySem.W.Fast.tw8800052441522555146 := 0
def PySem.W.Fast.tw1614664601943228563 := 0
def PySem.W.Fast.tw13507251391904200232 := 0
def PySem.W.Fast.tw13662706054062611578 := 0
def PySem.W.Fast.tw13825053724381207377 := 0
def PySem.W.Fast.tw8402907975167118189 := 0
def PySem.W.Fast.tw17548618219182103409 := 0
def PySem.W.Fast.tw14933970202478834218 := 0
def PySem.W.Fast.tw9892120389792828570 := 0
def PySem.W.Fast.tw8714537237178612839 := 0
def PySem.W.Fast.tw13695514294029795767 := 0
def PySem.W.Fast.tw1276897427377367248 := 0
def PySem.W.Fast.tw7242719612810054468 := 0
def PySem.W.Fast.tw15271349708607867589 := 0
def PySem.W.Fast.tw5165085563083174981 := 0
def PySem.W.Fast.tw17894101853950608600 := 0
def PySem.W.Fast.tw13318509864256305763 := 0
def PySem.W.Fast.tw2259182929316449492 := 0
def PySem.W.Fast.tw7645264183539402832 := 0
def PySem.W.Fast.tw9671233185098635483 := 0
def PySem.W.Fast.tw4188442272352044104 := 0
def PySem.W.Fast.tw4928830587005876299 := 0
def PySem.W.Fast.tw12188095310498652218 := 0
def PySem.W.Fast.tw7573910533567471046 := 0
def PySem.W.Fast.tw3047279300836029242 := 0
def PySem.W.Fast.tw1052329101769192676 := 0
def PySem.W.Fast.tw7497797638536845292 := 0
def PySem.W.Fast.tw10909097571815893541 := 0
def PySem.W.Fast.tw16579601484167521261 := 0
def PySem.W.Fast.tw13842027773444000101 := 0
def PySem.W.Fast.tw18100859134085233592 := 0
def PySem.W.Fast.tw13611198979001042143 := 0
def PySem.W.Fast.tw4418581745453545910 := 0
def PySem.W.Fast.tw11392902623447894371 := 0
def PySem.W.Fast.tw3339943208635576818 := 0
def PySem.W.Fast.tw695284637212837452 := 0
def PySem.W.Fast.tw2820013909939041680 := 0
def PySem.W.Fast.tw7364295423914186673 := 0
def PySem.W.Fast.tw4631937134040124057 := 0
def PySem.W.Fast.tw27916778964196248 := 0
def PySem.W.Fast.tw12434087835453430078 := 0
def PySem.W.Fast.tw16547307756880622704 := 0
def PySem.W.Fast.tw5048810455684297436 := 0
def PySem.W.Fast.tw4118930895363943529 := 0
def PySem.W.Fast.tw922375863201084726 := 0
def PySem.W.Fast.tw4739375832271509897 := 0
def PySem.W.Fast.tw9555893085744048335 := 0
def PySem.W.Fast.tw314126858067839161 := 0
def PySem.W.Fast.tw10791421155969158746 := 0
def PySem.W.Fast.tw6113391997531764404 := 0
def PySem.W.Fast.tw14823940284816073436 := 0
def PySem.W.Fast.tw8638660967139416563 := 0
def PySem.W.Fast.tw2772878764949751443 := 0
def PySem.W.Fast.tw5037651089593926693 := 0
def PySem.W.Fast.tw7486324945926084575 := 0
def PySem.W.Fast.tw12742568151779285172 := 0
def PySem.W.Fast.tw14514511672295499469 := 0
def PySem.W.Fast.tw5768100949556026388 := 0
def PySem.W.Fast.tw1397728664235649157 := 0
def PySem.W.Fast.tw2902191476705090762 := 0
def PySem.W.Fast.tw1759796727265105134 := 0
def PySem.W.Fast.tw12437258399798857998 := 0
def PySem.W.Fast.tw9735398575367585937 := 0
def PySem.W.Fast.tw12893017556331355367 := 0
def PySem.W.Fast.tw3445701241115501148 := 0
def PySem.W.Fast.tw5408417510468134252 := 0
def PySem.W.Fast.tw10347851361765173647 := 0
def PySem.W.Fast.tw18051401889357246279 := 0
def PySem.W.Fast.tw2358483269192524407 := 0
def PySem.W.Fast.tw5099925546574071121 := 0
def PySem.W.Fast.tw2878678718624150894 := 0
def PySem.W.Fast.tw2162066331272372393 := 0
def PySem.W.Fast.tw5899609186928405053 := 0
def PySem.W.Fast.tw15197040087494932711 := 0
def PySem.W.Fast.tw112293645008847325 := 0
def PySem.W.Fast.tw17072336197999852613 := 0
def PySem.W.Fast.tw8798672911175037963 := 0
def PySem.W.Fast.tw17969431875712970190 := 0
def PySem.W.Fast.tw1291443699688959680 := 0
def PySem.W.Fast.tw13099393634346566266 := 0
def PySem.W.Fast.tw11906398865262942318 := 0
def PySem.W.Fast.tw12448834113683176865 := 0
def PySem.W.Fast.tw8293499927340107205 := 0
def PySem.W.Fast.tw10305697887012431438 := 0
def PySem.W.Fast.tw18259204342512145789 := 0
def PySem.W.Fast.tw14723288119378888633 := 0
def PySem.W.Fast.tw10911635418843786953 := 0
def PySem.W.Fast.tw3893944862313982190 := 0
def PySem.W.Fast.tw14816369769963895661 := 0
def PySem.W.Fast.tw7614975364990126396 := 0
def PySem.W.Fast.tw6921572252365998089 := 0
def PySem.W.Fast.tw15357974932611884999 := 0
def PySem.W.Fast.tw16403022429959574415 := 0
def PySem.W.Fast.tw988228797220507619 := 0
def PySem.W.Fast.tw643216663422731545 := 0
def PySem.W.Fast.tw954151433963881335 := 0
def PySem.W.Fast.tw5103090560053227356 := 0
def PySem.W.Fast.tw10932022209135768887 := 0
def PySem.W.Fast.tw7604181166916262284 := 0
def PySem.W.Fast.tw11933112097304711374 := 0
def PySem.W.Fast.tw7294863601633771748 := 0
def PySem.W.Fast.tw17058951927557001024 := 0
def PySem.W.Fast.tw456134203726393815 := 0
def PySem.W.Fast.tw2414647553440824627 := 0
def PySem.W.Fast.tw4904364310745528538 := 0
def PySem.W.Fast.tw16127586833837623456 := 0
def PySem.W.Fast.tw10191261154511447199 := 0
def PySem.W.Fast.tw8879348611543232576 := 0
def PySem.W.Fast.tw9401335347255783148 := 0
def PySem.W.Fast.tw3782467962100360986 := 0
def PySem.W.Fast.tw18119195944991446447 := 0
def PySem.W.Fast.tw6033271093386154275 := 0
def PySem.W.Fast.tw2167361774272069141 := 0
def PySem.W.Fast.tw4515668392951844658 := 0
def PySem.W.Fast.tw9988927116140104392 := 0
def PySem.W.Fast.tw5198735799617795159 := 0
def PySem.W.Fast.tw7189486836412970766 := 0
def PySem.W.Fast.tw2202599037117710532 := 0
def PySem.W.Fast.tw18220589502912803624 := 0
def PySem.W.Fast.tw3736030369748844369 := 0
def PySem.W.Fast.tw9796423498144657433 := 0
def PySem.W.Fast.tw1150634460531597887 := 0
def PySem.W.Fast.tw6857078115281463209 := 0
def PySem.W.Fast.tw9223005872601628820 := 0
def PySem.W.Fast.tw6614271225236441811 := 0
def PySem.W.Fast.tw3495145445811008858 := 0
def PySem.W.Fast.tw17266282004074368781 := 0
def PySem.W.Fast.tw7322999938650857461 := 0
def PySem.W.Fast.tw1624358876712431067 := 0
def PySem.W.Fast.tw4067172393196410599 := 0
def PySem.W.Fast.tw8029014730358531414 := 0
def PySem.W.Fast.tw6196590769193506670 := 0
def PySem.W.Fast.tw6732539153835893870 := 0
def PySem.W.Fast.tw803842970094090292 := 0
def PySem.W.Fast.tw13870505472294514568 := 0
def PySem.W.Fast.tw4907889034936401096 := 0
def PySem.W.Fast.tw9217430254315703054 := 0
def PySem.W.Fast.tw17217910235173209970 := 0
def PySem.W.Fast.tw45076513842293560 := 0
def PySem.W.Fast.tw15508665560377913283 := 0
def PySem.W.Fast.tw14824437475272661221 := 0
def PySem.W.Fast.tw486673143962114407 := 0
def PySem.W.Fast.tw4773140419342471823 := 0
def PySem.W.Fast.tw3208410268248230959 := 0
def PySem.W.Fast.tw1279945714455648992 := 0
def PySem.W.Fast.tw16316856155780794431 := 0
def PySem.W.Fast.tw4115515863983331360 := 0
def PySem.W.Fast.tw15006208241122858020 := 0
def PySem.W.Fast.tw13298961131209219071 := 0
def PySem.W.Fast.tw715868830222477969 := 0
def PySem.W.Fast.tw7761715786837966118 := 0
def PySem.W.Fast.tw5044710243083986781 := 0
def PySem.W.Fast.tw5898319270140499699 := 0
def PySem.W.Fast.tw8085232424448763482 := 0
def PySem.W.Fast.tw11304367800100147948 := 0
def PySem.W.Fast.tw10155864043132868559 := 0
def PySem.W.Fast.tw5025251542598529669 := 0
def PySem.W.Fast.tw16949328827760521306 := 0
def PySem.W.Fast.tw16863529478786498316 := 0
def PySem.W.Fast.tw946098831514364882 := 0
def PySem.W.Fast.tw2850126447444677187 := 0
def PySem.W.Fast.tw15325733714827966083 := 0
def PySem.W.Fast.tw13231441440185126430 := 0
def PySem.W.Fast.tw6771766479423773543 := 0
def PySem.W.Fast.tw10322182946526005948 := 0
def PySem.W.Fast.tw2660963124017037173 := 0
def PySem.W.Fast.tw10431434994023974560 := 0
def PySem.W.Fast.tw16549767179377826647 := 0
def PySem.W.Fast.tw1000959520318179743 := 0
def PySem.W.Fast.tw12358707568124011738 := 0
def PySem.W.Fast.tw5244671100638264796 := 0
def PySem.W.Fast.tw12229589332206647327 := 0
def PySem.W.Fast.tw9388068133022699743 := 0
def PySem.W.Fast.tw14307474293664557408 := 0
def PySem.W.Fast.tw7841761304796068621 := 0
def PySem.W.Fast.tw10013430438746274260 := 0
def PySem.W.Fast.tw12493127282390245100 := 0
def PySem.W.Fast.tw9682448980982908438 := 0
def PySem.W.Fast.tw18057786280185792894 := 0
def PySem.W.Fast.tw3286646177239280279 := 0
def PySem.W.Fast.tw1689820203327319118 := 0
def PySem.W.Fast.tw13641306309861671965 := 0
def PySem.W.Fast.tw6115453957784195423 := 0
def PySem.W.Fast.tw12745941175063745866 := 0
def PySem.W.Fast.tw10712063102601166216 := 0
def PySem.W.Fast.tw11420575995631960527 := 0
def PySem.W.Fast.tw8148737590875524299 := 0
def PySem.W.Fast.tw14288326422185195517 := 0
def PySem.W.Fast.tw11837696166405396720 := 0
def PySem.W.Fast.tw8918282122841843422 := 0
def PySem.W.Fast.tw1408240406512346789 := 0
def PySem.W.Fast.tw15263880510911934438 := 0
def PySem.W.Fast.tw15050078083691664424 := 0
def PySem.W.Fast.tw1310842338519508775 := 0
def PySem.W.Fast.tw14658208078539492839 := 0
def PySem.W.Fast.tw6545832387092563126 := 0
def PySem.W.Fast.tw7550353832671854639 := 0
def PySem.W.Fast.tw12123592748171175817 := 0
def PySem.W.Fast.tw8420520886656263802 := 0
def PySem.W.Fast.tw6145941102105380540 := 0
def PySem.W.Fast.tw6643866809570450537 := 0
def PySem.W.Fast.tw2686020496482512263 := 0
def PySem.W.Fast.tw15309221594918069842 := 0
def PySem.W.Fast.tw9250977202900774020 := 0
def PySem.W.Fast.tw3856761211846435208 := 0
def PySem.W.Fast.tw4992189158598292331 := 0
def PySem.W.Fast.tw8713360135302322683 := 0
def PySem.W.Fast.tw9154885803699546238 := 0
def PySem.W.Fast.tw3550844001249513450 := 0
def PySem.W.Fast.tw16251868958874271826 := 0
def PySem.W.Fast.tw13758808551592259568 := 0
def PySem.W.Fast.tw12710413767794089989 := 0
def PySem.W.Fast.tw10878674813029744480 := 0
def PySem.W.Fast.tw17286485976810548795 := 0
def PySem.W.Fast.tw1637726521489744546 := 0
def PySem.W.Fast.tw13662273967182297257 := 0
def PySem.W.Fast.tw12978078798228084431 := 0
def PySem.W.Fast.tw14304269883672540378 := 0
def PySem.W.Fast.tw17641441504934086264 := 0
def PySem.W.Fast.tw1398925859511653024 := 0
def PySem.W.Fast.tw15675414667204909506 := 0
def PySem.W.Fast.tw685657379655581567 := 0
def PySem.W.Fast.tw2673524604216123203 := 0
def PySem.W.Fast.tw1080487689448004337 := 0
def PySem.W.Fast.tw17749771505477162849 := 0
def PySem.W.Fast.tw12161047308339804156 := 0
def PySem.W.Fast.tw6118371216056173638 := 0
def PySem.W.Fast.tw13944017166690214192 := 0
def PySem.W.Fast.tw8574814572323077818 := 0
def PySem.W.Fast.tw11319919981491957411 := 0
def PySem.W.Fast.tw6694798143544205574 := 0
def PySem.W.Fast.tw9873494939050757422 := 0
def PySem.W.Fast.tw16403319020928908553 := 0
def PySem.W.Fast.tw10381219078549189893 := 0
def PySem.W.Fast.tw3534617878844746068 := 0
def PySem.W.Fast.tw6459777805241807393 := 0
def PySem.W.Fast.tw15067091953310546630 := 0
def PySem.W.Fast.tw15597580490121986280 := 0
def PySem.W.Fast.tw4640440736258638126 := 0
def PySem.W.Fast.tw17789732218166382918 := 0
def PySem.W.Fast.tw10668030069404289699 := 0
def PySem.W.Fast.tw2830466980602329911 := 0
def PySem.W.Fast.tw7147085976024761963 := 0
def PySem.W.Fast.tw586871048187802350 := 0
def PySem.W.Fast.tw1027235103062354886 := 0
def PySem.W.Fast.tw1733822533512814362 := 0
def PySem.W.Fast.tw14529658355894235859 := 0
def PySem.W.Fast.tw18088563106579917144 := 0
def PySem.W.Fast.tw12855466636666250790 := 0
def PySem.W.Fast.tw11302714069394603316 := 0
def PySem.W.Fast.tw9826176784354442528 := 0
def PySem.W.Fast.tw3126260066007475105 := 0
def PySem.W.Fast.tw18375123202783584849 := 0
def PySem.W.Fast.tw1199607867987101627 := 0
def PySem.W.Fast.tw4958188749687834105 := 0
def PySem.W.Fast.tw2471289151364788996 := 0
def PySem.W.Fast.tw81257241330111322 := 0
def PySem.W.Fast.tw1168372864301952713 := 0
def PySem.W.Fast.tw6903311854440074550 := 0
def PySem.W.Fast.tw12703493901755123708 := 0
def PySem.W.Fast.tw8673154994583889799 := 0
def PySem.W.Fast.tw10109763005798174497 := 0
def PySem.W.Fast.tw9360351190291719487 := 0
def PySem.W.Fast.tw10719037323418937271 := 0
def PySem.W.Fast.tw13950055221232397182 := 0
open PySem PySem.W PyProof.Rows
set_option maxRecDepth 100000 in
set_option maxHeartbeats 0 in
theorem PySem.Challenge.cw_formgrove_k21_a_book_written_and_read_holds : PySem.Challenge.rw_formgrove_k21_a_book_written_and_read.Holds := by
  w_on; o_law; k_head; (case hw => w_witness2)
  k_fill
  refine K21.walk (l := PySem.Challenge.rw_formgrove_k21_a_book_written_and_read) rfl rfl (fun w h Y => PySem.W.kIn_of Y) ?F
  case F =>
    intro w mg fa h KX G hmg
    refine' K21.all_mk KX G hmg ?cn1 ?cp1 ?ch1 ?cq1 ?cs1 ?cm1 ?ck1 ?cx1_0 ?cx1_1 ?a1 ?l1 ?c1 ?k1 ?a2 ?l2 ?c2 ?k2 ?a3 ?l3 ?c3 ?k3 ?a4 ?l4 ?c4 ?k4 ?a5 ?l5 ?c5 ?k5 ?a6 ?l6 ?c6 ?k6 ?a7 ?l7 ?c7 ?k7 ?a8 ?l8 ?c8 ?k8 ?a9 ?l9 ?c9 ?k9 ?a10 ?l10 ?c10 ?k10 ?a11 ?l11 ?c11 ?k11 ?a12 ?l12 ?c12 ?k12 ?a13 ?l13 ?c13 ?k13 ?a14 ?l14 ?c14 ?k14 ?n14 ?a15 ?l15 ?c15 ?k15 ?n15 ?a16 ?l16 ?c16 ?k16 ?n16 ?a17 ?l17 ?c17 ?k17 ?n17 ?a18 ?l18 ?c18 ?k18 ?n18 ?a19 ?l19 ?c19 ?k19 ?n19 ?a20 ?l20 ?c20 ?k20 ?n20 ?a21 ?l21 ?c21 ?k21 ?a22 ?l22 ?c22 ?k22 ?n22 ?a23 ?l23 ?c23 ?k23 ?n23 ?a24 ?l24 ?c24 ?k24 ?n24 ?a25 ?l25 ?c25 ?k25 ?n25 ?a26 ?l26 ?c26 ?k26 ?n26 ?a27 ?l27 ?c27 ?k27 ?a28 ?l28 ?c28 ?k28 ?a29 ?l29 ?c29 ?k29 ?a30 ?l30 ?c30 ?k30 ?a31 ?l31 ?c31 ?k31 ?a32 ?l32 ?c32 ?k32 ?a33 ?l33 ?c33 ?k33 ?a34 ?l34 ?c34 ?k34 ?a35 ?l35 ?c35 ?k35 ?a36 ?l36 ?c36 ?k36 ?a37 ?l37 ?c37 ?k37 ?y0 ?y1 ?y2 ?y3 ?y4 ?yNIL ?yMARKS ?yBRACED ?lkM ?lkB ?lk0 ?lk1 ?lk2 ?lk3 ?lk4 ?lk5 ?ysm ?z0 ?z1 ?z2 ?z3 ?z4 ?z5 ?z6 ?z7 ?z8 ?z9 ?z10
    (case cn1 => k_is)
    (case cp1 => k_is)
    (case ch1 => k_is)
    (case cq1 => k_is)
    (case cs1 => k_is)
    (case cm1 => k_is)
    (case ck1 => k_is)
    (case cx1_0 => k_is)
    (case cx1_1 => k_is)
    (case a1 => k_is)
    (case l1 => k_is)
    (case c1 => k_is)
    (case k1 => k_is)
    (case a2 => k_is)
    (case l2 => k_is)
    (case c2 => k_is)
    (case k2 => k_is)
    (case a3 => k_is)
    (case l3 => k_is)
    (case c3 => k_is)
    (case k3 => k_is)
    (case a4 => k_is)
    (case l4 => k_is)
    (case c4 => k_is)
    (case k4 => k_is)
    (case a5 => k_is)
    (case l5 => k_is)
    (case c5 => k_is)
    (case k5 => k_is)
    (case a6 => k_is)
    (case l6 => k_is)
    (case c6 => k_is)
    (case k6 => k_is)
    (case a7 => k_is)
    (case l7 => k_is)
    (case c7 => k_is)
    (case k7 => k_is)
    (case a8 => k_is)
    (case l8 => k_is)
    (case c8 => k_is)
    (case k8 => k_is)
    (case a9 => k_is)
    (case l9 => k_is)
    (case c9 => k_is)
    (case k9 => k_is)
    (case a10 => k_is)
    (case l10 => k_is)
    (case c10 => k_is)
    (case k10 => k_is)
    (case a11 => k_is)
    (case l11 => k_is)
    (case c11 => k_is)
    (case k11 => k_is)
    (case a12 => k_is)
    (case l12 => k_is)
    (case c12 => k_is)
    (case k12 => k_is)
    (case a13 => k_is)
    (case l13 => k_is)
    (case c13 => k_is)
    (case k13 => k_is)
    (case a14 => k_is)
    (case l14 => k_is)
    (case c14 => k_is)
    (case k14 => k_is)
    (case n14 => k_is)
    (case a15 => k_is)
    (case l15 => k_is)
    (case c15 => k_is)
    (case k15 => k_is)
    (case n15 => k_is)
    (case a16 => k_is)
    (case l16 => k_is)
    (case c16 => k_is)
    (case k16 => k_is)
    (case n16 => k_is)
    (case a17 => k_is)
    (case l17 => k_is)
    (case c17 => k_is)
    (case k17 => k_is)
    (case n17 => k_is)
    (case a18 => k_is)
    (case l18 => k_is)
    (case c18 => k_is)
    (case k18 => k_is)
    (case n18 => k_is)
    (case a19 => k_is)
    (case l19 => k_is)
    (case c19 => k_is)
    (case k19 => k_is)
    (case n19 => k_is)
    (case a20 => k_is)
    (case l20 => k_is)
    (case c20 => k_is)
    (case k20 => k_is)
    (case n20 => k_is)
    (case a21 => k_is)
    (case l21 => k_is)
    (case c21 => k_is)
    (case k21 => k_is)
    (case a22 => k_is)
    (case l22 => k_is)
    (case c22 => k_is)
    (case k22 => k_is)
    (case n22 => k_is)
    (case a23 => k_is)
    (case l23 => k_is)
    (case c23 => k_is)
    (case k23 => k_is)
    (case n23 => k_is)
    (case a24 => k_is)
    (case l24 => k_is)
    (case c24 => k_is)
    (case k24 => k_is)
    (case n24 => k_is)
    (case a25 => k_is)
    (case l25 => k_is)
    (case c25 => k_is)
    (case k25 => k_is)
    (case n25 => k_is)
    (case a26 => k_is)
    (case l26 => k_is)
    (case c26 => k_is)
    (case k26 => k_is)
    (case n26 => k_is)
    (case a27 => k_is)
    (case l27 => k_is)
    (case c27 => k_is)
    (case k27 => k_is)
    (case a28 => k_is)
    (case l28 => k_is)
    (case c28 => k_is)
    (case k28 => k_is)
    (case a29 => k_is)
    (case l29 => k_is)
    (case c29 => k_is)
    (case k29 => k_is)
    (case a30 => k_is)
    (case l30 => k_is)
    (case c30 => k_is)
    (case k30 => k_is)
    (case a31 => k_is)
    (case l31 => k_is)
    (case c31 => k_is)
    (case k31 => k_is)
    (case a32 => k_is)
    (case l32 => k_is)
    (case c32 => k_is)
    (case k32 => k_is)
    (case a33 => k_is)
    (case l33 => k_is)
    (case c33 => k_is)
    (case k33 => k_is)
    (case a34 => k_is)
    (case l34 => k_is)
    (case c34 => k_is)
    (case k34 => k_is)
    (case a35 => k_is)
    (case l35 => k_is)
    (case c35 => k_is)
    (case k35 => k_is)
    (case a36 => k_is)
    (case l36 => k_is)
    (case c36 => k_is)
    (case k36 => k_is)
    (case a37 => k_is)
    (case l37 => k_is)
    (case c37 => k_is)
    (case k37 => k_is)
    (case y0 => k_is)
    (case y1 => k_is)
    (case y2 => k_is)
    (case y3 => k_is)
    (case y4 => k_is)
    (case yNIL => k_is)
    (case yMARKS => k_is)
    (case yBRACED => k_is)
    (case lkM => k_is)
    (case lkB => k_is)
    (case lk0 => k_is)
    (case lk1 => k_is)
    (case lk2 => k_is)
    (case lk3 => k_is)
    (case lk4 => k_is)
    (case lk5 => k_is)
    (case ysm => first | rfl | decide | kernel_rfl)
    (case z0 => k_is)
    (case z1 => k_is)
    (case z2 => k_is)
    (case z3 => k_is)
    (case z4 => k_is)
    (case z5 => k_is)
    (case z6 => k_is)
    (case z7 => k_is)
    (case z8 => k_is)
    (case z9 => k_is)
    (case z10 => k_is)
