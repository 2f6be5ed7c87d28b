import PyProof.Rows.All
import Wide.All
import OpenK.AllK
import Wide.FinOn
import Lean
import PyProof.EqAt
import PyProof.EqKinds
import PyProof.TupleCall
import PySem.Challenge.RW_formgrove_k68_straight_changers
set_option Elab.async false
set_option linter.all false
set_option maxRecDepth 100000
/-! THE HAND LAYER, for ints, bools, texts, own classes, LISTS and tuples (index, slices, in, append, pop ..), calls, loops. Paste it whole ahead of your own text; what your proof does not reach may be deleted. -/
namespace L2
open PySem PySem.Spec PyProof.Rows

/-- a key: an int or a str -/
abbrev Key := Sum Int Str
def keyIs : Key → Value → Bool
  | .inl k, v => Value.isInt k v
  | .inr x, v => Value.isStrOf x v
def keyH (w : World) : Key → Int
  | .inl k => hashInt k
  | .inr x => hashStr w x
theorem keyIs_shape : ∀ {k : Key} {v : Value}, keyIs k v = true → (∃ i t, k = Sum.inl i ∧ v = Value.int i t) ∨ (∃ x t, k = Sum.inr x ∧ v = Value.str x t)
  | .inl i, v, h => by
    obtain ⟨t, e⟩ := Value.isInt_shape (k := i) (v := v) h
    exact .inl ⟨i, t, rfl, e⟩
  | .inr x, v, h => by
    obtain ⟨t, e⟩ := Value.isStrOf_shape (x := x) (v := v) h
    exact .inr ⟨x, t, rfl, e⟩
theorem keyIs_int (i : Int) (t : Tok) : keyIs (.inl i) (.int i t) = true := by simp [keyIs, Value.isInt]
theorem keyIs_str (x : Str) (t : Tok) : keyIs (.inr x) (.str x t) = true := by simp [keyIs, Value.isStrOf]
theorem key_ll (a b : Int) : decide ((Sum.inl a : Key) = Sum.inl b) = (a == b) := by
  by_cases e : a = b
  · subst e; simp
  · have h : ¬ (Sum.inl a : Key) = Sum.inl b := fun q => e (Sum.inl.inj q)
    rw [decide_eq_false h]
    exact (beq_eq_false_iff_ne.mpr e).symm
theorem key_rr (a b : Str) : decide ((Sum.inr a : Key) = Sum.inr b) = decide (a = b) := by
  by_cases e : a = b
  · subst e; simp
  · have h : ¬ (Sum.inr a : Key) = Sum.inr b := fun q => e (Sum.inr.inj q)
    rw [decide_eq_false h, decide_eq_false e]
theorem key_lr (a : Int) (b : Str) : decide ((Sum.inl a : Key) = Sum.inr b) = false := decide_eq_false (fun q => nomatch q)
theorem key_rl (a : Str) (b : Int) : decide ((Sum.inr a : Key) = Sum.inl b) = false := decide_eq_false (fun q => nomatch q)

def mixKind (prog : Program) (w : World) : PySem.KeyKind prog w Key where
  is := keyIs
  hash := keyH w
  inj := fun v a b ha hb => by
    rcases keyIs_shape ha with ⟨i, t, rfl, rfl⟩ | ⟨x, t, rfl, rfl⟩
    · rcases keyIs_shape hb with ⟨j, u, rfl, e⟩ | ⟨y, u, rfl, e⟩
      · injection e with e1 _; rw [e1]
      · exact nomatch e
    · rcases keyIs_shape hb with ⟨j, u, rfl, e⟩ | ⟨y, u, rfl, e⟩
      · exact nomatch e
      · injection e with e1 _; rw [e1]
  byValue := fun k v h => by
    rcases keyIs_shape h with ⟨i, t, rfl, rfl⟩ | ⟨x, t, rfl, rfl⟩ <;> rfl
  pyHash := fun hv h => by
    rcases keyIs_shape hv with ⟨i, t, rfl, rfl⟩ | ⟨x, t, rfl, rfl⟩
    · exact wpAny_pyHash_int h
    · exact wpAny_pyHash_str h
  eqBool := fun hu hv h => by
    rcases keyIs_shape hu with ⟨i, t, rfl, rfl⟩ | ⟨x, t, rfl, rfl⟩
    · rcases keyIs_shape hv with ⟨j, u, rfl, rfl⟩ | ⟨y, u, rfl, rfl⟩
      · rw [key_ll] at h; exact wpAny_eqBool_int h
      · rw [key_lr] at h; exact SeqAt.EqAt.int_str i t y u _ _ _ _ h
    · rcases keyIs_shape hv with ⟨j, u, rfl, rfl⟩ | ⟨y, u, rfl, rfl⟩
      · rw [key_rl] at h; exact SeqAt.EqAt.str_int x t j u _ _ _ _ h
      · rw [key_rr] at h; exact wpAny_eqBool_str h
  «strs» := fun k x t v h => by
    rcases keyIs_shape h with ⟨i, u, rfl, e⟩ | ⟨y, u, rfl, e⟩
    · exact nomatch e
    · injection e with e1 _
      subst e1
      cases v <;> rfl

theorem mixKind_int (prog : Program) (w : World) (i : Int) (t : Tok) : (mixKind prog w).is (.inl i) (.int i t) = true := keyIs_int i t
theorem mixKind_str (prog : Program) (w : World) (x : Str) (t : Tok) : (mixKind prog w).is (.inr x) (.str x t) = true := keyIs_str x t
end L2

namespace L2
open PySem PySem.Spec PyProof.Rows

/-- a value, without the heap -/
inductive V where
  | non | bl (b : Bool) | int (i : Int) | str (x : Str) | byt (b : Array UInt8) | flt (b : UInt64) | ref (a : Addr) | ty (n : String)
  deriving DecidableEq

def RelV : V → Value → Prop
  | .non, u => u = Value.none
  | .bl b, u => u = Value.bool b
  | .int i, u => ∃ t, u = Value.int i t
  | .str x, u => ∃ t, u = Value.str x t
  | .byt b, u => ∃ t, u = Value.bytes b t
  | .flt b, u => ∃ t, u = Value.float b t
  | .ref a, u => u = Value.ref a
  | .ty n, u => u = Value.type n

abbrev Vals : List V → List Value → Prop := Paired RelV
theorem Vals.length {xs : List V} {us : List Value} (r : Vals xs us) : xs.length = us.length := Paired.length r
theorem Vals.get : ∀ {xs : List V} {us : List Value} {i : Nat} {x : V}, Vals xs us → xs[i]? = some x → ∃ u, us[i]? = some u ∧ RelV x u
  | _, _, _, _, .nil, e => by simp at e
  | _, _, 0, _, .cons r _, e => by simp at e; subst e; exact ⟨_, rfl, r⟩
  | _, _, i + 1, x, .cons _ t, e => by
    obtain ⟨u, h1, h2⟩ := Vals.get (i := i) (x := x) t (by simpa using e)
    exact ⟨u, by simpa using h1, h2⟩
theorem Vals.set {x : V} {u : Value} (r : RelV x u) : ∀ {xs : List V} {us : List Value} (i : Nat), Vals xs us → Vals (xs.set i x) (us.set i u)
  | _, _, _, .nil => .nil
  | _, _, 0, .cons _ t => .cons r t
  | _, _, i + 1, .cons q t => .cons q (Vals.set r i t)
theorem Vals.append : ∀ {xs ys : List V} {us ws : List Value}, Vals xs us → Vals ys ws → Vals (xs ++ ys) (us ++ ws)
  | _, _, _, _, .nil, s => s
  | _, _, _, _, .cons r t, s => .cons r (Vals.append t s)
def RelO : Option V → Option Value → Prop
  | some v, some u => RelV v u
  | none, none => True
  | _, _ => False
def KV {κ : Type} : List (κ × V) → List (κ × Value) → Prop := Paired fun (p : κ × V) (q : κ × Value) => p.1 = q.1 ∧ RelV p.2 q.2

/-- a key of a dict (00_mix): an int or a text -/
def kV : Key → V
  | .inl i => .int i
  | .inr x => .str x

/-- what stands at a tracked address -/
inductive HO where
  /-- a list -/
  | lst (xs : List V)
  /-- a tuple (never changes) -/
  | tup (xs : List V)
  /-- a dict whose keys are ints and texts; one whose keys are tuples of ints and texts (the empty one is both) -/
  | dK (kvs : List (Key × V)) | dT (kvs : List (List Key × V))
  /-- a set of ints: its members, its size -/
  | set (S : Int → Bool) (n : Nat)
  /-- an instance of the class at C, its dict at dx, its attributes -/
  | ins (C dx : Addr) (fs : List (Str × V))
  /-- the dict of the instance at x -/
  | own (x : Addr)
  /-- the dict of an exception -/
  | xd (fs : List (Str × V))
  /-- a bound method, f of x -/
  | met (f x : Addr)
  /-- a range object lo, lo + 1, .. below hi -/
  | rng (lo hi : Int)
  /-- a thing that is known to the object (the script; a dict while a loop walks it): read, never written while it is so -/
  | frz (o : Obj) (u : HO)
  /-- a code object's table -/
  | tbl (ps : Array Value)
  /-- any other thing, by what is true of its one object (a def of one's own: SetO a S n := HO.ext fun h => ..) -/
  | ext (φ : Heap → Prop)

abbrev Hp := Addr → Option HO
def upd (H : Hp) (a : Addr) (o : HO) : Hp := fun b => if b = a then some o else H b
theorem upd_same {H : Hp} {a : Addr} {o : HO} : upd H a o a = some o := by unfold upd; rw [if_pos rfl]
theorem upd_ne {H : Hp} {a b : Addr} {o : HO} (h : b ≠ a) : upd H a o b = H b := by unfold upd; rw [if_neg h]
theorem upd_upd {H : Hp} {a : Addr} {o u : HO} : upd (upd H a o) a u = upd H a u := by
  funext b; unfold upd; split <;> rfl
/-- two objects of different content stand apart -/
theorem ne_of {H : Hp} {a b : Addr} {o u : HO} (h : H a = some o) (h' : H b = some u) (d : o ≠ u) : a ≠ b := by
  intro e; subst e; rw [h] at h'; exact d (Option.some.inj h')
theorem ne_of_none {H : Hp} {a b : Addr} {o : HO} (h : H a = some o) (h' : H b = none) : a ≠ b := by
  intro e; subst e; rw [h] at h'; cases h'

section
variable (P : Program) (w : World)
def ObjOk (H : Hp) (h : Heap) (a : Addr) : HO → Prop
  | .lst xs => xs.length ≤ sizeLine ∧ ∃ (its : List Value) (n : Nat), Vals xs its ∧ h.get? a = some { cls := .type "list", data := .seq its.toArray n }
  | .tup xs => xs.length ≤ sizeLine ∧ ∃ its : List Value, Vals xs its ∧ IsTup h a its.toArray
  | .dK kvs => kvs.length ≤ sizeLine ∧ (a == sysModules) = false ∧ ∃ vs, KV kvs vs ∧ h.DictOf (mixKind P w) a vs
  | .dT kvs => kvs.length ≤ sizeLine ∧ (a == sysModules) = false ∧ ∃ xs : List (List Key × Addr × Value),
      Paired (fun (p : List Key × V) (q : List Key × Addr × Value) => p.1 = q.1 ∧ H q.2.1 = some (.tup (p.1.map kV)) ∧ RelV p.2 q.2.2) kvs xs ∧
      ∃ o es ep, h.get? a = some o ∧ o.ExactDict ∧ o.data = .dict es ep ∧ es.toList = xs.map (entryOfKey (tupleKind (mixKind P w))) ∧ (xs.map (·.1)).Nodup
  | .set S n => h.SetOf (intKind P w) a S n
  | .ins C dx fs => H dx = some (.own a) ∧ fs.length ≤ 1000 ∧ dx ≠ a ∧ h.get? a = some (PySem.W.instObj C dx) ∧
      ∃ mA, h.Ns1 dx mA ∧ (∀ f, RelO (fs.lookup f) (mA f)) ∧ PySem.Within mA (fs.map (·.1))
  | .own _ => ∃ o, h.get? a = some o
  | .xd fs => ∃ mA, h.Ns1 a mA ∧ ∀ f, RelO (fs.lookup f) (mA f)
  | .rng lo hi => ∃ t u v, h.get? a = some { cls := .type "range", data := .fields #[.int lo t, .int hi u, .int 1 v] }
  | .frz o u => h.get? a = some o ∧ ObjOk H h a u
  | .tbl ps => h.get? a = some { cls := .none, data := .fields ps }
  | .met f x => h.get? a = some (PySem.W.methodObj (.ref f) (.ref x))
  | .ext φ => φ h ∧ (∃ o, h.get? a = some o) ∧ ∀ h1 h2 : Heap, φ h1 → (∀ o, h1.get? a = some o → h2.get? a = some o) → φ h2
/-- the abstract heap is held -/
def HOk (H : Hp) (h : Heap) : Prop := ∀ a o, H a = some o → ObjOk P w H h a o
end

section
variable {P : Program} {w : World} {H H' : Hp} {h h' : Heap} {a : Addr} {o : HO}
theorem ObjOk.lt (x : ObjOk P w H h a o) : a < h.objs.size := by
  cases o with
  | lst xs => obtain ⟨_, _, _, _, e⟩ := x; exact Heap.lt_size e
  | tup xs => obtain ⟨_, _, _, p⟩ := x; exact p.lt
  | dK kvs => obtain ⟨_, _, _, _, o, _, _, e, _⟩ := x; exact Heap.lt_size e
  | dT kvs => obtain ⟨_, _, _, _, o, _, _, e, _⟩ := x; exact Heap.lt_size e
  | set S n => obtain ⟨o, _, _, _, e, _⟩ := x; exact Heap.lt_size e
  | ins C dx fs => obtain ⟨_, _, _, e, _⟩ := x; exact Heap.lt_size e
  | own y => obtain ⟨_, e⟩ := x; exact Heap.lt_size e
  | xd fs => obtain ⟨_, ⟨_, _, _, e, _⟩, _⟩ := x; exact Heap.lt_size e
  | rng lo hi => obtain ⟨_, _, _, e⟩ := x; exact Heap.lt_size e
  | frz ob u => obtain ⟨e, _⟩ := x; exact Heap.lt_size e
  | tbl ps => exact Heap.lt_size (show h.get? a = some _ from x)
  | met f y => exact Heap.lt_size (show h.get? a = some _ from x)
  | ext φ => obtain ⟨_, ⟨_, e⟩, _⟩ := x; exact Heap.lt_size e
theorem Paired.mapP {α β : Type} {F G : α → β → Prop} : ∀ {l₁ : List α} {l₂ : List β}, Paired F l₁ l₂ → (∀ a b, F a b → G a b) → Paired G l₁ l₂
  | _, _, .nil, _ => .nil
  | _, _, .cons r t, f => .cons (f _ _ r) (Paired.mapP t f)
/-- what an object's description leans on: its own object, its own dict, the tuples -/
theorem ObjOk.stay (x : ObjOk P w H h a o) (k : ∀ b u, (b = a ∨ H b = some (.own a)) → h.get? b = some u → h'.get? b = some u)
    (ho : ∀ b, H b = some (.own a) → H' b = some (.own a)) (ht : ∀ b xs, H b = some (.tup xs) → H' b = some (.tup xs)) : ObjOk P w H' h' a o := by
  induction o with
  | lst xs => obtain ⟨z, its, n, r, e⟩ := x; exact ⟨z, its, n, r, k _ _ (.inl rfl) e⟩
  | tup xs => obtain ⟨z, its, r, ob, e, c⟩ := x; exact ⟨z, its, r, ob, k _ _ (.inl rfl) e, c⟩
  | dK kvs => obtain ⟨z, y, vs, r, ob, es, ep, e, c⟩ := x; exact ⟨z, y, vs, r, ob, es, ep, k _ _ (.inl rfl) e, c⟩
  | dT kvs =>
    obtain ⟨z, y, xs, r, ob, es, ep, e, c⟩ := x
    exact ⟨z, y, xs, Paired.mapP r fun p q z => ⟨z.1, ht _ _ z.2.1, z.2.2⟩, ob, es, ep, k _ _ (.inl rfl) e, c⟩
  | set S n => obtain ⟨ob, es, ep, t, e, c⟩ := x; exact ⟨ob, es, ep, t, k _ _ (.inl rfl) e, c⟩
  | ins C dx fs =>
    obtain ⟨d, z, ne, e, mA, ⟨od, es, ep, e2, c⟩, r⟩ := x
    exact ⟨ho _ d, z, ne, k _ _ (.inl rfl) e, mA, ⟨od, es, ep, k _ _ (.inr d) e2, c⟩, r⟩
  | own y => obtain ⟨ob, e⟩ := x; exact ⟨ob, k _ _ (.inl rfl) e⟩
  | xd fs => obtain ⟨mA, ⟨od, es, ep, e, c⟩, r⟩ := x; exact ⟨mA, ⟨od, es, ep, k _ _ (.inl rfl) e, c⟩, r⟩
  | rng lo hi => obtain ⟨t, u, v, e⟩ := x; exact ⟨t, u, v, k _ _ (.inl rfl) e⟩
  | frz ob u ih => obtain ⟨e, q⟩ := x; exact ⟨k _ _ (.inl rfl) e, ih q⟩
  | tbl ps =>
    have e : h.get? a = some { cls := .none, data := .fields ps } := x
    show h'.get? a = some { cls := .none, data := .fields ps }
    exact k a _ (.inl rfl) e
  | met f y =>
    have e : h.get? a = some (PySem.W.methodObj (.ref f) (.ref y)) := x
    show h'.get? a = some (PySem.W.methodObj (.ref f) (.ref y))
    exact k a _ (.inl rfl) e
  | ext φ => obtain ⟨p, ⟨o, e⟩, st⟩ := x; exact ⟨st _ _ p fun o q => k _ _ (.inl rfl) q, ⟨o, k _ _ (.inl rfl) e⟩, st⟩
theorem HOk.lt (x : HOk P w H h) (e : H a = some o) : a < h.objs.size := (x a o e).lt
theorem HOk.fresh (x : HOk P w H h) (e : h.objs.size ≤ a) : H a = none := by
  cases q : H a with
  | none => rfl
  | some u => exact absurd (Nat.lt_of_lt_of_le (x.lt q) e) (Nat.lt_irrefl _)
/-- every object of the heap is kept -/
theorem HOk.kept (x : HOk P w H h) (k : ∀ b u, h.get? b = some u → h'.get? b = some u) : HOk P w H h' := fun a o e =>
  (x a o e).stay (fun b u _ q => k b u q) (fun _ q => q) fun _ _ q => q
/-- a new object is laid and tracked -/
theorem HOk.laid (x : HOk P w H h) (k : ∀ b u, h.get? b = some u → h'.get? b = some u) (hp : h.objs.size ≤ a) (new : ObjOk P w (upd H a o) h' a o) : HOk P w (upd H a o) h' := fun b u e => by
  have hn := x.fresh hp
  by_cases hb : b = a
  · subst hb; rw [upd_same] at e; cases e; exact new
  · rw [upd_ne hb] at e
    exact (x b u e).stay (fun c v _ q => k c v q) (fun c q => by rw [upd_ne (ne_of_none q hn)]; exact q) fun c xs q => by rw [upd_ne (ne_of_none q hn)]; exact q
end

/-- what may be read as u: it is u, or a known u -/
def Rd (H : Hp) (a : Addr) (u : HO) : Prop := H a = some u ∨ ∃ o, H a = some (.frz o u)
theorem Rd.ok {P : Program} {w : World} {H : Hp} {h : Heap} {a : Addr} {u : HO} (r : Rd H a u) (x : HOk P w H h) : ObjOk P w H h a u := by
  rcases r with r | ⟨o, r⟩
  · exact x a u r
  · obtain ⟨_, q⟩ := x a _ r
    exact q
/-- what may be written -/
def Mut : Option HO → Prop
  | some (.lst _) => True
  | some (.dK _) => True
  | some (.dT _) => True
  | some (.set _ _) => True
  | some (.ins _ _ _) => True
  | some (.ext _) => True
  | _ => False
section
variable {P : Program} {w : World} {H : Hp} {h h' : Heap} {x e : Addr} {o' : HO}
/-- the object at e is changed: x itself, or the dict of the instance x -/
theorem HOk.write (ok : HOk P w H h) (mu : Mut (H x)) (he : e = x ∨ H e = some (.own x)) (k : ∀ b u, b ≠ e → h.get? b = some u → h'.get? b = some u) (heo : ∃ u, h'.get? e = some u)
    (new : ObjOk P w (upd H x o') h' x o') : HOk P w (upd H x o') h' := fun b u q => by
  have nown : ∀ c y, H c = some (.own y) → c ≠ x := fun c y r z => by subst z; rw [r] at mu; exact mu
  have ntup : ∀ c xs, H c = some (.tup xs) → c ≠ x := fun c xs r z => by subst z; rw [r] at mu; exact mu
  by_cases hb : b = x
  · subst hb; rw [upd_same] at q; cases q; exact new
  · rw [upd_ne hb] at q
    by_cases hbe : b = e
    · have q' : H b = some (.own x) := by
        rcases he with z | z
        · exact absurd (hbe.trans z) hb
        · rw [hbe]; exact z
      rw [q] at q'; cases q'
      obtain ⟨v, hv⟩ := heo
      exact ⟨v, by rw [hbe]; exact hv⟩
    · refine (ok b u q).stay (fun c v hc r => k c v ?_ r) (fun c r => by rw [upd_ne (nown c b r)]; exact r) fun c xs r => by rw [upd_ne (ntup c xs r)]; exact r
      rcases hc with rfl | hc
      · exact hbe
      · rintro rfl
        rcases he with z | z
        · exact nown c b hc z
        · rw [hc] at z; cases z; exact hb rfl
end

/-! ### kept unless tracked; of the frames at fs (the callers') the slots may change (an exception that passes writes there); of the records at ex (iterators) nothing is said -/
structure Un (fs ex : List Addr) (H H' : Hp) (h h' : Heap) : Prop where
  keep : ∀ b o, h.get? b = some o → H b = none → b ∉ fs → b ∉ ex → h'.get? b = some o
  slot : ∀ b o, h.get? b = some o → H b = none → b ∈ fs → b ∉ ex → ∃ sl, h'.get? b = some { o with slots := sl }
  free : ∀ b o, h.get? b = some o → H b = none → b ∉ ex → H' b = none
  there : ∀ b o, h.get? b = some o → b ∉ ex → ∃ o', h'.get? b = some o'
  tups : ∀ b xs, H b = some (.tup xs) → H' b = some (.tup xs)
  frzs : ∀ b o u, H b = some (.frz o u) → H' b = some (.frz o u)
  tbls : ∀ b ps, H b = some (.tbl ps) → ∃ more, H' b = some (.tbl (ps ++ more))
section
variable {fs fs' ex ex' : List Addr} {H H1 H2 : Hp} {h h1 h2 h' : Heap} {a x e : Addr} {o : HO}
theorem Un.any (u : Un fs ex H H1 h h1) {b : Addr} {ob : Obj} (q : h.get? b = some ob) (n : H b = none) (hx : b ∉ ex) : ∃ sl, h1.get? b = some { ob with slots := sl } := by
  by_cases hb : b ∈ fs
  · exact u.slot b ob q n hb hx
  · exact ⟨ob.slots, u.keep b ob q n hb hx⟩
theorem Un.kept (k : ∀ b u, h.get? b = some u → h'.get? b = some u) : Un fs ex H H h h' :=
  ⟨fun b ob q _ _ _ => k b ob q, fun b ob q _ _ _ => ⟨ob.slots, k b ob q⟩, fun _ _ _ n _ => n, fun b ob q _ => ⟨ob, k b ob q⟩, fun _ _ q => q, fun _ _ _ q => q, fun _ ps q => ⟨#[], by rw [q]; simp⟩⟩
theorem Un.refl : Un fs ex H H h h := Un.kept fun _ _ q => q
theorem Un.laid (k : ∀ b u, h.get? b = some u → h'.get? b = some u) (hp : h.objs.size ≤ a) (hn : H a = none) : Un fs ex H (upd H a o) h h' where
  keep := fun b u q _ _ _ => k b u q
  slot := fun b u q _ _ _ => ⟨u.slots, k b u q⟩
  free := fun b u q n _ => by rw [upd_ne (Nat.ne_of_lt (Nat.lt_of_lt_of_le (Heap.lt_size q) hp))]; exact n
  there := fun b u q _ => ⟨u, k b u q⟩
  tups := fun b xs q => by rw [upd_ne (ne_of_none q hn)]; exact q
  frzs := fun b u xs q => by rw [upd_ne (ne_of_none q hn)]; exact q
  tbls := fun b ps q => ⟨#[], by rw [upd_ne (ne_of_none q hn), q]; simp⟩
theorem Un.write (mu : Mut (H x)) (he : e = x ∨ H e = some (.own x)) (k : ∀ b u, b ≠ e → h.get? b = some u → h'.get? b = some u) (heo : ∃ u, h'.get? e = some u) : Un fs ex H (upd H x o) h h' := by
  have hx : ∀ b, H b = none → b ≠ x := fun b n z => by subst z; rw [n] at mu; exact mu
  have hb : ∀ b, H b = none → b ≠ e := fun b n z => by
    subst z
    rcases he with r | r
    · exact hx b n r
    · rw [n] at r; cases r
  have hm : ∀ b u, H b = some u → ¬ Mut (some u) → b ≠ x := fun b u q nm z => by subst z; rw [q] at mu; exact nm mu
  refine ⟨fun b u q n _ _ => k b u (hb b n) q, fun b u q n _ _ => ⟨u.slots, k b u (hb b n) q⟩, fun b u q n _ => by rw [upd_ne (hx b n)]; exact n, fun b u q _ => ?_,
    fun b xs q => by rw [upd_ne (hm b _ q fun z => z)]; exact q, fun b u xs q => by rw [upd_ne (hm b _ q fun z => z)]; exact q, fun b ps q => ⟨#[], by rw [upd_ne (hm b _ q fun z => z), q]; simp⟩⟩
  by_cases hbe : b = e
  · subst hbe; exact heo
  · exact ⟨u, k b u hbe q⟩
end

/-! ### the heap without what is tracked -/
def trk (h : Heap) (H : Hp) : List Addr := (List.range h.objs.size).filter fun a => (H a).isSome
def hidT (h : Heap) (H : Hp) : Heap := PySem.W.hideAll h (trk h H)
theorem hidT_size (h : Heap) (H : Hp) : (hidT h H).objs.size = h.objs.size := PySem.W.hideAll_size _ _
theorem hidT_get {h : Heap} {H : Hp} {b : Addr} {o : Obj} (e : h.get? b = some o) (n : H b = none) : (hidT h H).get? b = some o :=
  PySem.W.hideAll_get _ e fun hm => by
    have q : (H b).isSome = true := (List.mem_filter.mp hm).2
    rw [n] at q; simp at q
theorem of_hidT {h : Heap} {H : Hp} {b : Addr} {o : Obj} (e : (hidT h H).get? b = some o) : h.get? b = some o ∧ H b = none := by
  have e' : h.get? b = some o := PySem.W.of_hideAll (trk h H) e
  refine ⟨e', ?_⟩
  cases q : H b with
  | none => rfl
  | some x =>
    have hm : b ∈ trk h H := List.mem_filter.mpr ⟨List.mem_range.mpr (Heap.lt_size e'), by simp [q]⟩
    have z : (hidT h H).get? b = none := PySem.W.hideAll_none (trk h H) hm
    rw [z] at e; cases e

/-! ### OpenK's ledger, filled with every new object but one -/
end L2

namespace L2
open PySem PySem.Spec PyProof.Rows

/-- the module's facts, over the base: the heap at the law's entry without what is tracked there -/
structure Mod (K : PySem.W.Frag) (mg : Str → Option Value) (base : Heap) : Prop where
  kin : K.In base
  glob : base.Ns mainGlobals mg
  blt : ∃ mb, base.Ns builtinsNs mb ∧ ∀ x : Str, x ≠ "__name__" → mb x = bootBuiltins x
  nolimit : base.NoLimit

/-- the context: a def's body (or a comprehension's block) running. base: fixed through the whole law; s₀, H₀: the entry; outer: the frames whose slots others may change (a def's callers); stack: all frames that run;
   ex: iterators that were made ahead of the entry and are walked here (a comprehension's); fn: the names whose cells were made at the entry (a def: all; a comprehension's block: its own); calm: not within an except suite; pn: pins that every state bears; xe: what is wanted of an exception that leaves the code -/
structure Cx where
  prog : Program
  w : World
  K : PySem.W.Frag
  mg : Str → Option Value
  base : Heap
  A : Around
  N : List Str
  s₀ : Shared
  H₀ : Hp
  env : Env
  outer : List Env
  stack : List Env
  ex : List Addr
  fn : Str → Bool
  calm : Bool
  pn : List (Addr × Obj)
  xe : Value → Shared → Prop
/-- the callers' frames -/
def frs (l : List Env) : List Addr := l.filterMap (·.frame)
abbrev Cx.fs (X : Cx) : List Addr := frs X.outer

def Vis (sc : Scope) (x : Str) : Prop := sc.names.lookup x = some .local ∨ sc.names.lookup x = some .cell ∨ sc.names.lookup x = some .free
def Loc (sc : Scope) (x : Str) : Prop := sc.names.lookup x = some .local ∨ sc.names.lookup x = some .cell
def Look (env : Env) (h : Heap) (m : Str → Option Value) (x : Str) (u : Value) : Prop :=
  (env.kindOf x = some .local ∧ m x = some u) ∨ ((env.kindOf x = some .cell ∨ env.kindOf x = some .free) ∧ ∃ c, env.cells.lookup x = some c ∧ h.IsCell c (some u))

structure Cx.Ok (X : Cx) : Prop where
  mod : Mod X.K X.mg X.base
  kind : X.env.scope.kind = .function
  glob : X.env.globals = mainGlobals
  blt : X.env.builtins = builtinsNs
  above : X.s₀.heap.objs.size ≤ X.env.locals
  inj : ∀ x y c, X.env.cells.lookup x = some c → X.env.cells.lookup y = some c → x = y
  has : ∀ x, (X.env.kindOf x = some .cell ∨ X.env.kindOf x = some .free) → ∃ c, X.env.cells.lookup x = some c
  cab : ∀ x c, X.fn x = true → X.env.cells.lookup x = some c → X.s₀.heap.objs.size ≤ c
  hd : X.calm = true → X.A.handled = none
  frames : X.A.frames = some X.stack
  stk : X.stack = X.outer ∨ (X.stack = X.env :: X.outer ∧ X.env.frame = some X.env.locals)
  exf : ∀ b ∈ X.ex, b ≠ X.env.locals ∧ ∀ x c, X.env.cells.lookup x = some c → c ≠ b
  bs : ∀ b o, X.base.get? b = some o → X.s₀.heap.get? b = some o ∧ X.H₀ b = none
  bsz : X.base.objs.size ≤ X.s₀.heap.objs.size
  noex : ∀ b o, X.base.get? b = some o → b ∉ X.ex
  exfs : ∀ b ∈ X.ex, b ∉ X.fs
  funs : X.s₀.heap.FunFrames X.base X.outer
  frf : ∀ b ∈ X.fs, X.H₀ b = none

structure Inv (X : Cx) (pins : List (Addr × Obj)) (σ : List (Option V)) (H : Hp) (s : Shared) : Prop where
  ok : X.Ok
  os : s.os = X.s₀.os
  bare : AllBare s.gens
  base : Un X.fs X.ex X.H₀ H X.s₀.heap s.heap
  loc : ∃ m, s.heap.Ns X.env.locals m ∧ ∀ (i : Nat) (x : Str) (v : V), X.N[i]? = some x → σ[i]? = some (some v) → Vis X.env.scope x → ∃ u, RelV v u ∧ Look X.env s.heap m x u
  cell : ∀ x c, X.env.cells.lookup x = some c → ∃ v, s.heap.IsCell c v
  free : H X.env.locals = none
  freeC : ∀ x c, X.env.cells.lookup x = some c → H c = none
  pin : ∀ p ∈ X.pn ++ pins, s.heap.get? p.1 = some p.2 ∧ H p.1 = none ∧ p.1 ≠ X.env.locals ∧ p.1 ∉ X.fs ∧ ∀ v, p.2.data ≠ .cell v
  hok : HOk X.prog X.w H s.heap
  len : σ.length = X.N.length

section
variable {X : Cx} {pins : List (Addr × Obj)} {σ : List (Option V)} {H H' : Hp} {s : Shared} {h' : Heap}

theorem Cx.Ok.nofr (ok : X.Ok) {b : Addr} {o : Obj} (e : X.base.get? b = some o) : b ∉ X.fs := fun hb => by
  have := (ok.funs.mem hb).1
  rw [e] at this; cases this
theorem Inv.bs (I : Inv X pins σ H s) : ∀ b o, X.base.get? b = some o → s.heap.get? b = some o ∧ H b = none := fun b o e =>
  ⟨I.base.keep b o (I.ok.bs b o e).1 (I.ok.bs b o e).2 (I.ok.nofr e) (I.ok.noex b o e), I.base.free b o (I.ok.bs b o e).1 (I.ok.bs b o e).2 (I.ok.noex b o e)⟩
theorem Inv.bk (I : Inv X pins σ H s) : ∀ b o, X.base.get? b = some o → s.heap.get? b = some o := fun b o e => (I.bs b o e).1
theorem Inv.mod (I : Inv X pins σ H s) : Mod X.K X.mg X.base := I.ok.mod
theorem Inv.kIn (I : Inv X pins σ H s) : X.K.In s.heap := I.ok.mod.kin.keeps I.bk
theorem Inv.lt (I : Inv X pins σ H s) : X.env.locals < s.heap.objs.size := let ⟨_, hn, _⟩ := I.loc; hn.lt
theorem Inv.sz (I : Inv X pins σ H s) : X.s₀.heap.objs.size ≤ s.heap.objs.size := Nat.le_trans I.ok.above (Nat.le_of_lt I.lt)
theorem Inv.nofs (I : Inv X pins σ H s) {a : Addr} (h : s.heap.objs.size ≤ a) : a ∉ X.fs := fun hb => by
  obtain ⟨_, o, ho, _⟩ := I.ok.funs.mem hb
  exact absurd (Nat.lt_of_lt_of_le (Heap.lt_size ho) (Nat.le_trans I.sz h)) (Nat.lt_irrefl _)
theorem Inv.cne (I : Inv X pins σ H s) : ∀ x c, X.env.cells.lookup x = some c → c ≠ X.env.locals := fun x c e z => by
  obtain ⟨v, o, ho, hd⟩ := I.cell x c e
  obtain ⟨m, ⟨o', es, ep, ho', hd', _⟩, _⟩ := I.loc
  rw [z, ho'] at ho; cases ho; rw [hd'] at hd; cases hd
theorem Inv.funs (I : Inv X pins σ H s) : s.heap.FunFrames X.base X.outer := by
  have all : ∀ (l : List Env), (∀ b ∈ frs l, b ∈ X.fs) → X.s₀.heap.FunFrames X.base l → s.heap.FunFrames X.base l := by
    intro l
    induction l with
    | nil => intro _ _; trivial
    | cons env r ih =>
      intro hs hl
      obtain ⟨hk, ⟨L, o, hf, hn, ho, hd⟩, hr⟩ := hl
      have hL : L ∈ X.fs := hs L (by unfold frs; rw [List.filterMap_cons, hf]; exact List.mem_cons_self)
      obtain ⟨sl, e⟩ := I.base.slot L o ho (I.ok.frf L hL) hL fun z => I.ok.exfs L z hL
      exact ⟨hk, ⟨L, _, hf, hn, e, hd⟩, ih (fun b hb => hs b (by unfold frs; rw [List.filterMap_cons, hf]; exact List.mem_cons_of_mem _ hb)) hr⟩
  exact all X.outer (fun _ hb => hb) I.ok.funs

/-- the frames that run, for a call -/
theorem Inv.stack (I : Inv X pins σ H s) : s.heap.FunFrames X.base X.stack := by
  rcases I.ok.stk with e | ⟨e, hf⟩
  · rw [e]; exact I.funs
  · rw [e]
    obtain ⟨m, hn, _⟩ := I.loc
    refine .cons (by rw [I.ok.kind]; decide) hf hn ?_ I.funs
    exact Heap.get?_none_of_le (Nat.le_trans I.ok.bsz I.ok.above)
theorem Inv.stkSub (I : Inv X pins σ H s) : ∀ b ∈ frs X.stack, b ∈ X.env.locals :: X.fs := fun b hb => by
  rcases I.ok.stk with e | ⟨e, hf⟩
  · rw [e] at hb; exact List.mem_cons_of_mem _ hb
  · rw [e] at hb
    unfold frs at hb
    rw [List.filterMap_cons, hf] at hb
    exact hb
theorem Inv.stkFree (I : Inv X pins σ H s) : ∀ b ∈ frs X.stack, H b = none := fun b hb => by
  rcases List.mem_cons.mp (I.stkSub b hb) with e | hb
  · rw [e]; exact I.free
  · obtain ⟨_, o, ho, _⟩ := I.ok.funs.mem hb
    exact I.base.free b o ho (I.ok.frf b hb) fun z => I.ok.exfs b z hb

/-- THE STEP: the untracked objects but the frame and the records at ch are kept (the callers' frames up to slots), the frame's map is kept, the new abstract heap is held -/
theorem Inv.step {g' : Array GenState} {t' : Nat} {d' : Drawn} {ch : List Addr} (I : Inv X pins σ H s)
    (hch : ∀ b ∈ ch, (b ∈ X.ex ∨ X.s₀.heap.objs.size ≤ b) ∧ b ≠ X.env.locals ∧ (∀ x c, X.env.cells.lookup x = some c → c ≠ b) ∧ ∀ p ∈ X.pn ++ pins, p.1 ≠ b)
    (keep : ∀ b o, b ≠ X.env.locals → b ∉ X.fs → b ∉ ch → s.heap.get? b = some o → H b = none → h'.get? b = some o)
    (slot : ∀ b o, b ≠ X.env.locals → b ∈ X.fs → b ∉ ch → s.heap.get? b = some o → H b = none → ∃ sl, h'.get? b = some { o with slots := sl }) (free : ∀ b o, b ∉ ch → s.heap.get? b = some o → H b = none → H' b = none)
    (there : ∀ b o, b ∉ ch → s.heap.get? b = some o → ∃ o', h'.get? b = some o')
    (tups : ∀ b xs, H b = some (.tup xs) → H' b = some (.tup xs)) (frzs : ∀ b o u, H b = some (.frz o u) → H' b = some (.frz o u)) (tbls : ∀ b ps, H b = some (.tbl ps) → ∃ more, H' b = some (.tbl (ps ++ more)))
    (ns : ∀ m, s.heap.Ns X.env.locals m → h'.Ns X.env.locals m) (hok : HOk X.prog X.w H' h') (hg : AllBare g') :
    Inv X pins σ H' { s with heap := h', gens := g', drawn := d', toks := t' } := by
  have neL : ∀ b o, X.s₀.heap.get? b = some o → b ≠ X.env.locals := fun b o e => Nat.ne_of_lt (Nat.lt_of_lt_of_le (Heap.lt_size e) I.ok.above)
  have neC : ∀ b o, X.s₀.heap.get? b = some o → b ∉ X.ex → b ∉ ch := fun b o e hx hb => by
    rcases (hch b hb).1 with z | z
    · exact hx z
    · exact absurd (Nat.lt_of_lt_of_le (Heap.lt_size e) z) (Nat.lt_irrefl _)
  have cellK : ∀ x c, X.env.cells.lookup x = some c → ∀ v, s.heap.IsCell c v → h'.IsCell c v := fun x c e v ⟨o, ho, hd⟩ => by
    have nch : c ∉ ch := fun z => (hch c z).2.2.1 x c e rfl
    by_cases hc : c ∈ X.fs
    · obtain ⟨sl, q⟩ := slot c o (I.cne x c e) hc nch ho (I.freeC x c e)
      exact ⟨_, q, hd⟩
    · exact ⟨o, keep c o (I.cne x c e) hc nch ho (I.freeC x c e), hd⟩
  refine ⟨I.ok, I.os, hg, ⟨fun b o e n hb hx => ?_, fun b o e n hb hx => ?_, fun b o e n hx => ?_, fun b o e hx => ?_, fun b xs e => tups b xs (I.base.tups b xs e), fun b o xs e => frzs b o xs (I.base.frzs b o xs e), fun b ps e => ?_⟩, ?_, fun x c e => ?_, ?_, fun x c e => ?_, fun p hp => ?_, hok, I.len⟩
  · exact keep b o (neL b o e) hb (neC b o e hx) (I.base.keep b o e n hb hx) (I.base.free b o e n hx)
  · obtain ⟨sl, e1⟩ := I.base.slot b o e n hb hx
    obtain ⟨sl', e2⟩ := slot b _ (neL b o e) hb (neC b o e hx) e1 (I.base.free b o e n hx)
    exact ⟨sl', e2⟩
  · obtain ⟨o', e1⟩ := I.base.there b o e hx
    exact free b o' (neC b o e hx) e1 (I.base.free b o e n hx)
  · obtain ⟨o', e1⟩ := I.base.there b o e hx
    exact there b o' (neC b o e hx) e1
  · obtain ⟨m1, e1⟩ := I.base.tbls b ps e
    obtain ⟨m2, e2⟩ := tbls b _ e1
    exact ⟨m1 ++ m2, by rw [e2, Array.append_assoc]⟩
  · obtain ⟨m, hn, hl⟩ := I.loc
    refine ⟨m, ns m hn, fun i x v e1 e2 e3 => ?_⟩
    obtain ⟨u, r, l⟩ := hl i x v e1 e2 e3
    refine ⟨u, r, ?_⟩
    rcases l with l | ⟨k, c, e, z⟩
    · exact .inl l
    · exact .inr ⟨k, c, e, cellK x c e _ z⟩
  · obtain ⟨v, z⟩ := I.cell x c e
    exact ⟨v, cellK x c e v z⟩
  · obtain ⟨m, ⟨o, _, _, ho, _⟩, _⟩ := I.loc
    exact free _ o (fun z => (hch _ z).2.1 rfl) ho I.free
  · obtain ⟨v, o, ho, hd⟩ := I.cell x c e
    exact free c o (fun z => (hch c z).2.2.1 x c e rfl) ho (I.freeC x c e)
  · obtain ⟨e, n, ne, nf, d⟩ := I.pin p hp
    have nch : p.1 ∉ ch := fun z => (hch p.1 z).2.2.2 p hp rfl
    exact ⟨keep p.1 p.2 ne nf nch e n, free p.1 p.2 nch e n, ne, nf, d⟩
/-- .. where the frame's own object is kept too -/
theorem Inv.un {t' : Nat} (I : Inv X pins σ H s) (u : Un X.fs [] H H' s.heap h') (hok : HOk X.prog X.w H' h') : Inv X pins σ H' { s with heap := h', toks := t' } := by
  obtain ⟨m, ⟨o, es, ep, ho, r⟩, _⟩ := id I.loc
  obtain ⟨sl, hL⟩ := u.any ho I.free (by simp)
  exact I.step (g' := s.gens) (d' := s.drawn) (ch := []) (fun _ z => nomatch z) (fun b o _ hb _ e n => u.keep b o e n hb (by simp)) (fun b o _ hb _ e n => u.slot b o e n hb (by simp)) (fun b o _ e n => u.free b o e n (by simp)) (fun b o _ e => u.there b o e (by simp)) u.tups u.frzs u.tbls (fun m' hm => by
    obtain ⟨o', es', ep', ho', r'⟩ := hm
    rw [ho] at ho'; cases ho'
    exact ⟨_, es', ep', hL, r'⟩) hok I.bare
/-- behind a call (or a comprehension's block): the slots of this frame may have changed too, the records at ch may have turned -/
theorem Inv.call {g' : Array GenState} {t' : Nat} {d' : Drawn} {ch : List Addr} (I : Inv X pins σ H s) (u : Un (frs X.stack) ch H H' s.heap h') (hok : HOk X.prog X.w H' h') (hg : AllBare g')
    (hch : ∀ b ∈ ch, (b ∈ X.ex ∨ X.s₀.heap.objs.size ≤ b) ∧ b ≠ X.env.locals ∧ (∀ x c, X.env.cells.lookup x = some c → c ≠ b) ∧ ∀ p ∈ X.pn ++ pins, p.1 ≠ b) :
    Inv X pins σ H' { s with heap := h', gens := g', drawn := d', toks := t' } := by
  obtain ⟨m, ⟨o, es, ep, ho, r⟩, _⟩ := id I.loc
  obtain ⟨sl, hL⟩ := u.any ho I.free fun z => (hch _ z).2.1 rfl
  exact I.step (ch := ch) hch (fun b o hL hb hc e n => u.keep b o e n (fun z => (List.mem_cons.mp (I.stkSub b z)).elim hL hb) hc) (fun b o _ _ hc e n => u.any e n hc) (fun b o hc e n => u.free b o e n hc) (fun b o hc e => u.there b o e hc) u.tups u.frzs u.tbls (fun m' hm => by
    obtain ⟨o', es', ep', ho', r'⟩ := hm
    rw [ho] at ho'; cases ho'
    exact ⟨_, es', ep', hL, r'⟩) hok hg
/-- an untracked record of ours (an iterator) has turned -/
theorem Inv.turned {t' : Nat} {it : Addr} (I : Inv X pins σ H s) (k : ∀ b o, b ≠ it → s.heap.get? b = some o → h'.get? b = some o) (hn : H it = none) (hL : it ≠ X.env.locals)
    (h1 : it ∈ X.ex ∨ X.s₀.heap.objs.size ≤ it) (h2 : ∀ x c, X.env.cells.lookup x = some c → c ≠ it) (h3 : ∀ p ∈ X.pn ++ pins, p.1 ≠ it) : Inv X pins σ H { s with heap := h', toks := t' } := by
  have nit : ∀ b u, H b = some u → b ≠ it := fun b u e z => by rw [z, hn] at e; cases e
  refine I.step (g' := s.gens) (d' := s.drawn) (ch := [it]) (fun b hb => ?_) (fun b o _ _ hc e _ => k b o (fun z => hc (by simp [z])) e) (fun b o _ _ hc e _ => ⟨o.slots, k b o (fun z => hc (by simp [z])) e⟩) (fun _ _ _ _ n => n)
    (fun b o hc e => ⟨o, k b o (fun z => hc (by simp [z])) e⟩) (fun _ _ e => e) (fun _ _ _ e => e) (fun b ps e => ⟨#[], by rw [e]; simp⟩) (fun m hm => ?_) (fun b u e => ?_) I.bare
  · have e : b = it := by simpa using hb
    subst e
    exact ⟨h1, hL, h2, h3⟩
  · obtain ⟨o, es, ep, ho, r⟩ := hm
    exact ⟨o, es, ep, k _ o (Ne.symm hL) ho, r⟩
  · refine (I.hok b u e).stay (fun c v hc q => k c v ?_ q) (fun _ q => q) fun _ _ q => q
    rcases hc with z | z
    · rw [z]; exact nit b u e
    · exact nit c _ z
theorem Inv.tok (I : Inv X pins σ H s) (t : Nat) : Inv X pins σ H { s with toks := t } := I.un (h' := s.heap) (t' := t) Un.refl I.hok
/-- all objects kept -/
theorem Inv.kept {t' : Nat} (I : Inv X pins σ H s) (k : ∀ b u, s.heap.get? b = some u → h'.get? b = some u) : Inv X pins σ H { s with heap := h', toks := t' } := I.un (Un.kept k) (I.hok.kept k)
/-- a new object laid and tracked -/
theorem Inv.laid {a : Addr} {o : HO} {t' : Nat} (I : Inv X pins σ H s) (k : ∀ b u, s.heap.get? b = some u → h'.get? b = some u) (hp : s.heap.objs.size ≤ a) (new : ObjOk X.prog X.w (upd H a o) h' a o) :
    Inv X pins σ (upd H a o) { s with heap := h', toks := t' } := I.un (Un.laid k hp (I.hok.fresh hp)) (I.hok.laid k hp new)
/-- an object written -/
theorem Inv.write {x e : Addr} {o : HO} {t' : Nat} (I : Inv X pins σ H s) (mu : Mut (H x)) (he : e = x ∨ H e = some (.own x)) (k : ∀ b u, b ≠ e → s.heap.get? b = some u → h'.get? b = some u) (heo : ∃ u, h'.get? e = some u)
    (new : ObjOk X.prog X.w (upd H x o) h' x o) : Inv X pins σ (upd H x o) { s with heap := h', toks := t' } := I.un (Un.write mu he k heo) (I.hok.write mu he k heo new)
theorem Inv.pins_of {pins' : List (Addr × Obj)} (I : Inv X pins σ H s) (h : ∀ p ∈ pins', s.heap.get? p.1 = some p.2 ∧ H p.1 = none ∧ p.1 ≠ X.env.locals ∧ p.1 ∉ X.fs ∧ ∀ v, p.2.data ≠ .cell v) : Inv X pins' σ H s :=
  ⟨I.ok, I.os, I.bare, I.base, I.loc, I.cell, I.free, I.freeC, fun p hp => (List.mem_append.mp hp).elim (fun z => I.pin p (List.mem_append_left _ z)) (h p), I.hok, I.len⟩

theorem nodup_ix {N : List Str} (hN : N.Nodup) {i j : Nat} {x : Str} (a : N[i]? = some x) (b : N[j]? = some x) : i = j := by
  obtain ⟨h1, e1⟩ := List.getElem?_eq_some_iff.mp a
  obtain ⟨h2, e2⟩ := List.getElem?_eq_some_iff.mp b
  exact (List.getElem_inj hN).mp (e1.trans e2.symm)

/-- a name is stored; what changed -/
theorem store_ok2 {M : Model} {A : Around} {E : Value → Shared → Prop} {i : Nat} {x : Str} {v : V} {u : Value} {Q : Unit → Shared → Prop} (I : Inv X pins σ H s) (hN : X.N.Nodup) (hi : X.N[i]? = some x) (hx : Loc X.env.scope x) (r : RelV v u)
    (h : ∀ s', Inv X pins (σ.set i (some v)) H s' → (∃ a, Heap.SameBut a s.heap s'.heap ∧ (a = X.env.locals ∨ X.env.cells.lookup x = some a)) → Q () s') (hf : X.fn x = true ∨ X.env.scope.names.lookup x = some .local := by first | exact .inl rfl | exact .inr rfl | assumption) : wpAny M A (storeName X.env x u) Q E s := by
  obtain ⟨m, hn, hl⟩ := id I.loc
  have hcls : (X.env.scope.kind == .class || (X.env.scope.kind == .module && X.env.locals != X.env.globals)) = false := by rw [I.ok.kind]; rfl
  have hiσ : i < σ.length := by rw [I.len]; exact (List.getElem?_eq_some_iff.mp hi).1
  have cne := I.cne
  have tracked : ∀ {a : Addr} {h' : Heap}, (∃ o, s.heap.get? a = some o ∧ H a = none) → Heap.SameBut a s.heap h' → HOk X.prog X.w H h' := fun {a h'} ha hs b ob e => by
    obtain ⟨_, _, hfree⟩ := ha
    refine (I.hok b ob e).stay (fun c w' hc q => (hs.2 c ?_).trans q) (fun _ q => q) fun _ _ q => q
    rintro rfl
    rcases hc with rfl | hc
    · rw [hfree] at e; cases e
    · rw [hfree] at hc; cases hc
  rcases hx with hk | hk
  · refine wpAny_storeName_local hk hn (fun h' hn' hs => ?_) hcls
    obtain ⟨oL, _, _, hoL, _⟩ := id hn
    refine h _ ⟨I.ok, I.os, I.bare, ⟨fun b o e n hb hx => ?_, fun b o e n hb hx => ?_, I.base.free, fun b o e hx => ?_, I.base.tups, I.base.frzs, I.base.tbls⟩, ⟨_, hn', fun j y v' e1 e2 e3 => ?_⟩, fun y c e => ?_, I.free, I.freeC, fun p hp => ?_, tracked ⟨oL, hoL, I.free⟩ hs, by simpa using I.len⟩ ⟨_, hs, .inl rfl⟩
    · exact (hs.2 b (Nat.ne_of_lt (Nat.lt_of_lt_of_le (Heap.lt_size e) I.ok.above))).trans (I.base.keep b o e n hb hx)
    · obtain ⟨sl, e1⟩ := I.base.slot b o e n hb hx
      exact ⟨sl, (hs.2 b (Nat.ne_of_lt (Nat.lt_of_lt_of_le (Heap.lt_size e) I.ok.above))).trans e1⟩
    · obtain ⟨o', e1⟩ := I.base.there b o e hx
      exact ⟨o', (hs.2 b (Nat.ne_of_lt (Nat.lt_of_lt_of_le (Heap.lt_size e) I.ok.above))).trans e1⟩
    · by_cases hj : j = i
      · subst hj
        rw [hi] at e1; cases e1
        rw [List.getElem?_set_self hiσ] at e2
        cases e2
        exact ⟨u, r, .inl ⟨hk, by simp⟩⟩
      · rw [List.getElem?_set_ne (Ne.symm hj)] at e2
        obtain ⟨u', r', q⟩ := hl j y v' e1 e2 e3
        refine ⟨u', r', ?_⟩
        rcases q with ⟨k, e⟩ | ⟨k, c, e, z⟩
        · refine .inl ⟨k, ?_⟩
          have : y ≠ x := fun e => hj (nodup_ix hN e1 (e ▸ hi))
          simp [this, e]
        · exact .inr ⟨k, c, e, z.sameBut hs (cne y c e)⟩
    · obtain ⟨w', z⟩ := I.cell y c e
      exact ⟨w', z.sameBut hs (cne y c e)⟩
    · obtain ⟨e, n, ne, nf, d⟩ := I.pin p hp
      exact ⟨(hs.2 p.1 ne).trans e, n, ne, nf, d⟩
  · have hfn : X.fn x = true := by
      rcases hf with z | z
      · exact z
      · rw [z] at hk; cases hk
    obtain ⟨c, hc⟩ := I.ok.has x (.inl hk)
    obtain ⟨w', z⟩ := I.cell x c hc
    refine wpAny_storeName_cell I.ok.kind hk hc z (fun h' hc' hs => ?_)
    obtain ⟨oc, hoc, hocd⟩ := id z
    refine h { s with heap := h' } ⟨I.ok, I.os, I.bare, ⟨fun b o e n hb hx => ?_, fun b o e n hb hx => ?_, I.base.free, fun b o e hx => ?_, I.base.tups, I.base.frzs, I.base.tbls⟩, ⟨m, hn.sameBut hs (Ne.symm (cne x c hc)), fun j y v' e1 e2 e3 => ?_⟩, fun y c' e => ?_, I.free, I.freeC, fun p hp => ?_, tracked ⟨oc, hoc, I.freeC x c hc⟩ hs, by simpa using I.len⟩ ⟨c, hs, .inr hc⟩
    · exact (hs.2 b (Nat.ne_of_lt (Nat.lt_of_lt_of_le (Heap.lt_size e) (I.ok.cab x c hfn hc)))).trans (I.base.keep b o e n hb hx)
    · obtain ⟨sl, e1⟩ := I.base.slot b o e n hb hx
      exact ⟨sl, (hs.2 b (Nat.ne_of_lt (Nat.lt_of_lt_of_le (Heap.lt_size e) (I.ok.cab x c hfn hc)))).trans e1⟩
    · obtain ⟨o', e1⟩ := I.base.there b o e hx
      exact ⟨o', (hs.2 b (Nat.ne_of_lt (Nat.lt_of_lt_of_le (Heap.lt_size e) (I.ok.cab x c hfn hc)))).trans e1⟩
    · by_cases hj : j = i
      · subst hj
        rw [hi] at e1; cases e1
        rw [List.getElem?_set_self hiσ] at e2
        cases e2
        exact ⟨u, r, .inr ⟨.inl hk, c, hc, hc'⟩⟩
      · rw [List.getElem?_set_ne (Ne.symm hj)] at e2
        obtain ⟨u', r', q⟩ := hl j y v' e1 e2 e3
        refine ⟨u', r', ?_⟩
        rcases q with q | ⟨k, c', e, z'⟩
        · exact .inl q
        · refine .inr ⟨k, c', e, z'.sameBut hs ?_⟩
          rintro rfl
          exact hj (nodup_ix hN e1 (I.ok.inj _ _ _ e hc ▸ hi))
    · by_cases hcc : c' = c
      · subst hcc; exact ⟨_, hc'⟩
      · obtain ⟨w2, z2⟩ := I.cell y c' e
        exact ⟨w2, z2.sameBut hs hcc⟩
    · obtain ⟨e, n, ne, nf, d⟩ := I.pin p hp
      refine ⟨(hs.2 p.1 ?_).trans e, n, ne, nf, d⟩
      intro q
      rw [q, hoc] at e
      have q' : oc = p.2 := Option.some.inj e
      exact d w' (by rw [← q']; exact hocd)
theorem store_ok {M : Model} {A : Around} {E : Value → Shared → Prop} {i : Nat} {x : Str} {v : V} {u : Value} {Q : Unit → Shared → Prop} (I : Inv X pins σ H s) (hN : X.N.Nodup) (hi : X.N[i]? = some x) (hx : Loc X.env.scope x) (r : RelV v u)
    (h : ∀ s', Inv X pins (σ.set i (some v)) H s' → Q () s') (hf : X.fn x = true ∨ X.env.scope.names.lookup x = some .local := by first | exact .inl rfl | exact .inr rfl | assumption) : wpAny M A (storeName X.env x u) Q E s :=
  store_ok2 I hN hi hx r (fun s' I' _ => h s' I') hf
/-- behind a call or a block, the state as it is -/
theorem Inv.call' {s' : Shared} {ch : List Addr} (I : Inv X pins σ H s) (ho : s'.os = s.os) (u : Un (frs X.stack) ch H H' s.heap s'.heap) (hok : HOk X.prog X.w H' s'.heap) (hg : AllBare s'.gens)
    (hch : ∀ b ∈ ch, (b ∈ X.ex ∨ X.s₀.heap.objs.size ≤ b) ∧ b ≠ X.env.locals ∧ (∀ x c, X.env.cells.lookup x = some c → c ≠ b) ∧ ∀ p ∈ X.pn ++ pins, p.1 ≠ b) : Inv X pins σ H' s' := by
  obtain ⟨h', g', d', t', o'⟩ := s'
  have e : o' = s.os := ho
  subst e
  exact I.call (g' := g') (t' := t') (d' := d') u hok hg hch
end

/-! ### the judgements -/
/-- an exception: its class, its own dict's address (where it has one), the abstract heap behind it -/
abbrev XK := Value → Option Addr → Hp → Prop
abbrev St := List (Option V)
abbrev VK := V → Hp → Prop
/-- an expression's reading; a test's; an argument list's -/
abbrev TE := St → Hp → VK → Prop
abbrev TT := St → Hp → (Bool → Hp → Prop) → Prop
abbrev TA := St → Hp → (List V → Hp → Prop) → Prop
/-- what is wanted behind a statement -/
structure Ends where
  nx : St → Hp → Prop
  rt : VK
  bk : St → Hp → Prop := fun _ _ => False
  ct : St → Hp → Prop := fun _ _ => False
abbrev TS := Ends → St → Hp → Prop

def EP (X : Cx) (pins : List (Addr × Obj)) (σ : St) (Q : VK) (u : Value) (s' : Shared) : Prop := ∃ v H', Inv X pins σ H' s' ∧ RelV v u ∧ Q v H'
def TP (X : Cx) (pins : List (Addr × Obj)) (σ : St) (Q : Bool → Hp → Prop) (b : Bool) (s' : Shared) : Prop := ∃ H', Inv X pins σ H' s' ∧ Q b H'
def AP (X : Cx) (pins : List (Addr × Obj)) (σ : St) (Q : List V → Hp → Prop) (us : List Value) (s' : Shared) : Prop := ∃ vs H', Inv X pins σ H' s' ∧ Vals vs us ∧ Q vs H'
def SP (X : Cx) (pins : List (Addr × Obj)) (D : Ends) (f : Flow) (s' : Shared) : Prop :=
  match f with
  | .next => ∃ σ' H', Inv X pins σ' H' s' ∧ D.nx σ' H'
  | .brk => ∃ σ' H', Inv X pins σ' H' s' ∧ D.bk σ' H'
  | .cont => ∃ σ' H', Inv X pins σ' H' s' ∧ D.ct σ' H'
  | .ret u => ∃ v σ' H', Inv X pins σ' H' s' ∧ RelV v u ∧ D.rt v H'

def PE (X : Cx) (e : Expr) (t : TE) : Prop :=
  ∀ (pins : List (Addr × Obj)) (s : Shared) (σ : St) (H : Hp) (Q : VK), Inv X pins σ H s → t σ H Q → wpAny (model X.prog X.w) X.A (eval e X.env) (EP X pins σ Q) X.xe s
def PT (X : Cx) (e : Expr) (t : TT) : Prop :=
  ∀ (pins : List (Addr × Obj)) (s : Shared) (σ : St) (H : Hp) (Q : Bool → Hp → Prop), Inv X pins σ H s → t σ H Q → wpAny (model X.prog X.w) X.A (isTrue e X.env (eval e X.env)) (TP X pins σ Q) X.xe s
/-- a test whatever its 'whole' is (and, or) -/
def PW (X : Cx) (e : Expr) (t : TT) : Prop :=
  ∀ (whole : Sem Value) (pins : List (Addr × Obj)) (s : Shared) (σ : St) (H : Hp) (Q : Bool → Hp → Prop), Inv X pins σ H s → t σ H Q → wpAny (model X.prog X.w) X.A (isTrue e X.env whole) (TP X pins σ Q) X.xe s
theorem PW.pt {X : Cx} {e : Expr} {t : TT} (h : PW X e t) : PT X e t := h _
/-- an argument list (no star), from the left -/
def PA (X : Cx) (es : List Expr) (t : TA) : Prop :=
  ∀ (pos : Pos) (pins : List (Addr × Obj)) (s : Shared) (σ : St) (H : Hp) (Q : List V → Hp → Prop), Inv X pins σ H s → t σ H Q → wpAny (model X.prog X.w) X.A (spliced (backTo pos (starEach es X.env))) (AP X pins σ Q) X.xe s
def PS (X : Cx) (st : Stmt) (t : TS) : Prop :=
  ∀ (pins : List (Addr × Obj)) (s : Shared) (σ : St) (H : Hp) (D : Ends), Inv X pins σ H s → t D σ H → wpAny (model X.prog X.w) X.A (exec st X.env) (SP X pins D) X.xe s
def PSs (X : Cx) (st : List Stmt) (t : TS) : Prop :=
  ∀ (pins : List (Addr × Obj)) (s : Shared) (σ : St) (H : Hp) (D : Ends), Inv X pins σ H s → t D σ H → wpAny (model X.prog X.w) X.A (execs st X.env) (SP X pins D) X.xe s
/-- weaken the end -/
theorem thn {α : Type} {t : Sem α} {Q Q' : α → Shared → Prop} {M : Model} {A : Around} {E : Value → Shared → Prop} {s : Shared} (h : wpAny M A t Q E s) (hQ : ∀ a s, Q a s → Q' a s) : wpAny M A t Q' E s := wpAny_mono h hQ fun _ _ x => x
end L2

namespace L2
open PySem PySem.Spec PyProof.Rows
section
variable {X : Cx}

/-! ### names and constants -/
def tVar (i : Nat) : TE := fun σ H Q => ∃ v, σ[i]? = some (some v) ∧ Q v H
def tC (v : V) : TE := fun _ H Q => Q v H
theorem pe_var {i : Nat} {x : Str} {pos : Pos} (hN : X.N[i]? = some x) (hv : Vis X.env.scope x) (hd : (x == ("__debug__" : Str)) = false := by decide) (hcd : (x == ("__classdict__" : Str)) = false := by decide) : PE X (.Name x pos) (tVar i) := by
  intro pins s σ H Q I h
  obtain ⟨v, e, h⟩ := h
  obtain ⟨m, hn, hl⟩ := I.loc
  obtain ⟨u, r, l⟩ := hl i x v hN e hv
  have fin : EP X pins σ Q u s := ⟨v, H, I, r, h⟩
  rcases l with ⟨hk, hm⟩ | ⟨hk, c, hc, hcell⟩
  · exact wpAny_Name (wpAny_loadName_local I.ok.kind hk hn hm fin) hd
  · rcases hk with hk | hk
    · exact wpAny_Name (wpAny_loadName_cell I.ok.kind hk hc hcell fin) hd
    · exact wpAny_Name (wpAny_loadName_free I.ok.kind hk hc hcell fin hcd) hd
theorem pe_int {i j pos} : PE X (.Constant (.int i) j pos) (tC (.int i)) := fun _ _ _ H _ I h => wpAny_Constant_int ⟨.int i, H, I.tok _, ⟨_, rfl⟩, h⟩
theorem pe_bl {b j pos} : PE X (.Constant (.bool b) j pos) (tC (.bl b)) := fun _ _ _ H _ I h => Constant_bool ⟨.bl b, H, I, rfl, h⟩
theorem pe_non {j pos} : PE X (.Constant .none j pos) (tC .non) := fun _ _ _ H _ I h => Constant_none ⟨.non, H, I, rfl, h⟩
theorem pe_str {x j pos} : PE X (.Constant (.str x) j pos) (tC (.str x)) := fun _ _ _ H _ I h => Calls.Constant_str ⟨.str x, H, I.tok _, ⟨_, rfl⟩, h⟩

/-- a global name of the def -/
def Gl (X : Cx) (x : Str) : Prop := X.env.kindOf x = some .globalImplicit
theorem ld_glob {E : Value → Shared → Prop} {pins : List (Addr × Obj)} {s : Shared} {σ : St} {H : Hp} {x : Str} {u : Value} {pos : Pos} {Q : Value → Shared → Prop} (I : Inv X pins σ H s) (hg : Gl X x) (hm : X.mg x = some u) (h : Q u s)
    (hd : (x == ("__debug__" : Str)) = false := by decide) : wpAny (model X.prog X.w) X.A (eval (.Name x pos) X.env) Q E s :=
  Calls.Name_function_global I.ok.kind hg (Calls.loadGlobal_global (by rw [I.ok.glob]; exact I.mod.glob.keeps I.bk) hm h) hd
theorem ld_blt {E : Value → Shared → Prop} {pins : List (Addr × Obj)} {s : Shared} {σ : St} {H : Hp} {x : Str} {u : Value} {pos : Pos} {Q : Value → Shared → Prop} (I : Inv X pins σ H s) (hg : Gl X x) (hm : X.mg x = none) (hv : bootBuiltins x = some u) (h : Q u s)
    (hn : x ≠ "__name__" := by decide) (hd : (x == ("__debug__" : Str)) = false := by decide) : wpAny (model X.prog X.w) X.A (eval (.Name x pos) X.env) Q E s := by
  obtain ⟨mb, h1, h2⟩ := I.mod.blt
  exact Calls.Name_function_global I.ok.kind hg (Calls.loadGlobal_builtin (by rw [I.ok.glob]; exact I.mod.glob.keeps I.bk) hm (by rw [I.ok.blt]; exact h1.keeps I.bk) ((h2 x hn).trans hv) h) hd
/-- a module's constant, a class, a function, as a value -/
theorem pe_glob {x : Str} {v : V} {u : Value} {pos : Pos} (hg : Gl X x) (hm : X.mg x = some u) (r : RelV v u) (hd : (x == ("__debug__" : Str)) = false := by decide) : PE X (.Name x pos) (tC v) :=
  fun _ _ _ H _ I h => ld_glob I hg hm ⟨v, H, I, r, h⟩ hd
theorem pe_bltn {x : Str} {v : V} {u : Value} {pos : Pos} (hg : Gl X x) (hm : X.mg x = none) (hv : bootBuiltins x = some u) (r : RelV v u) (hn : x ≠ "__name__" := by decide) (hd : (x == ("__debug__" : Str)) = false := by decide) : PE X (.Name x pos) (tC v) :=
  fun _ _ _ H _ I h => ld_blt I hg hm hv ⟨v, H, I, r, h⟩ hn hd

/-! ### arithmetic -/
variable {a b : Expr} {ta tb : TE} {pos : Pos}
/-! ### comparisons -/
def PC (X : Cx) (op : CmpOp) (a b : Expr) (t : TE) : Prop :=
  ∀ (pins : List (Addr × Obj)) (s : Shared) (σ : St) (H : Hp) (Q : VK), Inv X pins σ H s → t σ H Q →
    wpAny (model X.prog X.w) X.A (eval a X.env) (fun v s₁ => wpAny (model X.prog X.w) X.A (eval b X.env) (fun u s₂ => wpAny (model X.prog X.w) X.A (compareOp op v u) (EP X pins σ Q) X.xe s₂) X.xe s₁) X.xe s
/-- a comparison as a value, as a test -/
def tB (t : TE) : TT := fun σ H Q => t σ H fun x H1 => ∃ c, x = .bl c ∧ Q c H1
theorem pt_cmp {op : CmpOp} {t : TE} (h : PC X op a b t) (h1 : behindInMarks op b = false := by first | exact nobehind _ (by decide) (by decide) | rfl) : PT X (.Compare a [op] [b] pos) (tB t) := by
  intro pins s σ H Q I hw
  refine wpAny_isTrue_Compare1 (thn (h pins s σ H _ I hw) fun v s1 h1 => thn h1 fun u s2 h2 => thn h2 fun c s3 ⟨x, H1, I1, r1, q1⟩ => ?_) h1
  obtain ⟨d, rfl, q⟩ := q1
  cases r1
  exact wpAny_truthy_bool ⟨H1, I1, q⟩
/-! ### and, or, not -/
variable {tA tB' : TT} {rest : List Expr}
def tAnd (t u : TT) : TT := fun σ H Q => t σ H fun c H1 => if c = true then u σ H1 Q else Q false H1
def tOr (t u : TT) : TT := fun σ H Q => t σ H fun c H1 => if c = true then Q true H1 else u σ H1 Q
def tNot (t : TT) : TT := fun σ H Q => t σ H fun c H1 => Q (!c) H1
theorem pw_and1 (ha : PT X a tA) : PW X (.BoolOp .And [a] pos) tA := by
  intro wh pins s σ H Q I h
  refine isTrue_and (thn (ha pins s σ H Q I h) fun c s1 e => ?_)
  cases c with
  | true => exact isTrue_and_nil e
  | false => exact e
theorem pw_or1 (ha : PT X a tA) : PW X (.BoolOp .Or [a] pos) tA := by
  intro wh pins s σ H Q I h
  refine isTrue_or (thn (ha pins s σ H Q I h) fun c s1 e => ?_)
  cases c with
  | false => exact isTrue_or_nil e
  | true => exact e
theorem pw_and (ha : PT X a tA) (hb : PW X (.BoolOp .And (b :: rest) pos) tB') : PW X (.BoolOp .And (a :: b :: rest) pos) (tAnd tA tB') := by
  intro wh pins s σ H Q I h
  refine isTrue_and (thn (ha pins s σ H _ I h) fun c s1 ⟨H1, I1, q1⟩ => ?_)
  cases c with
  | true => exact hb wh pins s1 σ H1 Q I1 q1
  | false => exact ⟨H1, I1, q1⟩
theorem pw_or (ha : PT X a tA) (hb : PW X (.BoolOp .Or (b :: rest) pos) tB') : PW X (.BoolOp .Or (a :: b :: rest) pos) (tOr tA tB') := by
  intro wh pins s σ H Q I h
  refine isTrue_or (thn (ha pins s σ H _ I h) fun c s1 ⟨H1, I1, q1⟩ => ?_)
  cases c with
  | true => exact ⟨H1, I1, q1⟩
  | false => exact hb wh pins s1 σ H1 Q I1 q1
theorem pt_not (ha : PT X a tA) : PT X (.UnaryOp .Not a pos) (tNot tA) := by
  intro pins s σ H Q I h
  exact isTrue_not (ha pins s σ H (fun c H1 => Q (!c) H1) I h)
/-- .. as values (bools) -/
def tAndV (ta tb : TE) : TE := fun σ H Q => ta σ H fun x H1 => ∃ c, x = .bl c ∧ if c = true then tb σ H1 Q else Q (.bl false) H1
def tOrV (ta tb : TE) : TE := fun σ H Q => ta σ H fun x H1 => ∃ c, x = .bl c ∧ if c = true then Q (.bl true) H1 else tb σ H1 Q
def tNotV (ta : TE) : TE := fun σ H Q => ta σ H fun x H1 => ∃ c, x = .bl c ∧ Q (.bl (!c)) H1
theorem pe_one {op} {t : TE} (h : PE X a t) : PE X (.BoolOp op [a] pos) t := fun pins s σ H Q I hw => BoolOp_one (h pins s σ H Q I hw)
theorem pe_and (ha : PE X a ta) (hb : PE X (.BoolOp .And (b :: rest) pos) tb) : PE X (.BoolOp .And (a :: b :: rest) pos) (tAndV ta tb) := by
  intro pins s σ H Q I h
  refine BoolOp_and (thn (ha pins s σ H _ I h) fun v s1 ⟨x, H1, I1, r1, q1⟩ => ?_)
  obtain ⟨c, rfl, q1⟩ := q1
  cases r1
  refine wpAny_truthy_bool ?_
  cases c with
  | true => exact hb pins s1 σ H1 Q I1 q1
  | false => exact ⟨.bl false, H1, I1, rfl, q1⟩
theorem pe_or (ha : PE X a ta) (hb : PE X (.BoolOp .Or (b :: rest) pos) tb) : PE X (.BoolOp .Or (a :: b :: rest) pos) (tOrV ta tb) := by
  intro pins s σ H Q I h
  refine BoolOp_or (thn (ha pins s σ H _ I h) fun v s1 ⟨x, H1, I1, r1, q1⟩ => ?_)
  obtain ⟨c, rfl, q1⟩ := q1
  cases r1
  refine wpAny_truthy_bool ?_
  cases c with
  | false => exact hb pins s1 σ H1 Q I1 q1
  | true => exact ⟨.bl true, H1, I1, rfl, q1⟩
theorem pe_not (ha : PE X a ta) : PE X (.UnaryOp .Not a pos) (tNotV ta) := by
  intro pins s σ H Q I h
  refine UnaryOp_ (thn (ha pins s σ H _ I h) fun v s1 ⟨x, H1, I1, r1, q1⟩ => ?_)
  obtain ⟨c, rfl, q1⟩ := q1
  cases r1
  exact not_of (wpAny_truthy_bool ⟨.bl (!c), H1, I1, rfl, q1⟩)
end
end L2

namespace L2
open PySem PySem.Spec PyProof.Rows

/-! ### a list, a tuple that is read: tracked, frozen, or an object of the module -/
def SqL (K : PySem.W.Frag) (H : Hp) (a : Addr) (xs : List V) : Prop :=
  Rd H a (.lst xs) ∨
    ∃ (o : Obj) (its : Array Value) (n : Nat), K.lookup a = some o ∧ o.cls = .type "list" ∧ o.dict = none ∧ o.data = .seq its n ∧ its.size ≤ sizeLine ∧ Vals xs its.toList
def SqT (K : PySem.W.Frag) (H : Hp) (a : Addr) (xs : List V) : Prop :=
  Rd H a (.tup xs) ∨
    ∃ (o : Obj) (its : Array Value) (n : Nat), K.lookup a = some o ∧ o.cls = .type "tuple" ∧ o.data = .seq its n ∧ its.size ≤ sizeLine ∧ Vals xs its.toList
def absV : Value → Option V
  | .none => some .non
  | .bool b => some (.bl b)
  | .int i _ => some (.int i)
  | .str x _ => some (.str x)
  | .bytes b _ => some (.byt b)
  | .float b _ => some (.flt b)
  | .ref a => some (.ref a)
  | .type n => some (.ty n)
  | _ => none
theorem RelV.abs {x : V} {u : Value} (r : RelV x u) : absV u = some x := by
  cases x with
  | non => cases r; rfl
  | bl _ => cases r; rfl
  | int _ => obtain ⟨t, rfl⟩ := r; rfl
  | str _ => obtain ⟨t, rfl⟩ := r; rfl
  | byt _ => obtain ⟨t, rfl⟩ := r; rfl
  | flt _ => obtain ⟨t, rfl⟩ := r; rfl
  | ref _ => cases r; rfl
  | ty _ => cases r; rfl
theorem RelV.inj {x y : V} {u : Value} (r : RelV x u) (q : RelV y u) : x = y := Option.some.inj (r.abs.symm.trans q.abs)
theorem Vals.inj : ∀ {xs ys : List V} {us : List Value}, Vals xs us → Vals ys us → xs = ys
  | _, _, _, .nil, .nil => rfl
  | _, _, _, .cons r t, .cons r' t' => by rw [r.inj r', Vals.inj t t']
section
variable {X : Cx} {pins : List (Addr × Obj)} {σ : St} {H : Hp} {s : Shared} {a : Addr} {xs ys : List V}
theorem SqL.of {K : PySem.W.Frag} (h : H a = some (.lst xs)) : SqL K H a xs := .inl (.inl h)
theorem SqT.of {K : PySem.W.Frag} (h : H a = some (.tup xs)) : SqT K H a xs := .inl (.inl h)
theorem Inv.list (I : Inv X pins σ H s) (h : SqL X.K H a xs) : ∃ its : List Value, Vals xs its ∧ PlainL s.heap a its.toArray ∧ xs.length ≤ sizeLine := by
  rcases h with h | ⟨o, its, n, hk, hc, hd, hs, hz, r⟩
  · obtain ⟨z, its, n, r, e⟩ := h.ok I.hok
    exact ⟨its, r, ⟨_, n, e, rfl, rfl, rfl⟩, z⟩
  · refine ⟨its.toList, r, ⟨o, n, I.kIn a o hk, hc, hd, by simpa using hs⟩, ?_⟩
    have e := r.length
    simp only [Array.length_toList] at e
    (first | lia | omega)
theorem Inv.tuple (I : Inv X pins σ H s) (h : SqT X.K H a xs) : ∃ its : List Value, Vals xs its ∧ IsTup s.heap a its.toArray ∧ xs.length ≤ sizeLine := by
  rcases h with h | ⟨o, its, n, hk, hc, hs, hz, r⟩
  · obtain ⟨z, its, r, p⟩ := h.ok I.hok
    exact ⟨its, r, p, z⟩
  · refine ⟨its.toList, r, ⟨o, I.kIn a o hk, hc, n, by simpa using hs⟩, ?_⟩
    have e := r.length
    simp only [Array.length_toList] at e
    (first | lia | omega)
theorem Inv.list_inj (I : Inv X pins σ H s) (h : SqL X.K H a xs) (h' : SqL X.K H a ys) : xs = ys := by
  obtain ⟨its, r, ⟨o, n, e, _, _, d⟩, _⟩ := I.list h
  obtain ⟨its', r', ⟨o', n', e', _, _, d'⟩, _⟩ := I.list h'
  rw [e] at e'; cases e'
  rw [d] at d'
  injection d' with d1 _
  have : its = its' := by simpa using congrArg Array.toList d1
  subst this
  exact r.inj r'
theorem Inv.tuple_inj (I : Inv X pins σ H s) (h : SqT X.K H a xs) (h' : SqT X.K H a ys) : xs = ys := by
  obtain ⟨its, r, ⟨o, e, _, n, d⟩, _⟩ := I.tuple h
  obtain ⟨its', r', ⟨o', e', _, n', d'⟩, _⟩ := I.tuple h'
  rw [e] at e'; cases e'
  rw [d] at d'
  injection d' with d1 _
  have : its = its' := by simpa using congrArg Array.toList d1
  subst this
  exact r.inj r'
end

/-! ### another wish about exceptions -/
abbrev Cx.wish (X : Cx) (E : Value → Shared → Prop) : Cx := { X with xe := E }
/-- no exception leaves -/
abbrev Cx.nox (X : Cx) : Cx := X.wish fun _ _ => False
theorem Cx.Ok.wish {X : Cx} (ok : X.Ok) (E : Value → Shared → Prop) : (X.wish E).Ok :=
  ⟨ok.mod, ok.kind, ok.glob, ok.blt, ok.above, ok.inj, ok.has, ok.cab, ok.hd, ok.frames, ok.stk, ok.exf, ok.bs, ok.bsz, ok.noex, ok.exfs, ok.funs, ok.frf⟩
theorem Cx.Ok.unwish {X : Cx} {E : Value → Shared → Prop} (ok : (X.wish E).Ok) : X.Ok :=
  ⟨ok.mod, ok.kind, ok.glob, ok.blt, ok.above, ok.inj, ok.has, ok.cab, ok.hd, ok.frames, ok.stk, ok.exf, ok.bs, ok.bsz, ok.noex, ok.exfs, ok.funs, ok.frf⟩
section
variable {X : Cx} {pins : List (Addr × Obj)} {σ : St} {H : Hp} {s : Shared} {E : Value → Shared → Prop}
theorem Inv.wish (I : Inv X pins σ H s) (E : Value → Shared → Prop) : Inv (X.wish E) pins σ H s := ⟨I.ok.wish E, I.os, I.bare, I.base, I.loc, I.cell, I.free, I.freeC, I.pin, I.hok, I.len⟩
theorem Inv.unwish (I : Inv (X.wish E) pins σ H s) : Inv X pins σ H s := ⟨I.ok.unwish, I.os, I.bare, I.base, I.loc, I.cell, I.free, I.freeC, I.pin, I.hok, I.len⟩
theorem SP.unwish {D : Ends} {f : Flow} {s' : Shared} (h : SP (X.wish E) pins D f s') : SP X pins D f s' := by
  cases f with
  | next => obtain ⟨σ', H', I, q⟩ := h; exact ⟨σ', H', I.unwish, q⟩
  | brk => obtain ⟨σ', H', I, q⟩ := h; exact ⟨σ', H', I.unwish, q⟩
  | cont => obtain ⟨σ', H', I, q⟩ := h; exact ⟨σ', H', I.unwish, q⟩
  | ret u => obtain ⟨v, σ', H', I, r, q⟩ := h; exact ⟨v, σ', H', I.unwish, r, q⟩
theorem PSs.nox {st : List Stmt} {t : TS} (h : PSs X.nox st t) : PSs X st t := fun pins s σ H D I hw =>
  wpAny_mono (h pins s σ H D (I.wish _) hw) (fun _ _ q => q.unwish) fun _ _ z => False.elim z
end

/-! ### blocks and small statements -/
section
variable {X : Cx} {st : Stmt} {rest : List Stmt} {t u : TS} {e : Expr} {te : TE} {pos : Pos}
def tNext : TS := fun D σ H => D.nx σ H
def tSeq (t u : TS) : TS := fun D σ H => t { D with nx := u D } σ H
theorem pss_nil : PSs X [] tNext := fun _ _ σ H _ I h => wpAny_execs_nil ⟨σ, H, I, h⟩
theorem pss_cons (h1 : PS X st t) (h2 : PSs X rest u) : PSs X (st :: rest) (tSeq t u) := by
  intro pins s σ H D I h
  refine wpAny_execs_cons (thn (h1 pins s σ H { D with nx := u D } I h) fun f s1 q => ?_)
  cases f with
  | next =>
    obtain ⟨σ', H', I', q⟩ := q
    exact h2 pins s1 σ' H' D I' q
  | ret v => exact q
  | brk => exact q
  | cont => exact q
theorem pss_one (h1 : PS X st t) : PSs X [st] t := by
  intro pins s σ H D I h
  refine wpAny_execs_cons (thn (h1 pins s σ H D I h) fun f s1 q => ?_)
  cases f with
  | next => exact wpAny_execs_nil q
  | ret v => exact q
  | brk => exact q
  | cont => exact q
/-- in a def's body nothing is shown -/
theorem Inv.quiet {pins : List (Addr × Obj)} {σ : St} {H : Hp} {s : Shared} (I : Inv X pins σ H s) : interactive X.env = false := by simp [interactive, I.ok.kind]
/-- an expression whose value is dropped -/
def tDrop (te : TE) : TS := fun D σ H => te σ H fun _ H1 => D.nx σ H1
theorem ps_expr (he : PE X e te) (hs : swapsWith e none pos.line X.env = pure false := by rfl) : PS X (.Expr e pos) (tDrop te) := by
  intro pins s σ H D I h
  exact wpAny_Expr_any (thn (he pins s σ H _ I h) fun v s1 ⟨x, H1, I1, r1, q1⟩ => ⟨σ, H1, I1, q1⟩) I.quiet hs
def tRet (te : TE) : TS := fun D σ H => te σ H D.rt
theorem ps_ret (he : PE X e te) : PS X (.Return (some e) pos) (tRet te) := by
  intro pins s σ H D I h
  exact wpAny_Return_some (thn (he pins s σ H _ I h) fun v s1 ⟨x, H1, I1, r1, q1⟩ => ⟨x, σ, H1, I1, r1, q1⟩)
def tIfS (c : TT) (t u : TS) : TS := fun D σ H => c σ H fun b H1 => if b = true then t D σ H1 else u D σ H1
theorem ps_if {c : Expr} {a b : List Stmt} {tc : TT} (hc : PT X c tc) (ha : PSs X a t) (hb : PSs X b u) : PS X (.If c a b pos) (tIfS tc t u) := by
  intro pins s σ H D I h
  refine wpAny_If (thn (hc pins s σ H _ I h) fun d s1 ⟨H1, I1, q1⟩ => ?_)
  cases d with
  | true => exact ha pins s1 σ H1 D I1 q1
  | false => exact hb pins s1 σ H1 D I1 q1
end

/-! ### targets -/
abbrev TG := V → St → Hp → (St → Hp → Prop) → Prop
abbrev TGs := List V → St → Hp → (St → Hp → Prop) → Prop
def PG (X : Cx) (target : Expr) (t : TG) : Prop :=
  ∀ (pins : List (Addr × Obj)) (s : Shared) (σ : St) (H : Hp) (v : V) (u : Value) (Q : St → Hp → Prop), Inv X pins σ H s → RelV v u → t v σ H Q →
    wpAny (model X.prog X.w) X.A (assign target X.env u) (fun _ s' => ∃ σ' H', Inv X pins σ' H' s' ∧ Q σ' H') X.xe s
/-- several targets, one after another -/
def PGs (X : Cx) (ts : List Expr) (t : TGs) : Prop :=
  ∀ (pins : List (Addr × Obj)) (s : Shared) (σ : St) (H : Hp) (vs : List V) (us : List Value) (Q : St → Hp → Prop), Inv X pins σ H s → Vals vs us → t vs σ H Q →
    wpAny (model X.prog X.w) X.A (assignInOrder ((assignEach ts X.env).map (·.2)) us) (fun _ s' => ∃ σ' H', Inv X pins σ' H' s' ∧ Q σ' H') X.xe s
/-- o[i] = v, by values -/
abbrev TSet := V → V → V → Hp → (Hp → Prop) → Prop
def PSet (X : Cx) (t : TSet) : Prop :=
  ∀ (pins : List (Addr × Obj)) (s : Shared) (σ : St) (H : Hp) (o i v : V) (ov iv u : Value) (Q : Hp → Prop), Inv X pins σ H s → RelV o ov → RelV i iv → RelV v u → t o i v H Q →
    wpAny (model X.prog X.w) X.A (setItem ov iv u) (fun _ s' => ∃ H', Inv X pins σ H' s' ∧ Q H') X.xe s
section
variable {X : Cx} {pos : Pos}
def gName (i : Nat) : TG := fun v σ H Q => Q (σ.set i (some v)) H
theorem pg_name {i : Nat} {x : Str} (hN : X.N.Nodup) (hi : X.N[i]? = some x) (hx : Loc X.env.scope x) (hf : X.fn x = true ∨ X.env.scope.names.lookup x = some .local := by first | exact .inl rfl | exact .inr rfl | assumption) : PG X (.Name x pos) (gName i) := by
  intro pins s σ H v u Q I r h
  exact wpAny_assign_Name (store_ok I hN hi hx r (fun s' I' => ⟨_, H, I', h⟩) hf)
def gNil : TGs := fun vs σ H Q => vs = [] ∧ Q σ H
def gCons (t : TG) (u : TGs) : TGs := fun vs σ H Q => ∃ v r, vs = v :: r ∧ t v σ H fun σ' H' => u r σ' H' Q
theorem pgs_nil : PGs X [] gNil := by
  intro pins s σ H vs us Q I r h
  obtain ⟨e, h⟩ := h
  subst e
  cases r
  exact assignInOrder_nil ⟨σ, H, I, h⟩
theorem pgs_cons {e : Expr} {es : List Expr} {t : TG} {u : TGs} (h1 : PG X e t) (h2 : PGs X es u)
    (hs : (assignEach (e :: es) X.env).map (·.2) = assign e X.env :: (assignEach es X.env).map (·.2) := by rfl) : PGs X (e :: es) (gCons t u) := by
  intro pins s σ H vs us Q I r h
  obtain ⟨v, vr, e1, h⟩ := h
  subst e1
  cases r with
  | cons r rr =>
    rw [hs]
    refine assignInOrder_cons (thn (h1 pins s σ H _ _ _ I r h) fun _ s1 ⟨σ1, H1, I1, q1⟩ => ?_)
    exact h2 pins s1 σ1 H1 _ _ Q I1 rr q1
/-- (a, b, ..) = a tuple of that length -/
def gTup (K : PySem.W.Frag) (n : Nat) (t : TGs) : TG := fun v σ H Q => ∃ a xs, v = .ref a ∧ SqT K H a xs ∧ xs.length = n ∧ t xs σ H Q
theorem pg_tup {es : List Expr} {k : Nat} {t : TGs} {n : Nat} (hc : X.calm = true) (h : PGs X es t)
    (hn : (assignEach es X.env).length = n := by rfl) (hst : (assignEach es X.env).findIdx? (·.1) = none := by rfl) : PG X (.Tuple es k pos) (gTup X.K n t) := by
  intro pins s σ H v u Q I r hw
  obtain ⟨a, xs, e1, hq, hl, hw⟩ := hw
  subst e1
  cases r
  obtain ⟨its, rv, ht, hz⟩ := I.tuple hq
  refine assign_Tuple_tuple (I.ok.hd hc) ht (by simp [hn, ← hl, rv.length]) hst fun h' hx => ?_
  have I1 : Inv X pins σ H { s with heap := h' } := I.kept (t' := s.toks) fun b o e => hx b o (Nat.ne_of_lt (Heap.lt_size e)) e
  exact h pins _ σ H xs _ Q I1 (by simpa using rv) hw
/-- o[i] = .. -/
def gSub (to ti : TE) (t : TSet) : TG := fun v σ H Q => to σ H fun o H1 => ti σ H1 fun i H2 => t o i v H2 fun H3 => Q σ H3
theorem pg_sub {o i : Expr} {to ti : TE} {t : TSet} (ho : PE X o to) (hi : PE X i ti) (hs : PSet X t)
    (ha : ∀ v, assign (.Subscript o i pos) X.env v = (do
      let ov ← holding [v] (eval o X.env)
      let iv ← holding [v, ov] (eval i X.env)
      standAt pos
      holding [v, ov, iv] (setItem ov iv v)
      release [v, ov, iv] []) := by intro _; rfl) : PG X (.Subscript o i pos) (gSub to ti t) := by
  intro pins s σ H v u Q I r h
  rw [ha]
  refine wpAny_bind (wpAny_holding (thn (ho pins s σ H _ I h) fun ov s1 ⟨x, H1, I1, r1, q1⟩ => ?_))
  refine wpAny_bind (wpAny_holding (thn (hi pins s1 σ H1 _ I1 q1) fun iv s2 ⟨y, H2, I2, r2, q2⟩ => ?_))
  refine wpAny_bind (wpAny_standAt (wpAny_bind (wpAny_holding (thn (hs pins s2 σ H2 x y v ov iv u _ I2 r1 r2 r q2) fun _ s3 ⟨H3, I3, q3⟩ => ?_))))
  exact wpAny_release ⟨σ, H3, I3, q3⟩
/-- target = value -/
def tAsg (te : TE) (g : TG) : TS := fun D σ H => te σ H fun x H1 => g x σ H1 D.nx
theorem ps_asg {tg e : Expr} {te : TE} {g : TG} (he : PE X e te) (hg : PG X tg g) (hs : swapsWithSole [tg] e pos.line X.env = pure false := by rfl) (hw : swappedStores [tg] e X.env = pure none := by rfl)
    (h1 : (assignEach [tg] X.env).map (·.2) = [assign tg X.env] := by rfl) : PS X (.Assign [tg] e pos) (tAsg te g) := by
  intro pins s σ H D I h
  refine wpAny_Assign_stores (thn (he pins s σ H _ I h) fun v s1 ⟨x, H1, I1, r1, q1⟩ => ?_) hs hw
  rw [h1]
  exact thn (hg pins s1 σ H1 x v _ I1 r1 q1) fun _ s2 q => q
/-- name = value -/
theorem ps_set {i : Nat} {x : Str} {e : Expr} {te : TE} {pos' : Pos} (hN : X.N.Nodup) (hi : X.N[i]? = some x) (hx : Loc X.env.scope x) (he : PE X e te) (hs : swapsWith e (some (.Name x pos')) pos.line X.env = pure false := by rfl) (hf : X.fn x = true ∨ X.env.scope.names.lookup x = some .local := by first | exact .inl rfl | exact .inr rfl | assumption) :
    PS X (.Assign [.Name x pos'] e pos) (tAsg te (gName i)) := by
  intro pins s σ H D I h
  refine wpAny_Assign_Name (thn (he pins s σ H _ I h) fun v s1 ⟨y, H1, I1, r1, q1⟩ => ?_) hs
  exact store_ok I1 hN hi hx r1 (fun s2 I2 => ⟨_, H1, I2, q1⟩) hf
end

/-! ### while -/
section
variable {X : Cx} {pos : Pos}
/-- the invariant W with its measure -/
def tWhile (c : TT) (tb : TS) : TS := fun D σ H => ∃ W : Nat → St → Hp → Prop, (∃ m, W m σ H) ∧ ∀ m σ H, W m σ H →
  c σ H fun b H1 => if b = true then ∃ N : St → Hp → Prop, (∀ σ' H', N σ' H' → ∃ m', m' < m ∧ W m' σ' H') ∧ tb { D with nx := N, ct := N, bk := D.nx } σ H1 else D.nx σ H1
theorem ps_while {c : Expr} {body : List Stmt} {tc : TT} {tb : TS} (hp : PassesOwn (model X.prog X.w) X.A X.env X.xe) (hc : PT X c tc) (hb : PSs X body tb) : PS X (.While c body [] pos) (tWhile tc tb) := by
  intro pins s σ H D I h
  obtain ⟨W, ⟨m0, w0⟩, turn⟩ := h
  refine wpAny_While (codeAny_whileLoop (fun n s' => ∃ σ' H', Inv X pins σ' H' s' ∧ W n σ' H') ?_ m0 ⟨σ, H, I, w0⟩)
  rintro n s1 ⟨σ1, H1, I1, w1⟩
  refine wpAny_passesOwn hp (thn (hc pins s1 σ1 H1 _ I1 (turn n σ1 H1 w1)) fun b s2 ⟨H2, I2, q2⟩ => ?_)
  cases b with
  | true =>
    obtain ⟨N, hN, q2⟩ := q2
    rw [if_pos rfl]
    refine wpAny_passesOwn hp (thn (hb pins s2 σ1 H2 _ I2 q2) fun f s3 q3 => ?_)
    cases f with
    | next =>
      obtain ⟨σ3, H3, I3, n3⟩ := q3
      obtain ⟨m', hm, w3⟩ := hN σ3 H3 n3
      exact ⟨m', hm, σ3, H3, I3, w3⟩
    | cont =>
      obtain ⟨σ3, H3, I3, n3⟩ := q3
      obtain ⟨m', hm, w3⟩ := hN σ3 H3 n3
      exact ⟨m', hm, σ3, H3, I3, w3⟩
    | brk => exact q3
    | ret v => exact q3
  | false =>
    rw [if_neg Bool.false_ne_true]
    exact wpAny_execs_nil ⟨σ1, H2, I2, q2⟩
end

/-! ### what a loop or a comprehension walks -/
/-- at turn i: it yields x (the heap may grow), or it stops -/
structure It where
  go : Nat → Hp → Prop
  yld : Nat → Hp → V → Hp → Prop
  stop : Nat → Hp → Prop
/-- the iterator's own objects may turn: they are not the frame's, not pinned, younger than the entry (or a comprehension's own) -/
def FpOk (X : Cx) (pins : List (Addr × Obj)) (H : Hp) (b : Addr) : Prop :=
  H b = none ∧ b ≠ X.env.locals ∧ b ∉ X.fs ∧ (b ∈ X.ex ∨ X.s₀.heap.objs.size ≤ b) ∧ (∀ x c, X.env.cells.lookup x = some c → c ≠ b) ∧ ∀ p ∈ X.pn ++ pins, p.1 ≠ b
theorem Inv.fpOk {X : Cx} {pins : List (Addr × Obj)} {σ : St} {H H' : Hp} {s : Shared} {b : Addr} (I : Inv X pins σ H s) (hb : s.heap.objs.size ≤ b) (hn : H' b = none) : FpOk X pins H' b := by
  refine ⟨hn, Nat.ne_of_gt (Nat.lt_of_lt_of_le I.lt hb), I.nofs hb, .inr (Nat.le_trans I.sz hb), fun x c e z => ?_, fun p hp z => ?_⟩
  · obtain ⟨v, q⟩ := I.cell x c e
    exact absurd (Nat.lt_of_lt_of_le q.lt (by rw [z]; exact hb)) (Nat.lt_irrefl _)
  · exact absurd (Nat.lt_of_lt_of_le (Heap.lt_size (I.pin p hp).1) (by rw [z]; exact hb)) (Nat.lt_irrefl _)
structure Turn (P : Program) (w : World) (K : PySem.W.Frag) (tg : Expr) (J : It) (fp : List Addr) (it : Addr) (tn : Nat → Heap → Prop) : Prop where
  mem : it ∈ fp
  obj : ∀ i h, tn i h → ∀ b ∈ fp, ∃ o, h.get? b = some o ∧ ∀ v, o.data ≠ .cell v
  keep : ∀ i h h', tn i h → (∀ b ∈ fp, ∀ o, h.get? b = some o → h'.get? b = some o) → tn i h'
  item : ∀ (X : Cx), X.prog = P → X.w = w → X.K = K → X.calm = true → ∀ (i : Nat) (pins : List (Addr × Obj)) (s : Shared) (σ : St) (H : Hp) (E : Value → Shared → Prop), Inv X pins σ H s → (∀ b ∈ fp, FpOk X pins H b) → tn i s.heap → J.go i H →
    wpAny (model P w) X.A (pyNext (.ref it)) (fun r s1 => ∃ u, r = some u ∧
      wpAny (model P w) X.A (letOwnedTupleGo tg (.ref it) u) (fun _ s2 => ∃ x H', Inv X pins σ H' s2 ∧ RelV x u ∧ J.yld i H x H' ∧ tn (i + 1) s2.heap ∧ ∀ b ∈ fp, H' b = none) E s1) E s
  done : ∀ (X : Cx), X.prog = P → X.w = w → X.K = K → X.calm = true → ∀ (i : Nat) (pins : List (Addr × Obj)) (s : Shared) (σ : St) (H : Hp) (E : Value → Shared → Prop), Inv X pins σ H s → (∀ b ∈ fp, FpOk X pins H b) → tn i s.heap → J.stop i H →
    wpAny (model P w) X.A (pyNext (.ref it)) (fun r s1 => r = none ∧ Inv X pins σ H s1) E s
  self : ∀ (A : Around) (i : Nat) (s : Shared) (Q : Value → Shared → Prop) (E : Value → Shared → Prop), tn i s.heap → Q (.ref it) s → wpAny (model P w) A (pyIter (.ref it)) Q E s
abbrev TI := St → Hp → (It → Hp → Prop) → Prop
/-- an iterator has come -/
def PIE (X : Cx) (pins : List (Addr × Obj)) (σ : St) (tg : Expr) (R : It → Hp → Prop) (itv : Value) (s2 : Shared) : Prop :=
  ∃ (it : Addr) (fp : List Addr) (tn : Nat → Heap → Prop) (J : It) (H' : Hp), itv = .ref it ∧ Inv X pins σ H' s2 ∧ Turn X.prog X.w X.K tg J fp it tn ∧ tn 0 s2.heap ∧ (∀ b ∈ fp, FpOk X pins H' b) ∧ R J H'
def PI (X : Cx) (tg iter : Expr) (wi : TI) : Prop :=
  ∀ (pins : List (Addr × Obj)) (s : Shared) (σ : St) (H : Hp) (R : It → Hp → Prop), Inv X pins σ H s → wi σ H R →
    wpAny (model X.prog X.w) X.A (eval iter X.env) (fun v s1 => wpAny (model X.prog X.w) X.A (pyIter v) (PIE X pins σ tg R) X.xe s1) X.xe s

/-- the step ahead of the store is nothing for an iterator that keeps no tuple -/
theorem go_of {M : Model} {A : Around} {E : Value → Shared → Prop} {s : Shared} {tg : Expr} {it : Addr} {u : Value} {o : Obj} {n : String} {vs : Array Value} {Q : Unit → Shared → Prop} (ho : s.heap.get? it = some o) (hc : o.cls = .type n) (hd : o.data = .fields vs)
    (hn : ["enumerate", "zip", "dict_itemiterator", "dict_reverseitemiterator", "odict_iterator", "itertools.zip_longest", "itertools.pairwise"].contains n = false) (hQ : Q () s) : wpAny M A (letOwnedTupleGo tg (.ref it) u) Q E s := by
  unfold letOwnedTupleGo
  cases tg <;> first
    | exact wpAny_pure hQ
    | (cases u <;> first
        | exact wpAny_pure hQ
        | (refine wpAny_bind (wpAny_load ho ?_)
           rw [hc, hd]
           show wpAny M A (if (["enumerate", "zip", "dict_itemiterator", "dict_reverseitemiterator", "odict_iterator", "itertools.zip_longest", "itertools.pairwise"].contains n && vs[0]? == some (rawInt _)) = true then _ else _) Q E s
           rw [if_neg (by intro h; rw [hn, Bool.false_and] at h; cases h)]
           exact wpAny_pure hQ))

/-- the list at a, as it stands at each turn (a loop may append to it) -/
def Itl (K : PySem.W.Frag) (a : Addr) : It :=
  ⟨fun i H => ∃ xs x, SqL K H a xs ∧ xs[i]? = some x, fun i H x H' => H' = H ∧ ∀ xs, SqL K H a xs → xs[i]? = some x, fun i H => ∃ xs, SqL K H a xs ∧ xs.length ≤ i⟩
def Itt (K : PySem.W.Frag) (a : Addr) : It :=
  ⟨fun i H => ∃ xs x, SqT K H a xs ∧ xs[i]? = some x, fun i H x H' => H' = H ∧ ∀ xs, SqT K H a xs → xs[i]? = some x, fun i H => ∃ xs, SqT K H a xs ∧ xs.length ≤ i⟩
/-- lo, lo + 1, .. (n of them) -/
def Itr (lo : Int) (n : Nat) : It := ⟨fun i _ => i < n, fun i H x H' => H' = H ∧ x = .int (lo + i), fun i _ => n ≤ i⟩
theorem turn_list {P : Program} {w : World} {K : PySem.W.Frag} {tg : Expr} (a it : Addr) : Turn P w K tg (Itl K a) [it] it (fun i h => h.IsListIter it a i) where
  mem := by simp
  obj := fun i h st b hb => by
    have e : b = it := by simpa using hb
    subst e
    obtain ⟨o, e, c, d⟩ := st
    exact ⟨o, e, fun v z => by rw [d] at z; cases z⟩
  keep := fun i h h' st k => st.at fun o e => k it (by simp) o e
  item := by
    intro X hP hw hK hc i pins s σ H E I hf st hg
    subst hP hw hK
    obtain ⟨xs, x, hq, hx⟩ := hg
    obtain ⟨its, rv, p, hz⟩ := I.list hq
    obtain ⟨u, hu, ru⟩ := rv.get hx
    obtain ⟨f0, f1, f2, f3, f4, f5⟩ := hf it (by simp)
    refine wpAny_pyNext_list_item st p.isList (x := u) (by simpa using hu) fun h' st' sb => ?_
    have I1 : Inv X pins σ H { s with heap := h' } := I.turned (t' := s.toks) (fun b o hb e => (sb.2 b hb).trans e) f0 f1 f3 f4 f5
    obtain ⟨o, e, c, d⟩ := id st'
    exact ⟨u, rfl, go_of (s := { s with heap := h' }) e c d (by decide) ⟨x, H, I1, ru, ⟨rfl, fun ys hy => by rw [I.list_inj hy hq]; exact hx⟩, st', fun b hb => (hf b hb).1⟩⟩
  done := by
    intro X hP hw hK hc i pins s σ H E I hf st hg
    subst hP hw hK
    obtain ⟨xs, hq, hx⟩ := hg
    obtain ⟨its, rv, p, hz⟩ := I.list hq
    obtain ⟨f0, f1, f2, f3, f4, f5⟩ := hf it (by simp)
    have hl := rv.length
    exact wpAny_pyNext_list_end (I.ok.hd hc) st p.isList (by simp; (first | lia | omega)) fun h' eb => ⟨rfl, I.turned (t' := s.toks) (fun b o hb e => eb b o hb e) f0 f1 f3 f4 f5⟩
  self := fun _ _ _ _ _ st h => wpAny_pyIter_listiter st h
theorem turn_tuple {P : Program} {w : World} {K : PySem.W.Frag} {tg : Expr} (a it : Addr) : Turn P w K tg (Itt K a) [it] it (fun i h => h.IsTupleIter it a i) where
  mem := by simp
  obj := fun i h st b hb => by
    have e : b = it := by simpa using hb
    subst e
    obtain ⟨o, e, c, d⟩ := st
    exact ⟨o, e, fun v z => by rw [d] at z; cases z⟩
  keep := fun i h h' st k => st.at fun o e => k it (by simp) o e
  item := by
    intro X hP hw hK hc i pins s σ H E I hf st hg
    subst hP hw hK
    obtain ⟨xs, x, hq, hx⟩ := hg
    obtain ⟨its, rv, p, hz⟩ := I.tuple hq
    obtain ⟨u, hu, ru⟩ := rv.get hx
    obtain ⟨f0, f1, f2, f3, f4, f5⟩ := hf it (by simp)
    refine wpAny_pyNext_tuple_item st (show s.heap.IsTuple a its.toArray from p) (x := u) (by simpa using hu) fun h' st' sb => ?_
    have I1 : Inv X pins σ H { s with heap := h' } := I.turned (t' := s.toks) (fun b o hb e => (sb.2 b hb).trans e) f0 f1 f3 f4 f5
    obtain ⟨o, e, c, d⟩ := id st'
    exact ⟨u, rfl, go_of (s := { s with heap := h' }) e c d (by decide) ⟨x, H, I1, ru, ⟨rfl, fun ys hy => by rw [I.tuple_inj hy hq]; exact hx⟩, st', fun b hb => (hf b hb).1⟩⟩
  done := by
    intro X hP hw hK hc i pins s σ H E I hf st hg
    subst hP hw hK
    obtain ⟨xs, hq, hx⟩ := hg
    obtain ⟨its, rv, p, hz⟩ := I.tuple hq
    obtain ⟨f0, f1, f2, f3, f4, f5⟩ := hf it (by simp)
    have hl := rv.length
    exact wpAny_pyNext_tuple_end (I.ok.hd hc) st (show s.heap.IsTuple a its.toArray from p) (by simp; (first | lia | omega)) fun h' eb => ⟨rfl, I.turned (t' := s.toks) (fun b o hb e => eb b o hb e) f0 f1 f3 f4 f5⟩
  self := fun _ _ _ _ _ st h => wpAny_pyIter_tupleiter st h
theorem turn_range {P : Program} {w : World} {K : PySem.W.Frag} {tg : Expr} (it : Addr) (lo : Int) (n : Nat) : Turn P w K tg (Itr lo n) [it] it (fun i h => IsRangeIter h it (lo + (i : Nat) * 1) ((n : Int) - (i : Nat)) 1) where
  mem := by simp
  obj := fun i h st b hb => by
    have e : b = it := by simpa using hb
    subst e
    exact ⟨_, st, fun v z => by
      have z' : Data.fields _ = Data.cell v := z
      cases z'⟩
  keep := fun i h h' st k => k it (by simp) _ st
  item := by
    intro X hP hw hK hc i pins s σ H E I hf st hg
    subst hP hw hK
    obtain ⟨f0, f1, f2, f3, f4, f5⟩ := hf it (by simp)
    have W := Walks.range (prog := X.prog) (w := X.w) (I.ok.hd hc) it lo 1 n
    refine W.item i s _ _ hg st fun v h' tk hv st' kk => ?_
    obtain ⟨t, rfl⟩ := hv
    have I1 : Inv X pins σ H { s with heap := h', toks := tk } := I.turned (fun b o hb e => kk b o (by simpa using hb) e) f0 f1 f3 f4 f5
    refine ⟨_, rfl, go_of (s := { s with heap := h', toks := tk }) (n := "range_iterator") st' rfl rfl (by decide) ⟨.int (lo + i), H, I1, ⟨t, ?_⟩, ⟨rfl, rfl⟩, st', fun b hb => (hf b hb).1⟩⟩
    rw [Int.mul_one]
  done := by
    intro X hP hw hK hc i pins s σ H E I hf st hg
    subst hP hw hK
    obtain ⟨f0, f1, f2, f3, f4, f5⟩ := hf it (by simp)
    exact wpAny_pyNext_range_end (I.ok.hd hc) st (by have : n ≤ i := hg; (first | lia | omega)) fun h' eb => ⟨rfl, I.turned (t' := s.toks) (fun b o hb e => eb b o hb e) f0 f1 f3 f4 f5⟩
  self := fun _ _ _ _ _ st h => wpAny_pyIter_rangeiter st h
end L2

namespace L2
open PySem PySem.Spec PyProof.Rows
section
variable {X : Cx} {tg : Expr}
def iList (K : PySem.W.Frag) (tl : TE) : TI := fun σ H R => tl σ H fun x H1 => ∃ a, x = .ref a ∧ (∃ xs, SqL K H1 a xs) ∧ R (Itl K a) H1
def iTup (K : PySem.W.Frag) (tl : TE) : TI := fun σ H R => tl σ H fun x H1 => ∃ a, x = .ref a ∧ (∃ xs, SqT K H1 a xs) ∧ R (Itt K a) H1
theorem pi_list {l : Expr} {tl : TE} (hl : PE X l tl) : PI X tg l (iList X.K tl) := by
  intro pins s σ H R I h
  refine thn (hl pins s σ H _ I h) fun v s1 ⟨x, H1, I1, r1, q1⟩ => ?_
  obtain ⟨a, e, ⟨xs, hq⟩, q⟩ := q1
  subst e
  cases r1
  obtain ⟨its, rv, p, hz⟩ := I1.list hq
  refine wpAny_pyIter_list p.isList ?_
  refine ⟨s1.heap.objs.size, [s1.heap.objs.size], _, _, H1, rfl, I1.kept (t' := s1.toks) fun b o e => Heap.get?_push_of_some _ e, turn_list a _, ⟨_, Heap.get?_push_size _ rfl, rfl, rfl⟩, fun b hb => ?_, q⟩
  have e : b = s1.heap.objs.size := by simpa using hb
  subst e
  exact I1.fpOk (Nat.le_refl _) (I1.hok.fresh (Nat.le_refl _))
theorem pi_tup {l : Expr} {tl : TE} (hl : PE X l tl) : PI X tg l (iTup X.K tl) := by
  intro pins s σ H R I h
  refine thn (hl pins s σ H _ I h) fun v s1 ⟨x, H1, I1, r1, q1⟩ => ?_
  obtain ⟨a, e, ⟨xs, hq⟩, q⟩ := q1
  subst e
  cases r1
  obtain ⟨its, rv, p, hz⟩ := I1.tuple hq
  refine wpAny_pyIter_tuple (show s1.heap.IsTuple a its.toArray from p) ?_
  refine ⟨s1.heap.objs.size, [s1.heap.objs.size], _, _, H1, rfl, I1.kept (t' := s1.toks) fun b o e => Heap.get?_push_of_some _ e, turn_tuple a _, ⟨_, Heap.get?_push_size _ rfl, rfl, rfl⟩, fun b hb => ?_, q⟩
  have e : b = s1.heap.objs.size := by simpa using hb
  subst e
  exact I1.fpOk (Nat.le_refl _) (I1.hok.fresh (Nat.le_refl _))
/-- a range object just made, walked -/
theorem range_it {pins : List (Addr × Obj)} {σ : St} {H : Hp} {s : Shared} {R : It → Hp → Prop} {E : Value → Shared → Prop} {lo hi : Int} {t u v : Tok} {tk : Nat} (I : Inv X pins σ H s) (h1 : -(2 ^ 62) ≤ lo) (h2 : lo < 2 ^ 62) (h3 : -(2 ^ 62) ≤ hi) (h4 : hi < 2 ^ 62)
    (q : R (Itr lo (hi - lo).toNat) H) : wpAny (model X.prog X.w) X.A (pyIter (.ref s.heap.objs.size)) (PIE X pins σ tg R) E { s with heap := s.heap.push { cls := .type "range", data := .fields #[.int lo t, .int hi u, .int 1 v] }, toks := tk } := by
  refine wpAny_pyIter_range (IsRange.new ..) (small_one h1 h2 h3 h4) ?_
  have I1 : Inv X pins σ H { s with heap := s.heap.push { cls := .type "range", data := .fields #[.int lo t, .int hi u, .int 1 v] }, toks := tk } := I.kept fun b o e => Heap.get?_push_of_some _ e
  refine ⟨(s.heap.push { cls := .type "range", data := .fields #[.int lo t, .int hi u, .int 1 v] }).objs.size, [(s.heap.push { cls := .type "range", data := .fields #[.int lo t, .int hi u, .int 1 v] }).objs.size], _, _, H, rfl,
    I1.kept (t' := tk) fun b o e => Heap.get?_push_of_some _ e, turn_range _ lo (hi - lo).toNat, ?_, fun b hb => ?_, q⟩
  · have e1 : lo + ((0 : Nat) : Int) * 1 = lo := by simp
    have e2 : (((hi - lo).toNat : Nat) : Int) - ((0 : Nat) : Int) = Builtin.Range.rangeSize lo hi 1 := by rw [rangeSize_one]; split <;> (first | lia | omega)
    show IsRangeIter _ _ (lo + ((0 : Nat) : Int) * 1) ((((hi - lo).toNat : Nat) : Int) - ((0 : Nat) : Int)) 1
    rw [e1, e2]
    exact Heap.get?_push_size _ rfl
  · have e : b = (s.heap.push { cls := .type "range", data := .fields #[.int lo t, .int hi u, .int 1 v] }).objs.size := by simpa using hb
    subst e
    exact I1.fpOk (Nat.le_refl _) (I1.hok.fresh (Nat.le_refl _))
def iRng1 (ta : TA) : TI := fun σ H R => ta σ H fun vs H1 => ∃ j : Int, vs = [.int j] ∧ -(2 ^ 62) ≤ j ∧ j < 2 ^ 62 ∧ R (Itr 0 j.toNat) H1
theorem pi_range1 {a : Expr} {ta : TA} {p pos : Pos} (hg : Gl X "range") (hm : X.mg "range" = none) (ha : PA X [a] ta) (hs : starEach [a] X.env = [(false, eval a X.env)] := by rfl) : PI X tg (.Call (.Name "range" p) [a] [] pos) (iRng1 ta) := by
  intro pins s σ H R I h
  refine Call_ (ld_blt I hg hm boot_range (PyProof.Rows.callWith_type1 (thn (ha pos pins s σ H _ I h) fun us s1 ⟨vs, H1, I1, r1, q1⟩ => ?_) hs rfl))
  obtain ⟨j, e, q1, q2, q⟩ := q1
  subst e
  cases r1 with
  | cons r rr =>
    cases rr
    obtain ⟨t, rfl⟩ := r
    exact call_range_1 (range_it I1 (by (first | lia | omega)) (by (first | lia | omega)) q1 q2 (by simpa using q))
/-! ### for -/
/-- W: the invariant by the turn and a measure; N: what the body is to reach -/
def tFor (wi : TI) (g : TG) (tb : TS) : TS := fun D σ H => wi σ H fun J H1 => ∃ W : Nat → Nat → St → Hp → Prop, (∃ m, W 0 m σ H1) ∧ ∀ i m σ H, W i m σ H →
  (J.stop i H ∧ D.nx σ H) ∨ (J.go i H ∧ ∃ N : St → Hp → Prop, (∀ σ' H', N σ' H' → ∃ m', m' < m ∧ W (i + 1) m' σ' H') ∧ ∀ x H', J.yld i H x H' → g x σ H' fun σ2 H2 => tb { D with nx := N, ct := N, bk := D.nx } σ2 H2)
/-- the records at fp as they stand -/
def pinsAt (fp : List Addr) (h : Heap) : List (Addr × Obj) := fp.filterMap fun b => (h.get? b).map fun o => (b, o)
theorem mem_pinsAt {fp : List Addr} {h : Heap} {b : Addr} {o : Obj} (hb : b ∈ fp) (e : h.get? b = some o) : (b, o) ∈ pinsAt fp h := List.mem_filterMap.mpr ⟨b, hb, by rw [e]; rfl⟩
theorem of_pinsAt {fp : List Addr} {h : Heap} {p : Addr × Obj} (hp : p ∈ pinsAt fp h) : p.1 ∈ fp ∧ h.get? p.1 = some p.2 := by
  obtain ⟨b, hb, e⟩ := List.mem_filterMap.mp hp
  cases q : h.get? b with
  | none => rw [q] at e; cases e
  | some o =>
    rw [q] at e
    have e' : (b, o) = p := Option.some.inj e
    subst e'
    exact ⟨hb, q⟩
theorem Inv.pinned {pins : List (Addr × Obj)} {σ : St} {H : Hp} {s : Shared} {fp : List Addr} (I : Inv X pins σ H s) (hf : ∀ b ∈ fp, FpOk X pins H b) (ho : ∀ b ∈ fp, ∃ o, s.heap.get? b = some o ∧ ∀ v, o.data ≠ .cell v) : Inv X (pins ++ pinsAt fp s.heap) σ H s :=
  I.pins_of fun p hp => (List.mem_append.mp hp).elim (fun z => I.pin p (List.mem_append_right _ z)) fun z => by
    obtain ⟨hb, e⟩ := of_pinsAt z
    obtain ⟨f0, f1, f2, _⟩ := hf p.1 hb
    obtain ⟨o, e', d⟩ := ho p.1 hb
    rw [e] at e'; cases e'
    exact ⟨e, f0, f1, f2, d⟩
theorem Inv.unpinned {pins pl : List (Addr × Obj)} {σ : St} {H : Hp} {s : Shared} (I : Inv X (pins ++ pl) σ H s) : Inv X pins σ H s := I.pins_of fun p hp => I.pin p (List.mem_append_right _ (List.mem_append_left _ hp))
theorem ps_for {iter : Expr} {body : List Stmt} {wi : TI} {g : TG} {tb : TS} {pos : Pos} (hp : PassesOwn (model X.prog X.w) X.A X.env X.xe) (hc : X.calm = true) (hi : PI X tg iter wi) (hg : PG X tg g) (hb : PSs X body tb)
    (hs : ∀ x, foldedSetIterable iter X.env x = pure x := by intro _; rfl) : PS X (.For tg iter body [] pos) (tFor wi g tb) := by
  intro pins s σ H D I h
  refine wpAny_For (thn (hi pins s σ H _ I h) fun v s1 h1 => thn h1 fun itv s2 h2 => ?_) hs
  obtain ⟨it, fp, tn, J, H2, e, I2, T, st2, f2, W, ⟨m0, w0⟩, turn⟩ := h2
  subst e
  -- what stays true of the iterator's objects through the loop
  have stat : ∀ {H' : Hp}, (∀ b ∈ fp, H' b = none) → ∀ b ∈ fp, FpOk X pins H' b := fun hn b hb => ⟨hn b hb, (f2 b hb).2⟩
  refine codeAny_forLoop_any (fun n s' => ∃ i σ' H', Inv X pins σ' H' s' ∧ tn i s'.heap ∧ (∀ b ∈ fp, H' b = none) ∧ W i n σ' H') ?_ m0 ⟨0, σ, H2, I2, st2, fun b hb => (f2 b hb).1, w0⟩
  rintro n s3 ⟨i, σ3, H3, I3, st3, fr3, w3⟩
  rcases turn i n σ3 H3 w3 with ⟨stop, qn⟩ | ⟨go, N, hN, step⟩
  · refine wpAny_passesOwn hp (thn (T.done X rfl rfl rfl hc i pins s3 σ3 H3 X.xe I3 (stat fr3) st3 stop) fun r s4 ⟨hr, I4⟩ => ?_)
    subst hr
    exact wpAny_execs_nil ⟨σ3, H3, I4, qn⟩
  · refine wpAny_passesOwn hp (thn (T.item X rfl rfl rfl hc i pins s3 σ3 H3 X.xe I3 (stat fr3) st3 go) fun r s4 ⟨u, hr, h4⟩ => ?_)
    subst hr
    refine wpAny_passesOwn hp (thn h4 fun _ s5 ⟨x, H5, I5, r5, y5, st5, fr5⟩ => ?_)
    have I5' := I5.pinned (stat fr5) (T.obj _ _ st5)
    refine wpAny_passesOwn hp (thn (hg _ s5 σ3 H5 x u _ I5' r5 (step x H5 y5)) fun _ s6 ⟨σ6, H6, I6, q6⟩ => ?_)
    refine wpAny_passesOwn hp (thn (hb _ s6 σ6 H6 _ I6 q6) fun f s7 q7 => ?_)
    have again : ∀ {σ7 : St} {H7 : Hp}, Inv X (pins ++ pinsAt fp s5.heap) σ7 H7 s7 → N σ7 H7 → ∃ m, m < n ∧ ∃ i σ' H', Inv X pins σ' H' s7 ∧ tn i s7.heap ∧ (∀ b ∈ fp, H' b = none) ∧ W i m σ' H' := fun {σ7 H7} I7 n7 => by
      obtain ⟨m', hm, w7⟩ := hN σ7 H7 n7
      refine ⟨m', hm, i + 1, σ7, H7, I7.unpinned, T.keep _ _ _ st5 fun b hb o e => (I7.pin (b, o) (List.mem_append_right _ (List.mem_append_right _ (mem_pinsAt hb e)))).1, fun b hb => ?_, w7⟩
      obtain ⟨o, e, d⟩ := T.obj _ _ st5 b hb
      exact (I7.pin (b, o) (List.mem_append_right _ (List.mem_append_right _ (mem_pinsAt hb e)))).2.1
    cases f with
    | next => obtain ⟨σ7, H7, I7, n7⟩ := q7; exact again I7 n7
    | cont => obtain ⟨σ7, H7, I7, n7⟩ := q7; exact again I7 n7
    | brk => obtain ⟨σ7, H7, I7, q7⟩ := q7; exact ⟨σ7, H7, I7.unpinned, q7⟩
    | ret v => obtain ⟨x7, σ7, H7, I7, r7, q7⟩ := q7; exact ⟨x7, σ7, H7, I7.unpinned, r7, q7⟩
end

/-! ### the forms one uses -/
/-- over a list that the body leaves as it is -/
theorem for_list {K : PySem.W.Frag} {a : Addr} {xs : List V} {g : TG} {tb : TS} {D : Ends} {σ : St} {H : Hp} (Pv : Nat → St → Hp → Prop) (h0 : Pv 0 σ H) (hl : ∀ i σ H, i ≤ xs.length → Pv i σ H → SqL K H a xs)
    (hs : ∀ i x σ H, xs[i]? = some x → Pv i σ H → g x σ H fun σ2 H2 => tb { D with nx := Pv (i + 1), ct := Pv (i + 1), bk := D.nx } σ2 H2) (hd : ∀ σ H, Pv xs.length σ H → D.nx σ H) :
    ∃ W : Nat → Nat → St → Hp → Prop, (∃ m, W 0 m σ H) ∧ ∀ i m σ H, W i m σ H →
      ((Itl K a).stop i H ∧ D.nx σ H) ∨ ((Itl K a).go i H ∧ ∃ N : St → Hp → Prop, (∀ σ' H', N σ' H' → ∃ m', m' < m ∧ W (i + 1) m' σ' H') ∧ ∀ x H', (Itl K a).yld i H x H' → g x σ H' fun σ2 H2 => tb { D with nx := N, ct := N, bk := D.nx } σ2 H2) := by
  refine ⟨fun i m σ H => m = xs.length - i ∧ i ≤ xs.length ∧ Pv i σ H, ⟨xs.length, by simp, Nat.zero_le _, h0⟩, ?_⟩
  rintro i m σ H ⟨rfl, hi, p⟩
  have q := hl i σ H hi p
  by_cases hlt : i < xs.length
  · refine .inr ⟨⟨xs, xs[i], q, by simp [hlt]⟩, Pv (i + 1), fun σ' H' p' => ⟨xs.length - (i + 1), by (first | lia | omega), rfl, hlt, p'⟩, fun x H' y => ?_⟩
    obtain ⟨e, y⟩ := y
    subst e
    exact hs i x σ _ (y xs q) p
  · have e : i = xs.length := by (first | lia | omega)
    subst e
    exact .inl ⟨⟨xs, q, Nat.le_refl _⟩, hd σ H p⟩
theorem for_tup {K : PySem.W.Frag} {a : Addr} {xs : List V} {g : TG} {tb : TS} {D : Ends} {σ : St} {H : Hp} (Pv : Nat → St → Hp → Prop) (h0 : Pv 0 σ H) (hl : ∀ i σ H, i ≤ xs.length → Pv i σ H → SqT K H a xs)
    (hs : ∀ i x σ H, xs[i]? = some x → Pv i σ H → g x σ H fun σ2 H2 => tb { D with nx := Pv (i + 1), ct := Pv (i + 1), bk := D.nx } σ2 H2) (hd : ∀ σ H, Pv xs.length σ H → D.nx σ H) :
    ∃ W : Nat → Nat → St → Hp → Prop, (∃ m, W 0 m σ H) ∧ ∀ i m σ H, W i m σ H →
      ((Itt K a).stop i H ∧ D.nx σ H) ∨ ((Itt K a).go i H ∧ ∃ N : St → Hp → Prop, (∀ σ' H', N σ' H' → ∃ m', m' < m ∧ W (i + 1) m' σ' H') ∧ ∀ x H', (Itt K a).yld i H x H' → g x σ H' fun σ2 H2 => tb { D with nx := N, ct := N, bk := D.nx } σ2 H2) := by
  refine ⟨fun i m σ H => m = xs.length - i ∧ i ≤ xs.length ∧ Pv i σ H, ⟨xs.length, by simp, Nat.zero_le _, h0⟩, ?_⟩
  rintro i m σ H ⟨rfl, hi, p⟩
  have q := hl i σ H hi p
  by_cases hlt : i < xs.length
  · refine .inr ⟨⟨xs, xs[i], q, by simp [hlt]⟩, Pv (i + 1), fun σ' H' p' => ⟨xs.length - (i + 1), by (first | lia | omega), rfl, hlt, p'⟩, fun x H' y => ?_⟩
    obtain ⟨e, y⟩ := y
    subst e
    exact hs i x σ _ (y xs q) p
  · have e : i = xs.length := by (first | lia | omega)
    subst e
    exact .inl ⟨⟨xs, q, Nat.le_refl _⟩, hd σ H p⟩
theorem for_range {lo : Int} {n : Nat} {g : TG} {tb : TS} {D : Ends} {σ : St} {H : Hp} (Pv : Nat → St → Hp → Prop) (h0 : Pv 0 σ H)
    (hs : ∀ i σ H, i < n → Pv i σ H → g (.int (lo + i)) σ H fun σ2 H2 => tb { D with nx := Pv (i + 1), ct := Pv (i + 1), bk := D.nx } σ2 H2) (hd : ∀ σ H, Pv n σ H → D.nx σ H) :
    ∃ W : Nat → Nat → St → Hp → Prop, (∃ m, W 0 m σ H) ∧ ∀ i m σ H, W i m σ H →
      ((Itr lo n).stop i H ∧ D.nx σ H) ∨ ((Itr lo n).go i H ∧ ∃ N : St → Hp → Prop, (∀ σ' H', N σ' H' → ∃ m', m' < m ∧ W (i + 1) m' σ' H') ∧ ∀ x H', (Itr lo n).yld i H x H' → g x σ H' fun σ2 H2 => tb { D with nx := N, ct := N, bk := D.nx } σ2 H2) := by
  refine ⟨fun i m σ H => m = n - i ∧ i ≤ n ∧ Pv i σ H, ⟨n, by simp, Nat.zero_le _, h0⟩, ?_⟩
  rintro i m σ H ⟨rfl, hi, p⟩
  by_cases hlt : i < n
  · refine .inr ⟨hlt, Pv (i + 1), fun σ' H' p' => ⟨n - (i + 1), by (first | lia | omega), rfl, hlt, p'⟩, fun x H' y => ?_⟩
    obtain ⟨e, y⟩ := y
    subst e y
    exact hs i σ _ hlt p
  · have e : i = n := by (first | lia | omega)
    subst e
    exact .inl ⟨Nat.le_refl _, hd σ H p⟩
end L2

namespace L2
open PySem PySem.Spec PyProof.Rows

abbrev R2 := V → V → Hp → VK → Prop
/-- a two-place operation on values: f is binaryOp op, inplaceOp op or compareOp op -/
def OpR (X : Cx) (f : Value → Value → Sem Value) (r : R2) : Prop :=
  ∀ (pins : List (Addr × Obj)) (s : Shared) (σ : St) (H : Hp) (x y : V) (v u : Value) (Q : VK), Inv X pins σ H s → RelV x v → RelV y u → r x y H Q →
    wpAny (model X.prog X.w) X.A (f v u) (EP X pins σ Q) X.xe s
/-- a one-place operation -/
def UnR (X : Cx) (f : Value → Sem Value) (r : V → Hp → VK → Prop) : Prop :=
  ∀ (pins : List (Addr × Obj)) (s : Shared) (σ : St) (H : Hp) (x : V) (v : Value) (Q : VK), Inv X pins σ H s → RelV x v → r x H Q →
    wpAny (model X.prog X.w) X.A (f v) (EP X pins σ Q) X.xe s
/-- a call of a value that is known (a builtin, a type) with values -/
def CallR (X : Cx) (f : Value) (r : List V → Hp → VK → Prop) : Prop :=
  ∀ (pins : List (Addr × Obj)) (s : Shared) (σ : St) (H : Hp) (xs : List V) (us : List Value) (Q : VK), Inv X pins σ H s → Vals xs us → r xs H Q →
    wpAny (model X.prog X.w) X.A (call f us) (EP X pins σ Q) X.xe s
/-- a value's truth -/
def TruR (X : Cx) (r : V → Hp → (Bool → Hp → Prop) → Prop) : Prop :=
  ∀ (pins : List (Addr × Obj)) (s : Shared) (σ : St) (H : Hp) (x : V) (v : Value) (Q : Bool → Hp → Prop), Inv X pins σ H s → RelV x v → r x H Q →
    wpAny (model X.prog X.w) X.A (truthy v) (TP X pins σ Q) X.xe s

def tOp (r : R2) (ta tb : TE) : TE := fun σ H Q => ta σ H fun x H1 => tb σ H1 fun y H2 => r x y H2 Q
def tUn (r : V → Hp → VK → Prop) (ta : TE) : TE := fun σ H Q => ta σ H fun x H1 => r x H1 Q
/-- ints in, under C, and a value out -/
def rI (C : Int → Int → Prop) (g : Int → Int → V) : R2 := fun x y H Q => ∃ i j, x = .int i ∧ y = .int j ∧ C i j ∧ Q (g i j) H
def rI0 (g : Int → Int → V) : R2 := fun x y H Q => ∃ i j, x = .int i ∧ y = .int j ∧ Q (g i j) H
def rU (g : Int → V) : V → Hp → VK → Prop := fun x H Q => ∃ i, x = .int i ∧ Q (g i) H

section
variable {X : Cx} {a b c : Expr} {ta tb tc : TE} {pos : Pos}

theorem binT (ha : PE X a ta) (hb : PE X b tb) {pins : List (Addr × Obj)} {s : Shared} {σ : St} {H : Hp} {R : V → V → Hp → Prop} (I : Inv X pins σ H s)
    (h : ta σ H fun x H1 => tb σ H1 fun y H2 => R x y H2) {Q : Value → Shared → Prop} {f : Value → Value → Sem Value}
    (hf : ∀ v u s2 x y H2, Inv X pins σ H2 s2 → RelV x v → RelV y u → R x y H2 → wpAny (model X.prog X.w) X.A (f v u) Q X.xe s2) :
    wpAny (model X.prog X.w) X.A (eval a X.env) (fun v s₁ => wpAny (model X.prog X.w) X.A (eval b X.env) (fun u s₂ => wpAny (model X.prog X.w) X.A (f v u) Q X.xe s₂) X.xe s₁) X.xe s := by
  refine thn (ha pins s σ H _ I h) fun v s1 ⟨x, H1, I1, r1, q1⟩ => ?_
  refine thn (hb pins s1 σ H1 _ I1 q1) fun u s2 ⟨y, H2, I2, r2, q2⟩ => ?_
  exact hf v u s2 x y H2 I2 r1 r2 q2

theorem pe_op {op : Operator} {r : R2} (ho : OpR X (binaryOp op) r) (ha : PE X a ta) (hb : PE X b tb) : PE X (.BinOp a op b pos) (tOp r ta tb) := by
  intro pins s σ H Q I h
  exact wpAny_BinOp (binT ha hb I h fun v u s2 x y H2 I2 rx ry q => ho pins s2 σ H2 x y v u Q I2 rx ry q)
theorem pe_un {op : UnaryOp} {r : V → Hp → VK → Prop} (ho : UnR X (unaryOp op) r) (ha : PE X a ta) : PE X (.UnaryOp op a pos) (tUn r ta) := by
  intro pins s σ H Q I h
  exact UnaryOp_ (thn (ha pins s σ H _ I h) fun v s1 ⟨x, H1, I1, r1, q1⟩ => ho pins s1 σ H1 x v Q I1 r1 q1)
/-! ### ints -/
theorem opI {f : Value → Value → Sem Value} {C : Int → Int → Prop} {g : Int → Int → Int}
    (rule : ∀ (i j : Int) (t u : Tok) (s : Shared) (Q : Value → Shared → Prop) (E : Value → Shared → Prop), C i j → Q (.int (g i j) s.toks) { s with toks := s.toks + 1 } → wpAny (model X.prog X.w) X.A (f (.int i t) (.int j u)) Q E s) :
    OpR X f (rI C fun i j => .int (g i j)) := by
  intro pins s σ H x y v u Q I rx ry h
  obtain ⟨i, j, rfl, rfl, hc, q⟩ := h
  obtain ⟨t, rfl⟩ := rx
  obtain ⟨t', rfl⟩ := ry
  exact rule i j t t' s _ _ hc ⟨.int (g i j), H, I.tok _, ⟨_, rfl⟩, q⟩
theorem opI0 {f : Value → Value → Sem Value} {g : Int → Int → Int}
    (rule : ∀ (i j : Int) (t u : Tok) (s : Shared) (Q : Value → Shared → Prop) (E : Value → Shared → Prop), Q (.int (g i j) s.toks) { s with toks := s.toks + 1 } → wpAny (model X.prog X.w) X.A (f (.int i t) (.int j u)) Q E s) :
    OpR X f (rI0 fun i j => .int (g i j)) := by
  intro pins s σ H x y v u Q I rx ry h
  obtain ⟨i, j, rfl, rfl, q⟩ := h
  obtain ⟨t, rfl⟩ := rx
  obtain ⟨t', rfl⟩ := ry
  exact rule i j t t' s _ _ ⟨.int (g i j), H, I.tok _, ⟨_, rfl⟩, q⟩
theorem opB0 {f : Value → Value → Sem Value} {g : Int → Int → Bool}
    (rule : ∀ (i j : Int) (t u : Tok) (s : Shared) (Q : Value → Shared → Prop) (E : Value → Shared → Prop), Q (.bool (g i j)) s → wpAny (model X.prog X.w) X.A (f (.int i t) (.int j u)) Q E s) :
    OpR X f (rI0 fun i j => .bl (g i j)) := by
  intro pins s σ H x y v u Q I rx ry h
  obtain ⟨i, j, rfl, rfl, q⟩ := h
  obtain ⟨t, rfl⟩ := rx
  obtain ⟨t', rfl⟩ := ry
  exact rule i j t t' s _ _ ⟨.bl (g i j), H, I, rfl, q⟩

def CDiv (i j : Int) : Prop := 0 < j ∧ j < 1073741824
def CPow (i j : Int) : Prop := 0 ≤ j ∧ j ≤ 1000000 ∧ i.natAbs < 2 ^ 64
def CMul (i j : Int) : Prop := (-(2 ^ 64) < i ∧ i < 2 ^ 64) ∨ (-(2 ^ 64) < j ∧ j < 2 ^ 64)
theorem CMul.ok {i j : Int} (h : CMul i j) : IntMulOk i j := by
  rcases h with ⟨h1, h2⟩ | ⟨h1, h2⟩
  · exact .of_left (intBits_le_64 h1 h2)
  · exact .of_right (intBits_le_64 h1 h2)
theorem op_add : OpR X (binaryOp .Add) (rI0 fun i j => .int (i + j)) := opI0 fun _ _ _ _ _ _ _ q => add_int q
theorem op_sub : OpR X (binaryOp .Sub) (rI0 fun i j => .int (i - j)) := opI0 fun _ _ _ _ _ _ _ q => sub_int q
theorem op_mul : OpR X (binaryOp .Mult) (rI CMul fun i j => .int (i * j)) := opI fun _ _ _ _ _ _ _ hc q => mul_int q hc.ok
/-- // by a positive divisor -/
theorem op_fdiv : OpR X (binaryOp .FloorDiv) (rI CDiv fun i j => .int (i / j)) := opI fun i j _ _ _ _ _ hc q => by
  have h1 : (0 : Int) < j := hc.1
  have h2 : j < 1073741824 := hc.2
  exact floordiv_int (by (first | lia | omega)) (by rw [Int.fdiv_eq_ediv_of_nonneg i (by (first | lia | omega))]; exact q) (.inl (PyProof.noPylong_small (by (first | lia | omega))))
/-- % by a positive divisor of any size -/
theorem op_mod : OpR X (binaryOp .Mod) (rI (fun _ j => 0 < j) fun i j => .int (i % j)) := opI fun i j _ _ _ _ _ hc q => by
  have h1 : (0 : Int) < j := hc
  exact mod_int' (by (first | lia | omega)) (by rw [Int.fmod_eq_emod_of_nonneg i (by (first | lia | omega))]; exact q)
theorem op_pow : OpR X (binaryOp .Pow) (rI CPow fun i j => .int (i ^ j.toNat)) := opI fun _ _ _ _ _ _ _ hc q => pow_int_small hc.1 hc.2.1 hc.2.2 q
theorem unI {f : Value → Sem Value} {g : Int → Int}
    (rule : ∀ (i : Int) (t : Tok) (s : Shared) (Q : Value → Shared → Prop) (E : Value → Shared → Prop), Q (.int (g i) s.toks) { s with toks := s.toks + 1 } → wpAny (model X.prog X.w) X.A (f (.int i t)) Q E s) :
    UnR X f (rU fun i => .int (g i)) := by
  intro pins s σ H x v Q I rx h
  obtain ⟨i, rfl, q⟩ := h
  obtain ⟨t, rfl⟩ := rx
  exact rule i t s _ _ ⟨.int (g i), H, I.tok _, ⟨_, rfl⟩, q⟩
theorem un_neg : UnR X (unaryOp .USub) (rU fun i => .int (-i)) := unI fun _ _ _ _ _ q => neg_int q
/-! ### bools among ints: n += (a < b) -/
end

/-! ### comparisons -/
/-- the scalars that == tells apart as data does -/
def scal : V → V → Bool
  | .non, .non => true | .non, .int _ => true | .int _, .non => true | .non, .bl _ => true | .bl _, .non => true | .non, .str _ => true | .str _, .non => true
  | .int _, .int _ => true | .bl _, .bl _ => true | .str _, .str _ => true | .byt _, .byt _ => true
  | .int _, .str _ => true | .str _, .int _ => true | .bl _, .str _ => true | .str _, .bl _ => true
  | _, _ => false
def rEq : R2 := fun x y H Q => scal x y = true ∧ Q (.bl (decide (x = y))) H
def rNe : R2 := fun x y H Q => scal x y = true ∧ Q (.bl (!decide (x = y))) H

theorem dec_int {i j : Int} : decide (V.int i = V.int j) = (i == j) := by
  rw [Bool.eq_iff_iff]
  simp
theorem dec_bl {i j : Bool} : decide (V.bl i = V.bl j) = (i == j) := by
  rw [Bool.eq_iff_iff]
  simp
theorem dec_str {i j : Str} : decide (V.str i = V.str j) = (i == j) := by
  rw [Bool.eq_iff_iff]
  simp
theorem dec_byt {i j : Array UInt8} : decide (V.byt i = V.byt j) = (i.toList == j.toList) := by
  rw [Bool.eq_iff_iff]
  cases i
  cases j
  simp

section
variable {X : Cx} {a b c : Expr} {ta tb tc : TE} {pos : Pos}
theorem fin_bl {pins : List (Addr × Obj)} {σ : St} {H : Hp} {s : Shared} {Q : VK} {k k' : Bool} (I : Inv X pins σ H s) (q : Q (.bl k) H) (e : k = k') : EP X pins σ Q (.bool k') s := by
  subst e
  exact ⟨.bl k, H, I, rfl, q⟩
theorem op_eq : OpR X (compareOp .Eq) rEq := by
  intro pins s σ H x y v u Q I rx ry h
  obtain ⟨hs, q⟩ := h
  cases x with
  | non =>
    cases rx
    cases y with
    | non => cases ry; exact PySem.EqNone.eq_none_none (fin_bl I q (by simp))
    | bl j => cases ry; exact PySem.EqNone.eq_none_bool (fin_bl I q (by simp))
    | int j => obtain ⟨t', rfl⟩ := ry; exact PySem.EqNone.eq_none_int (fin_bl I q (by simp))
    | str j => obtain ⟨t', rfl⟩ := ry; exact PySem.EqNone.eq_none_str (fin_bl I q (by simp))
    | _ => exact absurd (show false = true from hs) Bool.false_ne_true
  | bl i =>
    cases rx
    cases y with
    | non => cases ry; exact PySem.EqNone.eq_bool_none (fin_bl I q (by simp))
    | bl j => cases ry; exact eq_bool (fin_bl I q dec_bl)
    | str j => obtain ⟨t', rfl⟩ := ry; exact PySem.EqMixed.eq_bool_str (fin_bl I q (by simp))
    | _ => exact absurd (show false = true from hs) Bool.false_ne_true
  | int i =>
    obtain ⟨t, rfl⟩ := rx
    cases y with
    | non => cases ry; exact PySem.EqNone.eq_int_none (fin_bl I q (by simp))
    | int j => obtain ⟨t', rfl⟩ := ry; exact eq_int (fin_bl I q dec_int)
    | str j => obtain ⟨t', rfl⟩ := ry; exact PySem.EqMixed.eq_int_str (fin_bl I q (by simp))
    | _ => exact absurd (show false = true from hs) Bool.false_ne_true
  | str i =>
    obtain ⟨t, rfl⟩ := rx
    cases y with
    | non => cases ry; exact PySem.EqNone.eq_str_none (fin_bl I q (by simp))
    | bl j => cases ry; exact PySem.EqMixed.eq_str_bool (fin_bl I q (by simp))
    | int j => obtain ⟨t', rfl⟩ := ry; exact PySem.EqMixed.eq_str_int (fin_bl I q (by simp))
    | str j => obtain ⟨t', rfl⟩ := ry; exact eq_str (fin_bl I q dec_str)
    | _ => exact absurd (show false = true from hs) Bool.false_ne_true
  | byt i =>
    obtain ⟨t, rfl⟩ := rx
    cases y with
    | byt j => obtain ⟨t', rfl⟩ := ry; exact PySem.W.eq_bytes (fin_bl I q dec_byt)
    | _ => exact absurd (show false = true from hs) Bool.false_ne_true
  | _ => cases y <;> exact absurd (show false = true from hs) Bool.false_ne_true
theorem op_ne : OpR X (compareOp .NotEq) rNe := by
  intro pins s σ H x y v u Q I rx ry h
  obtain ⟨hs, q⟩ := h
  cases x with
  | non =>
    cases rx
    cases y with
    | non => cases ry; exact PySem.EqNone.ne_none_none (fin_bl I q (by simp))
    | bl j => cases ry; exact PySem.EqNone.ne_none_bool (fin_bl I q (by simp))
    | int j => obtain ⟨t', rfl⟩ := ry; exact PySem.EqNone.ne_none_int (fin_bl I q (by simp))
    | str j => obtain ⟨t', rfl⟩ := ry; exact PySem.EqNone.ne_none_str (fin_bl I q (by simp))
    | _ => exact absurd (show false = true from hs) Bool.false_ne_true
  | bl i =>
    cases rx
    cases y with
    | non => cases ry; exact PySem.EqNone.ne_bool_none (fin_bl I q (by simp))
    | bl j => cases ry; exact ne_bool (fin_bl I q (congrArg not dec_bl))
    | str j => obtain ⟨t', rfl⟩ := ry; exact PySem.EqMixed.ne_bool_str (fin_bl I q (by simp))
    | _ => exact absurd (show false = true from hs) Bool.false_ne_true
  | int i =>
    obtain ⟨t, rfl⟩ := rx
    cases y with
    | non => cases ry; exact PySem.EqNone.ne_int_none (fin_bl I q (by simp))
    | int j => obtain ⟨t', rfl⟩ := ry; exact ne_int (fin_bl I q (congrArg not dec_int))
    | str j => obtain ⟨t', rfl⟩ := ry; exact PySem.EqMixed.ne_int_str (fin_bl I q (by simp))
    | _ => exact absurd (show false = true from hs) Bool.false_ne_true
  | str i =>
    obtain ⟨t, rfl⟩ := rx
    cases y with
    | non => cases ry; exact PySem.EqNone.ne_str_none (fin_bl I q (by simp))
    | bl j => cases ry; exact PySem.EqMixed.ne_str_bool (fin_bl I q (by simp))
    | int j => obtain ⟨t', rfl⟩ := ry; exact PySem.EqMixed.ne_str_int (fin_bl I q (by simp))
    | str j => obtain ⟨t', rfl⟩ := ry; exact ne_str (fin_bl I q (congrArg not dec_str))
    | _ => exact absurd (show false = true from hs) Bool.false_ne_true
  | byt i =>
    obtain ⟨t, rfl⟩ := rx
    cases y with
    | byt j => obtain ⟨t', rfl⟩ := ry; exact PySem.W.ne_bytes (fin_bl I q (congrArg not dec_byt))
    | _ => exact absurd (show false = true from hs) Bool.false_ne_true
  | _ => cases y <;> exact absurd (show false = true from hs) Bool.false_ne_true

theorem op_lt : OpR X (compareOp .Lt) (rI0 fun i j => .bl (decide (i < j))) := opB0 fun _ _ _ _ _ _ _ q => lt_int q
theorem op_le : OpR X (compareOp .LtE) (rI0 fun i j => .bl (decide (i ≤ j))) := opB0 fun _ _ _ _ _ _ _ q => le_int q
theorem op_gt : OpR X (compareOp .Gt) (rI0 fun i j => .bl (decide (j < i))) := opB0 fun _ _ _ _ _ _ _ q => gt_int q
/-- is None, is not None: the right side a value none -/
theorem op_isN : OpR X (compareOp .Is) (fun x y H Q => y = .non ∧ Q (.bl (decide (x = .non))) H) := by
  intro pins s σ H x y v u Q I rx ry h
  obtain ⟨rfl, q⟩ := h
  cases ry
  refine is_none_gen (fin_bl I q ?_)
  cases x <;> first
    | (cases rx; rfl)
    | (obtain ⟨t, rfl⟩ := rx; rfl)
theorem nomark (b : Expr) {op : CmpOp} (h : op ≠ .In := by decide) (h2 : op ≠ .NotIn := by decide) : behindInMarks op b = false := by
  have e1 : (op == CmpOp.In) = false := by cases op <;> first | rfl | exact absurd rfl h
  have e2 : (op == CmpOp.NotIn) = false := by cases op <;> first | rfl | exact absurd rfl h2
  cases b <;> simp [behindInMarks, e1, e2]
/-- a comparison as a value; hm: nomark b, or (for in, not in) by with_unfolding_all rfl -/
theorem pe_cmpR {op : CmpOp} {r : R2} (ho : OpR X (compareOp op) r) (ha : PE X a ta) (hb : PE X b tb) (hm : behindInMarks op b = false) : PE X (.Compare a [op] [b] pos) (tOp r ta tb) := by
  intro pins s σ H Q I h
  exact wpAny_Compare1 (binT ha hb I h fun v u s2 x y H2 I2 rx ry q => ho pins s2 σ H2 x y v u Q I2 rx ry q) hm
/-- a reading of a value as a test -/
def tTest (t : TE) : TT := fun σ H Q => t σ H fun x H' => ∃ k, x = .bl k ∧ Q k H'
theorem pt_cmpR {op : CmpOp} {r : R2} (ho : OpR X (compareOp op) r) (ha : PE X a ta) (hb : PE X b tb) (hm : behindInMarks op b = false) : PT X (.Compare a [op] [b] pos) (tTest (tOp r ta tb)) := by
  intro pins s σ H Q I h
  refine wpAny_isTrue_Compare1 (thn (ha pins s σ H _ I h) fun v s1 ⟨x, H1, I1, r1, q1⟩ => thn (hb pins s1 σ H1 _ I1 q1) fun u s2 ⟨y, H2, I2, r2, q2⟩ =>
    thn (ho pins s2 σ H2 x y v u _ I2 r1 r2 q2) fun c s3 ⟨z, H3, I3, r3, k, e, q3⟩ => ?_) hm
  subst e
  cases r3
  exact wpAny_truthy_bool ⟨H3, I3, q3⟩
/-! ### truth -/
/-- a value's truth by the abstract heap -/
def TruV (K : PySem.W.Frag) (x : V) (H : Hp) (k : Bool) : Prop :=
  match x with
  | .non => k = false
  | .bl b => k = b
  | .int i => k = (i != 0)
  | .str y => y.length ≤ sizeLine ∧ k = ((y.length : Int) != 0)
  | .byt y => y.size ≤ sizeLine ∧ k = ((y.size : Int) != 0)
  | .ref p => (∃ xs, SqL K H p xs ∧ k = !xs.isEmpty) ∨ (∃ xs, SqT K H p xs ∧ k = !xs.isEmpty) ∨ ∃ kvs, H p = some (.dK kvs) ∧ k = !kvs.isEmpty
  | _ => False
theorem isEmpty_kv {κ : Type} {kvs : List (κ × V)} {vs : List (κ × Value)} (r : KV kvs vs) : (!vs.isEmpty) = !kvs.isEmpty := by
  cases r <;> rfl
theorem isEmpty_of {xs : List V} {its : List Value} (r : Vals xs its) : (!its.toArray.isEmpty) = !xs.isEmpty := by
  cases r <;> simp
theorem line63 : (sizeLine : Nat) < 2 ^ 63 := by rw [sizeLine_eq]; decide
theorem tru_ok : TruR X (fun x H Q => ∃ k, TruV X.K x H k ∧ Q k H) := by
  intro pins s σ H x v Q I rx h
  obtain ⟨k, e, q⟩ := h
  have hl := line63
  have hs : sizeLine = 16777216 := sizeLine_eq
  cases x with
  | non =>
    cases rx
    have e' : k = false := e
    subst e'
    exact truthy_none ⟨H, I, q⟩
  | bl b =>
    cases rx
    have e' : k = b := e
    subst e'
    exact wpAny_truthy_bool ⟨H, I, q⟩
  | int i =>
    obtain ⟨t, rfl⟩ := rx
    have e' : k = (i != 0) := e
    subst e'
    exact PySem.P.truthy_int ⟨H, I, q⟩
  | str y =>
    obtain ⟨t, rfl⟩ := rx
    obtain ⟨hy, e'⟩ : y.length ≤ sizeLine ∧ k = ((y.length : Int) != 0) := e
    subst e'
    exact PySem.P.truthy_str (by (first | lia | omega)) ⟨H, I.tok _, q⟩
  | byt y =>
    obtain ⟨t, rfl⟩ := rx
    obtain ⟨hy, e'⟩ : y.size ≤ sizeLine ∧ k = ((y.size : Int) != 0) := e
    subst e'
    exact PySem.W.truthy_bytes (by (first | lia | omega)) ⟨H, I.tok _, q⟩
  | ref p =>
    cases rx
    have e' : (∃ xs, SqL X.K H p xs ∧ k = !xs.isEmpty) ∨ (∃ xs, SqT X.K H p xs ∧ k = !xs.isEmpty) ∨ ∃ kvs, H p = some (.dK kvs) ∧ k = !kvs.isEmpty := e
    rcases e' with ⟨xs, hx, e'⟩ | ⟨xs, hx, e'⟩ | ⟨kvs, hx, e'⟩
    · subst e'
      obtain ⟨its, r, pl, hz⟩ := I.list hx
      have hlen := r.length
      exact wpAny_truthy_list pl.isList (by simp only [List.size_toArray]; (first | lia | omega)) ⟨H, I.tok _, by rw [isEmpty_of r]; exact q⟩
    · subst e'
      obtain ⟨its, r, pl, hz⟩ := I.tuple hx
      have hlen := r.length
      exact truthy_tuple pl (by simp only [List.size_toArray]; (first | lia | omega)) ⟨H, I.tok _, by rw [isEmpty_of r]; exact q⟩
    · subst e'
      obtain ⟨hz, hS, vs, r, m⟩ : kvs.length ≤ sizeLine ∧ (p == sysModules) = false ∧ ∃ vs, KV kvs vs ∧ s.heap.DictOf (mixKind X.prog X.w) p vs := I.hok p _ hx
      have hlen : kvs.length = vs.length := Paired.length r
      exact wpAny_truthy_dict hS m (by (first | lia | omega)) ⟨H, I.tok _, by rw [isEmpty_kv r]; exact q⟩
  | _ => exact (show False from e).elim
/-- any expression whose test is its value's truth (a name, a call, a subscript, a field ..: he by fun _ => rfl) -/
theorem pt_truth (ha : PE X a ta) (he : ∀ whole, isTrue a X.env whole = (do let v ← whole; standAt a.pos; holding [v] (truthy v))) :
    PT X a (fun σ H Q => ta σ H fun x H' => ∃ k, TruV X.K x H' k ∧ Q k H') := by
  intro pins s σ H Q I h
  exact isTrue_plain (thn (ha pins s σ H _ I h) fun v s1 ⟨x, H1, I1, r1, q1⟩ => tru_ok pins s1 σ H1 x v Q I1 r1 q1) (he _)

/-! ### strs and bytes -/
theorem op_add_str : OpR X (binaryOp .Add) (fun x y H Q => ∃ i j, x = .str i ∧ y = .str j ∧ i.length + j.length ≤ sizeLine ∧ Q (.str (i ++ j)) H) := by
  intro pins s σ H x y v u Q I rx ry h
  obtain ⟨i, j, rfl, rfl, hz, q⟩ := h
  obtain ⟨t, rfl⟩ := rx
  obtain ⟨t', rfl⟩ := ry
  exact add_str (fun t' tk => ⟨.str (i ++ j), H, I.tok _, ⟨_, rfl⟩, q⟩) hz
/-! ### scalar builtins, by CallR -/
theorem vals1 {x : V} {us : List Value} (r : Vals [x] us) : ∃ u, us = [u] ∧ RelV x u := by
  cases r with
  | cons r1 r2 => cases r2; exact ⟨_, rfl, r1⟩
end
end L2

namespace L2
open PySem PySem.Spec PyProof.Rows

/-! ### an instance, its attributes a map -/
structure ObjM (h : Heap) (x dx C : Addr) (mA : Str → Option Value) : Prop where
  obj : h.get? x = some (PySem.W.instObj C dx)
  ns : h.Ns1 dx mA
  ne : dx ≠ x

theorem lookIn_ns {h : Heap} {dx : Addr} {mA : Str → Option Value} (n : h.Ns1 dx mA) : ∃ od, h.get? dx = some od ∧ ∀ name, PySem.W.lookIn name od = some (mA name) := by
  obtain ⟨o, es, ep, ho, hd, hk, _, hm⟩ := n
  refine ⟨o, ho, fun name => ?_⟩
  have e := hm name
  unfold nsFind findBy at e
  rw [← Array.find?_toList] at e
  unfold PySem.W.lookIn
  rw [hd]
  dsimp only
  split
  · rename_i y q
    rw [q] at e
    exact congrArg some e
  · rename_i q
    rw [q] at e
    have a : es.toList.any (·.refKey) = false := by
      rw [List.any_eq_false]
      intro y hy
      obtain ⟨z, t, hkey⟩ := hk y (Array.mem_toList_iff.mp hy)
      simp [DictEntry.refKey, hkey]
    have a' : ¬ es.toList.any (·.refKey) = true := by rw [a]; exact Bool.false_ne_true
    rw [if_neg a']
    exact congrArg some e

theorem ObjM.look {h : Heap} {x dx C : Addr} {mA : Str → Option Value} (I : ObjM h x dx C mA) : ∃ od, PySem.W.InstAt h x (PySem.W.instObj C dx) C (some od) ∧ ∀ name, PySem.W.lookIn name od = some (mA name) :=
  let ⟨od, ho, hl⟩ := lookIn_ns I.ns
  ⟨od, ⟨I.obj, rfl, rfl, ho⟩, hl⟩

section
variable {prog : Program} {w : World} {A : Around} {E : Value → Shared → Prop} {s : Shared} {K : PySem.W.Frag} {x dx C f : Addr} {mA : Str → Option Value} {name : Str} {v : Value}

theorem get_map {expr : Bool} {Q : Value → Shared → Prop} (X : K.In s.heap) (I : ObjM s.heap x dx C mA) (hg : PySem.W.plainGet K C name = true) (hh : PySem.W.hasDictIn K C = true)
    (ha : PySem.W.findIn K (.ref C) name = some none) (hv : mA name = some v) (hv' : PySem.W.handedIn v = true) (h : Q v { s with toks := s.toks + 1 }) :
    wpAny (model prog w) A (getAttr (.ref x) name expr) Q E s := by
  obtain ⟨od, J, hl⟩ := I.look
  exact PySem.W.get_value X J (PySem.W.plainGet_of hg).1 (PySem.W.findObj_own hh ha rfl (by rw [hl, hv])) hv' h

theorem set_map {ns : List Str} {Q : Unit → Shared → Prop} (X : K.In s.heap) (I : ObjM s.heap x dx C mA)
    (hs : PySem.W.findIn K (.ref C) "__setattr__" = some (some (.builtin "object.__setattr__"))) (hp : PySem.W.plainOver K C = true) (ht : PySem.W.takerIn K C name = some none) (hh : PySem.W.hasDictIn K C = true)
    (hw : PySem.Within mA ns) (hsz : ns.length ≤ sizeLine)
    (h : ∀ h', ObjM h' x dx C (fun y => if y = name then some v else mA y) → Heap.SameBut dx s.heap h' → Q () { s with heap := h', toks := s.toks + 2 }) :
    wpAny (model prog w) A (setAttr (.ref x) name v) Q E s := by
  obtain ⟨od, J, hl⟩ := I.look
  refine PySem.W.set_plain X J hs (PySem.W.osa_open (s := { s with toks := s.toks + 1 }) (r := none) X J hp ht fun b => ?_)
  obtain ⟨cd, hc, hd'⟩ := PySem.W.any_some hh
  have hx : s.heap.get? x = some ⟨.ref C, some dx, .plain, #[]⟩ := I.obj
  refine wpAny_bind (wpAny_pure (wpAny_bind (wpAny_bind (wpAny_loadPart hx (wpAny_bind (PySem.W.Looks.here (s := { s with toks := s.toks + 1 }) (PySem.W.looks_clsIn X hc) ?_))))))
  rw [hd']
  refine wpAny_pure (a := some dx) (wpAny_bind (wpAny_pure (wpAny_bind ?_)))
  refine wpAny_nsSet1 (s := { s with toks := s.toks + 1 }) I.ns fun h' hn2 hs2 => ?_
  obtain ⟨oD, esD, epD, hoD, hdD, hcD⟩ := hn2.count (PySem.Within.cons name v hw)
  refine wpAny_bind (wpAny_lookBehind hoD (by rw [hdD]; exact pastItsLine_dict (Nat.le_trans hcD (by rw [List.length_cons]; (first | lia | omega)))) ?_)
  exact wpAny_pure (h _ ⟨(hs2.2 _ (Ne.symm I.ne)).trans I.obj, hn2, I.ne⟩ hs2)

/-- C(..): the dict at the heap's end, the instance behind it; then its __init__ -/
theorem make_map {R : Result → Shared → Prop} {vs : List Value} {kw : List (Str × Value)} (X : K.In s.heap) (hm : PySem.W.makesIn K C = true)
    (hi : PySem.W.findIn K (.ref C) "__init__" = some (some (.ref f))) (hf : PySem.W.typeIn K (.ref f) = some (.type "function"))
    (h : codeAny (model prog w) (A.under (.builtin "type.__call__" ⟨.ref C :: vs, kw⟩)) (.call (.ref f) ⟨.ref (s.heap.objs.size + 1) :: vs, kw⟩) (PySem.W.InitBack (s.heap.objs.size + 1) R)
      { s with heap := (s.heap.push PySem.W.emptyDict).push (PySem.W.instObj C s.heap.objs.size) }) :
    codeAny (model prog w) A (.call (.ref C) ⟨vs, kw⟩) R s := by
  obtain ⟨hh, g, d, t, os⟩ := s
  exact PySem.W.make_core (PySem.W.makes_of X hm) (PySem.W.looks_findIn X hi) (fun self => PySem.W.bind_fn X self hf) (.inl rfl) h
end

/-! ### the attributes as a list of pairs -/
def putF (f : Str) (v : V) : List (Str × V) → List (Str × V)
  | [] => [(f, v)]
  | (g, x) :: r => if g = f then (g, v) :: r else (g, x) :: putF f v r
theorem lookup_putF (f g : Str) (v : V) : ∀ fs : List (Str × V), (putF f v fs).lookup g = if g = f then some v else fs.lookup g
  | [] => by
    show List.lookup g [(f, v)] = _
    by_cases h : g = f
    · have hb : (g == f) = true := beq_iff_eq.mpr h
      simp only [List.lookup, hb, if_pos h]
    · have hb : (g == f) = false := beq_eq_false_iff_ne.mpr h
      simp only [List.lookup, hb, if_neg h]
  | (k, x) :: r => by
    have ih := lookup_putF f g v r
    rw [show putF f v ((k, x) :: r) = (if k = f then (k, v) :: r else (k, x) :: putF f v r) from rfl]
    by_cases hk : k = f
    · rw [if_pos hk]
      by_cases h : g = k
      · have hb : (g == k) = true := beq_iff_eq.mpr h
        simp only [List.lookup, hb, if_pos (h.trans hk)]
      · have hb : (g == k) = false := beq_eq_false_iff_ne.mpr h
        simp only [List.lookup, hb, if_neg (fun e : g = f => h (e.trans hk.symm))]
    · rw [if_neg hk]
      by_cases h : g = k
      · have hb : (g == k) = true := beq_iff_eq.mpr h
        simp only [List.lookup, hb, if_neg (fun e : g = f => hk (h.symm.trans e))]
      · have hb : (g == k) = false := beq_eq_false_iff_ne.mpr h
        simp only [List.lookup, hb]
        exact ih
theorem keys_putF (f : Str) (v : V) : ∀ fs : List (Str × V), f ∈ (putF f v fs).map (·.1) ∧ ∀ g, g ∈ fs.map (·.1) → g ∈ (putF f v fs).map (·.1)
  | [] => ⟨by simp [putF], fun g h => by simp at h⟩
  | (k, x) :: r => by
    obtain ⟨i1, i2⟩ := keys_putF f v r
    rw [show putF f v ((k, x) :: r) = (if k = f then (k, v) :: r else (k, x) :: putF f v r) from rfl]
    by_cases hk : k = f
    · rw [if_pos hk]
      subst hk
      exact ⟨by simp, fun g h => by simpa using h⟩
    · rw [if_neg hk]
      refine ⟨?_, fun g h => ?_⟩
      · rw [List.map_cons]
        exact List.mem_cons_of_mem _ i1
      · rw [List.map_cons] at h ⊢
        rcases List.mem_cons.mp h with e | e
        · exact List.mem_cons.mpr (.inl e)
        · exact List.mem_cons_of_mem _ (i2 g e)
theorem length_putF (f : Str) (v : V) : ∀ fs : List (Str × V), (putF f v fs).length ≤ fs.length + 1
  | [] => by simp [putF]
  | (k, x) :: r => by
    have ih := length_putF f v r
    rw [show putF f v ((k, x) :: r) = (if k = f then (k, v) :: r else (k, x) :: putF f v r) from rfl]
    by_cases hk : k = f
    · rw [if_pos hk, List.length_cons, List.length_cons]; (first | lia | omega)
    · rw [if_neg hk, List.length_cons, List.length_cons]; (first | lia | omega)

theorem RelO.some_of {v : V} {o : Option Value} (r : RelO (some v) o) : ∃ u, o = some u ∧ RelV v u := by
  cases o with
  | none => exact (show False from r).elim
  | some u => exact ⟨u, rfl, r⟩
theorem handed_of {v : V} {u : Value} (r : RelV v u) : PySem.W.handedIn u = true := by
  cases v with
  | non => cases (show u = Value.none from r); rfl
  | bl b => cases (show u = Value.bool b from r); rfl
  | int i => obtain ⟨t, e⟩ := (show ∃ t, u = Value.int i t from r); cases e; rfl
  | str x => obtain ⟨t, e⟩ := (show ∃ t, u = Value.str x t from r); cases e; rfl
  | byt b => obtain ⟨t, e⟩ := (show ∃ t, u = Value.bytes b t from r); cases e; rfl
  | flt b => obtain ⟨t, e⟩ := (show ∃ t, u = Value.float b t from r); cases e; rfl
  | ref a => cases (show u = Value.ref a from r); rfl
  | ty n => cases (show u = Value.type n from r); rfl

section
variable {P : Program} {w : World} {H H' : Hp} {h h' : Heap} {a C dx : Addr} {fs fs' : List (Str × V)}
theorem ins_get (hok : HOk P w H h) (e : H a = some (.ins C dx fs)) : ∃ mA, ObjM h a dx C mA ∧ (∀ f, RelO (fs.lookup f) (mA f)) ∧ PySem.Within mA (fs.map (·.1)) ∧ fs.length ≤ 1000 ∧ H dx = some (.own a) := by
  obtain ⟨d, z, ne, ob, mA, n, r, q⟩ := (show ObjOk P w H h a (.ins C dx fs) from hok a _ e)
  exact ⟨mA, ⟨ob, n, ne⟩, r, q, z, d⟩
end

/-! ### what of the text a class must have -/
structure Cls (K : PySem.W.Frag) (C : Addr) : Prop where
  pg : PySem.W.plainGet K C Str.empty = true
  hd : PySem.W.hasDictIn K C = true
  po : PySem.W.plainOver K C = true
  sa : PySem.W.findIn K (.ref C) "__setattr__" = some (some (.builtin "object.__setattr__"))
theorem Cls.get {K : PySem.W.Frag} {C : Addr} (c : Cls K C) (f : Str) : PySem.W.plainGet K C f = true := c.pg
/-- no class of it has the name -/
def NoAttr (K : PySem.W.Frag) (C : Addr) (f : Str) : Prop := PySem.W.findIn K (.ref C) f = some none
theorem NoAttr.taker {K : PySem.W.Frag} {C : Addr} {f : Str} (n : NoAttr K C f) : PySem.W.takerIn K C f = some none := by
  unfold PySem.W.takerIn
  rw [show PySem.W.findIn K (.ref C) f = some none from n]
  rfl
section
variable {X : Cx} {pins : List (Addr × Obj)} {σ : St} {H : Hp} {s : Shared} {a C dx : Addr} {fs : List (Str × V)} {f : Str} {v : V} {A : Around} {E : Value → Shared → Prop}

theorem getattr_ok {b : Bool} {Q : Value → Shared → Prop} (I : Inv X pins σ H s) (e : H a = some (.ins C dx fs)) (c : Cls X.K C) (n : NoAttr X.K C f) (l : fs.lookup f = some v)
    (h : ∀ u s', Inv X pins σ H s' → RelV v u → Q u s') : wpAny (model X.prog X.w) A (getAttr (.ref a) f b) Q E s := by
  obtain ⟨mA, O, r, _, _, _⟩ := ins_get I.hok e
  obtain ⟨u, hu, ru⟩ := RelO.some_of (v := v) (o := mA f) (by rw [← l]; exact r f)
  exact get_map I.kIn O (c.get f) c.hd n hu (handed_of ru) (h u _ (I.tok _) ru)

theorem setattr_ok {y : V} {u : Value} {Q : Unit → Shared → Prop} (I : Inv X pins σ H s) (e : H a = some (.ins C dx fs)) (c : Cls X.K C) (n : NoAttr X.K C f) (hl : fs.length < 1000) (ry : RelV y u)
    (h : ∀ s', Inv X pins σ (upd H a (.ins C dx (putF f y fs))) s' → Q () s') : wpAny (model X.prog X.w) A (setAttr (.ref a) f u) Q E s := by
  obtain ⟨mA, O, r, wi, _, ho⟩ := ins_get I.hok e
  have hz : (fs.map (·.1)).length ≤ sizeLine := by rw [List.length_map, sizeLine_eq]; (first | lia | omega)
  refine set_map I.kIn O c.sa c.po n.taker c.hd wi hz fun h' O' sb => h _ ?_
  have hd : ∃ o, h'.get? dx = some o := let ⟨o, _, _, e', _⟩ := O'.ns; ⟨o, e'⟩
  refine I.write (x := a) (e := dx) (by rw [e]; exact True.intro) (.inr ho) (fun b q hb z => (sb.2 b hb).trans z) hd ?_
  refine ⟨by rw [upd_ne O.ne]; exact ho, ?_, O.ne, O'.obj, _, O'.ns, fun g => ?_, fun g hg => ?_⟩
  · have := length_putF f y fs; (first | lia | omega)
  · show RelO ((putF f y fs).lookup g) (if g = f then some u else mA g)
    rw [lookup_putF]
    by_cases q : g = f
    · rw [if_pos q, if_pos q]; exact ry
    · rw [if_neg q, if_neg q]; exact r g
  · by_cases q : g = f
    · rw [q]; exact (keys_putF f y fs).1
    · refine (keys_putF f y fs).2 g (wi g fun z => hg ?_)
      show (if g = f then some u else mA g) = none
      rw [if_neg q]; exact z

/-- a new instance, tracked, without attributes -/
theorem Inv.made (I : Inv X pins σ H s) : Inv X pins σ (upd (upd H s.heap.objs.size (.own (s.heap.objs.size + 1))) (s.heap.objs.size + 1) (.ins C s.heap.objs.size []))
    { s with heap := (s.heap.push PySem.W.emptyDict).push (PySem.W.instObj C s.heap.objs.size) } := by
  have e1 : (s.heap.push PySem.W.emptyDict).get? s.heap.objs.size = some PySem.W.emptyDict := Heap.get?_push_size s.heap rfl
  have e2 : ((s.heap.push PySem.W.emptyDict).push (PySem.W.instObj C s.heap.objs.size)).get? (s.heap.objs.size + 1) = some (PySem.W.instObj C s.heap.objs.size) := by
    have := Heap.get?_push_size (s.heap.push PySem.W.emptyDict) (o := PySem.W.instObj C s.heap.objs.size) rfl
    rwa [Heap.size_push] at this
  have e3 : (s.heap.push PySem.W.emptyDict).Ns s.heap.objs.size (fun _ => none) := ⟨PySem.W.emptyDict, #[], _, e1, rfl, (fun e he => absurd he (by simp)), fun _ => rfl⟩
  have I1 := I.laid (a := s.heap.objs.size) (o := .own (s.heap.objs.size + 1)) (h' := s.heap.push PySem.W.emptyDict) (t' := s.toks) (fun b u q => Heap.get?_push_of_some _ q) (Nat.le_refl _) ⟨_, e1⟩
  refine I1.laid (a := s.heap.objs.size + 1) (o := .ins C s.heap.objs.size []) (t' := s.toks) (fun b u q => Heap.get?_push_of_some _ q) (Nat.le_of_eq (Heap.size_push _ _)) ?_
  have ne : s.heap.objs.size ≠ s.heap.objs.size + 1 := Nat.ne_of_lt (Nat.lt_succ_self _)
  refine ⟨by rw [upd_ne ne, upd_same], Nat.zero_le _, ne, e2, fun _ => none, (Heap.Ns1.of_empty e3).at fun o q => Heap.get?_push_of_some _ q, fun _ => True.intro, fun y hy => absurd rfl hy⟩

/-- e.f where nothing but the object is asked: through attributeBase (super) and the last hold -/
theorem attr_of {prog : Program} {w : World} {env : Env} {e : Expr} {f : Str} {pos : Pos} {s : Shared} {Q : Value → Shared → Prop} (hb : attributeBase e f env (eval e env) = eval e env)
    (h : wpAny (model prog w) A (eval e env) (fun o s₁ => wpAny (model prog w) A (getAttr o f true) Q E s₁) E s) : wpAny (model prog w) A (eval (.Attribute e f pos) env) Q E s :=
  Attribute_any_ h (by rw [arm_eval_Attribute, hb])
end

/-! ### readings and rules -/
/-- e.f, an attribute of the instance -/
def tFld (K : PySem.W.Frag) (ta : TE) (f : Str) : TE := fun σ H Q => ta σ H fun x H1 => ∃ a C dx fs v, x = .ref a ∧ H1 a = some (.ins C dx fs) ∧ Cls K C ∧ NoAttr K C f ∧ fs.lookup f = some v ∧ Q v H1
/-- e.f = value -/
def sFld (K : PySem.W.Frag) (ta tv : TE) (f : Str) : TS := fun D σ H => tv σ H fun y H1 => ta σ H1 fun x H2 => ∃ a C dx fs, x = .ref a ∧ H2 a = some (.ins C dx fs) ∧ Cls K C ∧ NoAttr K C f ∧ fs.length < 1000 ∧
  D.nx σ (upd H2 a (.ins C dx (putF f y fs)))
section
variable {X : Cx} {o e value : Expr} {f : Str} {pos pos' tpos : Pos} {ta tv : TE}
theorem pe_fld (he : PE X e ta) (hb : attributeBase e f X.env (eval e X.env) = eval e X.env) : PE X (.Attribute e f pos) (tFld X.K ta f) := by
  intro pins s σ H Q I h
  refine attr_of hb (thn (he pins s σ H _ I h) fun u s1 ⟨x, H1, I1, rx, a, C, dx, fs, v, ex, ea, c, n, l, q⟩ => ?_)
  subst ex
  obtain rfl : u = Value.ref a := rx
  exact getattr_ok I1 ea c n l fun u' s2 I2 ru => ⟨v, H1, I2, ru, q⟩
theorem ps_fld (ha : PE X o ta) (hv : PE X value tv) (hs : swapsWith value (some (.Attribute o f pos')) pos.line X.env = pure false) : PS X (.Assign [.Attribute o f pos'] value pos) (sFld X.K ta tv f) := by
  intro pins s σ H D I h
  refine plainObj_wpAny_Assign_Attribute (thn (hv pins s σ H _ I h) fun u s1 ⟨y, H1, I1, ry, q⟩ => thn (ha pins s1 σ H1 _ I1 q) fun ov s2 ⟨x, H2, I2, rx, a, C, dx, fs, ex, ea, c, n, l, q2⟩ => ?_) hs
  subst ex
  obtain rfl : ov = Value.ref a := rx
  exact setattr_ok I2 ea c n l ry fun s3 I3 => ⟨σ, _, I3, q2⟩
end

/-! ### isinstance -/
section
variable {X : Cx} {pins : List (Addr × Obj)} {σ : St} {H : Hp} {s : Shared} {A : Around} {E : Value → Shared → Prop} {Q : Value → Shared → Prop} {c : Value} {b : Bool}
/-- the type of a value, as the fragment's deciders take it; for an instance its class -/
inductive TyOf (K : PySem.W.Frag) (H : Hp) : V → Value → Prop where
  | non : TyOf K H .non (.type "NoneType")
  | bl (x : Bool) : TyOf K H (.bl x) (.type "bool")
  | int (i : Int) : TyOf K H (.int i) (.type "int")
  | str (x : Str) : TyOf K H (.str x) (.type "str")
  | flt (x : UInt64) : TyOf K H (.flt x) (.type "float")
  | lst {a : Addr} {xs : List V} (e : H a = some (.lst xs)) : TyOf K H (.ref a) (.type "list")
  | frz {a : Addr} {o : Obj} {xs : List V} (e : H a = some (.frz o (.lst xs))) : TyOf K H (.ref a) (.type "list")
  | tup {a : Addr} {xs : List V} (e : H a = some (.tup xs)) : TyOf K H (.ref a) (.type "tuple")
  | dK {a : Addr} {kvs : List (Key × V)} (e : H a = some (.dK kvs)) : TyOf K H (.ref a) (.type "dict")
  | dT {a : Addr} {kvs : List (List Key × V)} (e : H a = some (.dT kvs)) : TyOf K H (.ref a) (.type "dict")
  | ins {a C dx : Addr} {fs : List (Str × V)} (e : H a = some (.ins C dx fs)) (cl : Cls K C) (ha : PySem.W.findIn K (.ref C) "__class__" = some (some (.builtin "object.__class__")))
      (hn : PySem.W.specialIn K (.builtin "object.__class__") "__get__" = some (some (.builtin "getset_descriptor.__get__"))) (htk : PySem.W.takesIn K (.builtin "object.__class__") = some true)
      (hm : PySem.W.mroIn K C (.type "object") = some true) : TyOf K H (.ref a) (.ref C)
/-- isinstance(x, c) for one class c, a built-in or an own one: kitOne's answer -/
theorem isinst_ok {x : V} {u t : Value} (I : Inv X pins σ H s) (rx : RelV x u) (ty : TyOf X.K H x t) (e : PySem.W.kitOne X.K t c = some b) (h : ∀ tk, Q (.bool b) { s with toks := tk }) :
    wpAny (model X.prog X.w) A (call (.builtin "isinstance") [u, c]) Q E s := by
  cases ty with
  | non => cases (show u = Value.none from rx); exact PySem.W.kia_one PySem.W.kitx_none I.kIn True.intro e (fun z => nomatch z) h
  | bl y => cases (show u = Value.bool y from rx); exact PySem.W.kia_one PySem.W.kitx_bool I.kIn True.intro e (fun z => nomatch z) h
  | int i => obtain ⟨t, q⟩ := (show ∃ t, u = Value.int i t from rx); cases q; exact PySem.W.kia_one PySem.W.kitx_int I.kIn True.intro e (fun z => nomatch z) h
  | str y => obtain ⟨t, q⟩ := (show ∃ t, u = Value.str y t from rx); cases q; exact PySem.W.kia_one PySem.W.kitx_str I.kIn True.intro e (fun z => nomatch z) h
  | flt y => obtain ⟨t, q⟩ := (show ∃ t, u = Value.float y t from rx); cases q; exact PySem.W.kia_one PySem.W.kitx_float I.kIn True.intro e (fun z => nomatch z) h
  | @lst a xs ea =>
    cases (show u = Value.ref a from rx)
    obtain ⟨_, _, n, _, h1⟩ := (show ObjOk X.prog X.w H s.heap a (.lst xs) from I.hok a _ ea)
    exact PySem.W.kia_one PySem.W.kitx_list I.kIn ⟨_, h1, rfl⟩ e (fun z => nomatch z) h
  | @frz a ob xs ea =>
    cases (show u = Value.ref a from rx)
    obtain ⟨_, _, _, n, _, h1⟩ := (show ObjOk X.prog X.w H s.heap a (.frz ob (.lst xs)) from I.hok a _ ea)
    exact PySem.W.kia_one PySem.W.kitx_list I.kIn ⟨_, h1, rfl⟩ e (fun z => nomatch z) h
  | @tup a xs ea =>
    cases (show u = Value.ref a from rx)
    obtain ⟨_, _, _, p⟩ := (show ObjOk X.prog X.w H s.heap a (.tup xs) from I.hok a _ ea)
    obtain ⟨o, h1, h2, _⟩ := p
    exact PySem.W.kia_one PySem.W.kitx_tuple I.kIn ⟨o, h1, h2⟩ e (fun z => nomatch z) h
  | @dK a kvs ea =>
    cases (show u = Value.ref a from rx)
    obtain ⟨_, _, vs, _, p⟩ := (show ObjOk X.prog X.w H s.heap a (.dK kvs) from I.hok a _ ea)
    obtain ⟨o, es, ep, h1, h2, _⟩ := p
    exact PySem.W.kia_one PySem.W.kitx_dict I.kIn ⟨o, h1, h2.1⟩ e (fun z => nomatch z) h
  | @dT a kvs ea =>
    cases (show u = Value.ref a from rx)
    obtain ⟨_, _, xs, _, o, es, ep, h1, h2, _⟩ := (show ObjOk X.prog X.w H s.heap a (.dT kvs) from I.hok a _ ea)
    exact PySem.W.kia_one PySem.W.kitx_dict I.kIn ⟨o, h1, h2.1⟩ e (fun z => nomatch z) h
  | @ins a C dx fs ea cl ha hn htk hm =>
    cases (show u = Value.ref a from rx)
    obtain ⟨mA, O, _⟩ := ins_get I.hok ea
    obtain ⟨od, J, _⟩ := O.look
    exact PySem.W.kia_one (PySem.W.kitx_own (cl.get _) cl.hd ha hn htk hm) I.kIn J e (fun z => nomatch z) h
end
end L2

namespace L2
open PySem PySem.Spec PyProof.Rows

/-! ### room -/
structure Room (k : Nat) (A : Around) : Prop where
  hd : A.handled = none
  dp : A.depth + 2 * k + 5 < recursionLimit
  un : A.units + 16 * k + 200 < cLine
theorem Room.mono {j k : Nat} {A : Around} (r : Room k A) (h : j ≤ k) : Room j A := ⟨r.hd, by have := r.dp; (first | lia | omega), by have := r.un; (first | lia | omega)⟩
theorem Room.deeper {k : Nat} {A : Around} (r : Room (k + 1) A) (env : Env) : Room k (A.deeper env) :=
  ⟨r.hd, by have := r.dp; show A.depth + 1 + 2 * k + 5 < _; (first | lia | omega), by have := r.un; show A.units + 3 + 16 * k + 200 < _; (first | lia | omega)⟩
theorem make_depth {A : Around} {C : Addr} {us : List Value} {kw : List (Str × Value)} : (A.under (.builtin "type.__call__" ⟨.ref C :: us, kw⟩)).depth = A.depth + 1 := by
  first | rfl | simp [Around.under, Code.weight, Code.isCreation, Code.isGuard, Code.isCaller, Code.frames, Code.isFrame, guardIds]
theorem make_units {A : Around} {C : Addr} {us : List Value} {kw : List (Str × Value)} : (A.under (.builtin "type.__call__" ⟨.ref C :: us, kw⟩)).units = A.units + 1 := by
  first | rfl | simp [Around.under, Code.cUnits, Code.frames, Code.isFrame]
theorem Room.make {k : Nat} {A : Around} (r : Room (k + 1) A) (C : Addr) (us : List Value) (kw : List (Str × Value)) : Room k (A.under (.builtin "type.__call__" ⟨.ref C :: us, kw⟩)) :=
  ⟨r.hd, by have := r.dp; rw [make_depth]; (first | lia | omega), by have := r.un; rw [make_units]; (first | lia | omega)⟩
theorem Room.depth {k : Nat} {A : Around} (r : Room k A) : A.depth < recursionLimit := by have := r.dp; (first | lia | omega)
/-! ### argument lists and displays -/
def tNil : TA := fun _ H Q => Q [] H
def tCons (ta : TE) (tr : TA) : TA := fun σ H Q => ta σ H fun x H1 => tr σ H1 fun xs H2 => Q (x :: xs) H2
section
variable {X : Cx} {e : Expr} {es : List Expr} {te : TE} {t : TA} {pos : Pos}
theorem pa_nil : PA X [] tNil := fun _ _ _ _ H Q I h => Calls.spliced_nil ⟨[], H, I, .nil, h⟩
theorem pa_cons (ha : PE X e te) (hr : PA X es t) (hs : starEach (e :: es) X.env = (false, eval e X.env) :: starEach es X.env := by rfl) : PA X (e :: es) (tCons te t) := by
  intro pos pins s σ H Q I h
  rw [hs]
  show wpAny _ _ (spliced ((false, eval e X.env) :: backTo pos (starEach es X.env))) _ _ s
  refine Calls.spliced_cons (thn (ha pins s σ H _ I h) fun u s1 ⟨x, H1, I1, r1, q1⟩ => ?_)
  exact thn (hr pos pins s1 σ H1 _ I1 q1) fun us s2 ⟨xs, H2, I2, r2, q2⟩ => ⟨x :: xs, H2, I2, .cons r1 r2, q2⟩

/-- a tuple, a list of written items -/
def tTup (t : TA) : TE := fun σ H Q => t σ H fun xs H1 => xs.length ≤ sizeLine ∧ ∀ p, H1 p = none → Q (.ref p) (upd H1 p (.tup xs))
def tLst (t : TA) : TE := fun σ H Q => t σ H fun xs H1 => xs.length ≤ sizeLine ∧ ∀ p, H1 p = none → Q (.ref p) (upd H1 p (.lst xs))
theorem pe_tup {x1} (h : PA X es t) : PE X (.Tuple es x1 pos) (tTup t) := by
  intro pins s σ H Q I hq
  refine wpAny_Tuple_spliced (thn (h pos pins s σ H _ I hq) fun us s1 ⟨xs, H1, I1, r, z, q⟩ => ⟨by rw [← r.length]; exact z, ?_⟩)
  have hf : H1 s1.heap.objs.size = none := I1.hok.fresh (Nat.le_refl _)
  refine ⟨.ref s1.heap.objs.size, upd H1 s1.heap.objs.size (.tup xs), I1.laid (t' := s1.toks) (fun b u e => Heap.get?_push_of_some _ e) (Nat.le_refl _) ?_, rfl, q _ hf⟩
  exact ⟨z, us, r, ⟨_, Heap.get?_push_size _ rfl, rfl, _, rfl⟩⟩
theorem pe_lst (h : PA X es t) : PE X (.List es pos) (tLst t) := by
  intro pins s σ H Q I hq
  refine wpAny_List_spliced (thn (h pos pins s σ H _ I hq) fun us s1 ⟨xs, H1, I1, r, z, q⟩ => ⟨by rw [← r.length]; exact z, ?_⟩)
  have hf : H1 s1.heap.objs.size = none := I1.hok.fresh (Nat.le_refl _)
  refine ⟨.ref s1.heap.objs.size, upd H1 s1.heap.objs.size (.lst xs), I1.laid (t' := s1.toks) (fun b u e => Heap.get?_push_of_some _ e) (Nat.le_refl _) ?_, rfl, q _ hf⟩
  exact ⟨z, us, 0, r, Heap.get?_push_size _ rfl⟩
end

/-! ### what a def promises -/
/-- a def's promise: the bound arguments in the parameters' order, the heap, the wanted end, the wanted exception -/
abbrev Sp := List V → Hp → VK → XK → Prop
/-- how an exception lies behind a call (file 08 gives it): the callers' frames, abstract heap and state ahead of the call, the wish, the exception, the state -/
abbrev CXT := List Env → Hp → Shared → XK → Value → Shared → Prop

/-- the state at a call -/
structure Env0 (P : Program) (w : World) (K : PySem.W.Frag) (mg : Str → Option Value) (base : Heap) (A : Around) (outer : List Env) (s : Shared) (H : Hp) : Prop where
  frames : A.frames = some outer
  mod : Mod K mg base
  bs : ∀ b o, base.get? b = some o → s.heap.get? b = some o ∧ H b = none
  bsz : base.objs.size ≤ s.heap.objs.size
  funs : s.heap.FunFrames base outer
  frf : ∀ b ∈ frs outer, H b = none
  hok : HOk P w H s.heap
  bare : AllBare s.gens
/-- a call's end -/
def CE (outer : List Env) (P : Program) (w : World) (H : Hp) (s : Shared) (Q : VK) (u : Value) (s' : Shared) : Prop :=
  ∃ v H', s'.os = s.os ∧ AllBare s'.gens ∧ Un (frs outer) [] H H' s.heap s'.heap ∧ HOk P w H' s'.heap ∧ RelV v u ∧ Q v H'
def CR (CX : CXT) (outer : List Env) (P : Program) (w : World) (H : Hp) (s : Shared) (Q : VK) (E : XK) (r : Result) (s' : Shared) : Prop :=
  match r with
  | .ok (.ret u) => CE outer P w H s Q u s'
  | .ok _ => False
  | .error e => CX outer H s E e s'
structure FnOk (P : Program) (w : World) (K : PySem.W.Frag) (mg : Str → Option Value) (base : Heap) (CX : CXT) (k : Nat) (f : Addr) (fd : FuncData) (ps : List Str) (sp : Sp) : Prop where
  len : ∀ vs H Q E, sp vs H Q E → vs.length = ps.length
  run : ∀ (A : Around) (outer : List Env) (s : Shared) (H : Hp) (args : Args) (us : List Value) (vs : List V) (Q : VK) (E : XK), Room k A → Env0 P w K mg base A outer s H → BindsTo s fd args (ps.zip us) → Vals vs us → sp vs H Q E →
    codeAny (model P w) A (.call (.ref f) args) (CR CX outer P w H s Q E) s
theorem Env0.make {P : Program} {w : World} {K : PySem.W.Frag} {mg : Str → Option Value} {base : Heap} {A : Around} {outer : List Env} {s : Shared} {H : Hp} (e : Env0 P w K mg base A outer s H) (C : Addr) (us : List Value) (kw : List (Str × Value)) :
    Env0 P w K mg base (A.under (.builtin "type.__call__" ⟨.ref C :: us, kw⟩)) outer s H := ⟨by first | exact e.frames | (simpa [Around.under, Code.envs, Code.isFrame, pushEnvs] using e.frames), e.mod, e.bs, e.bsz, e.funs, e.frf, e.hok, e.bare⟩
section
variable {X : Cx} {pins : List (Addr × Obj)} {σ : St} {H : Hp} {s s' : Shared}
/-- from a body: what a callee wants -/
theorem Inv.env0 (I : Inv X pins σ H s) : Env0 X.prog X.w X.K X.mg X.base X.A X.stack s H :=
  ⟨I.ok.frames, I.ok.mod, I.bs, Nat.le_trans I.ok.bsz I.sz, I.stack, I.stkFree, I.hok, I.bare⟩
/-- behind a call -/
theorem Inv.after {Q : VK} {u : Value} (I : Inv X pins σ H s) (h : CE X.stack X.prog X.w H s Q u s') : EP X pins σ Q u s' := by
  obtain ⟨v, H', os, bare, un, hok, r, q⟩ := h
  obtain ⟨hh, g, d, t, os'⟩ := s'
  obtain rfl : os' = s.os := os
  exact ⟨v, H', I.call (h' := hh) (g' := g) (d' := d) (t' := t) (ch := []) un hok bare (fun b z => absurd z (by simp)), r, q⟩
end

/-! ### calls -/
/-- f(..): the written arguments, then the defaults dvs; E: what is wanted of an exception -/
def tCall (sp : Sp) (dvs : List V) (E : XK) (t : TA) : TE := fun σ H Q => t σ H fun vs H1 => sp (vs ++ dvs) H1 Q E
/-- C(..): a new instance and its dict, then __init__ -/
def tMake (C : Addr) (sp : Sp) (dvs : List V) (E : XK) (t : TA) : TE := fun σ H Q => t σ H fun vs H1 => ∀ x dx, H1 x = none → H1 dx = none → dx ≠ x →
  sp (.ref x :: (vs ++ dvs)) (upd (upd H1 dx (.own x)) x (.ins C dx [])) (fun v H2 => v = .non ∧ Q (.ref x) H2) E

/-- how the parameters are bound: us the positional arguments, kw the keywords' values by name, ds the defaults that fill up -/
def Binds (K : PySem.W.Frag) (fd : FuncData) (ps : List Str) (ds : List Value) : Prop :=
  ∀ (s : Shared) (us : List Value), K.In s.heap → (us ++ ds).length = ps.length → BindsTo s fd ⟨us, []⟩ (ps.zip (us ++ ds))
/-- every parameter is given -/
theorem Binds.all {K : PySem.W.Frag} {fd : FuncData} {ps : List Str} (h : ∀ us : List Value, us.length = ps.length → bindArgs fd ⟨us, []⟩ = pure (ps.zip us)) : Binds K fd ps [] := fun s us _ hl => by
  rw [List.append_nil] at hl ⊢
  exact .of_eq (h us hl)

/-- an exception of a callee reaches what this body wants of exceptions -/
def Passes (CX : CXT) (X : Cx) (E : XK) : Prop := ∀ (pins : List (Addr × Obj)) (σ : St) (H : Hp) (s : Shared) (e : Value) (s' : Shared), Inv X pins σ H s → CX X.stack H s E e s' → X.xe e s'

section
variable {X : Cx} {CX : CXT} {k : Nat} {f C : Addr} {fd : FuncData} {ps : List Str} {sp : Sp} {dvs : List V} {ds : List Value} {E : XK} {x m : Str} {p pos apos : Pos} {e o : Expr} {es : List Expr} {ta : TE} {t : TA}

/-- the callee runs -/
theorem run_fn {pins : List (Addr × Obj)} {σ : St} {H : Hp} {s : Shared} {Q : VK} {us : List Value} {vs : List V} (F : FnOk X.prog X.w X.K X.mg X.base CX k f fd ps sp) (hr : Room k X.A) (hb : Binds X.K fd ps ds) (hd : Vals dvs ds) (hx : Passes CX X E)
    (I : Inv X pins σ H s) (r : Vals vs us) (h : sp (vs ++ dvs) H Q E) : wpAny (model X.prog X.w) X.A (call (.ref f) us) (EP X pins σ Q) X.xe s := by
  have r2 : Vals (vs ++ dvs) (us ++ ds) := r.append hd
  have hl : (us ++ ds).length = ps.length := by rw [← r2.length]; exact F.len _ _ _ _ h
  refine wpAny_call (codeAny_mono (F.run X.A X.stack s H ⟨us, []⟩ (us ++ ds) (vs ++ dvs) Q E hr I.env0 (hb s us I.kIn hl) r2 h) fun r s' hq => ?_)
  cases r with
  | error e => exact hx pins σ H s e s' I hq
  | ok fl =>
    cases fl with
    | ret u => exact I.after hq
    | next => exact False.elim hq
    | brk => exact False.elim hq
    | cont => exact False.elim hq

theorem pe_call (F : FnOk X.prog X.w X.K X.mg X.base CX k f fd ps sp) (hr : Room k X.A) (hg : Gl X x) (hm : X.mg x = some (.ref f)) (hk : PySem.W.keepIn X.K (.ref f) = true) (hb : Binds X.K fd ps ds) (hd : Vals dvs ds) (hx : Passes CX X E)
    (ha : PA X (e :: es) t) (hdb : (x == ("__debug__" : Str)) = false := by decide) (he : starEach (e :: es) X.env = (false, eval e X.env) :: starEach es X.env := by rfl) (hpl : (backTo pos (starEach es X.env)).any (·.1) = false := by rfl) :
    PE X (.Call (.Name x p) (e :: es) [] pos) (tCall sp dvs E t) := by
  intro pins s σ H Q I h
  refine wpAny_Call_Name_kw (ld_glob I hg hm ?_ hdb)
  refine PySem.W.callWith_K (h₀ := X.base) I.ok.mod.kin hk (thn (ha pos pins s σ H _ I h) fun us s1 ⟨vs, H1, I1, r, q⟩ => ⟨I1.kIn, ?_⟩) he hpl
  exact run_fn F hr hb hd hx I1 r q
/-- what a class must have to be made -/
structure Mk (K : PySem.W.Frag) (C f : Addr) : Prop where
  makes : PySem.W.makesIn K C = true
  init : PySem.W.findIn K (.ref C) "__init__" = some (some (.ref f))
  fn : PySem.W.isFn K (.ref f) = true
  kp : PySem.W.keepIn K (.ref C) = true

theorem run_make {pins : List (Addr × Obj)} {σ : St} {H : Hp} {s : Shared} {Q : VK} {us : List Value} {vs : List V} (M : Mk X.K C f) (F : FnOk X.prog X.w X.K X.mg X.base CX k f fd ps sp) (hr : Room (k + 1) X.A) (hb : Binds X.K fd ps ds) (hd : Vals dvs ds)
    (hx : Passes CX X E) (I : Inv X pins σ H s) (r : Vals vs us)
    (h : ∀ x dx, H x = none → H dx = none → dx ≠ x → sp (.ref x :: (vs ++ dvs)) (upd (upd H dx (.own x)) x (.ins C dx [])) (fun v H2 => v = .non ∧ Q (.ref x) H2) E) :
    wpAny (model X.prog X.w) X.A (call (.ref C) us) (EP X pins σ Q) X.xe s := by
  have hq := h (s.heap.objs.size + 1) s.heap.objs.size (I.hok.fresh (Nat.le_succ _)) (I.hok.fresh (Nat.le_refl _)) (Nat.ne_of_lt (Nat.lt_succ_self _))
  have I2 := Inv.made (C := C) I
  have r2 : Vals (V.ref (s.heap.objs.size + 1) :: (vs ++ dvs)) (Value.ref (s.heap.objs.size + 1) :: (us ++ ds)) := .cons rfl (r.append hd)
  have hl : (Value.ref (s.heap.objs.size + 1) :: us ++ ds).length = ps.length := by
    have e := r2.length
    rw [F.len _ _ _ _ hq] at e
    exact e.symm
  refine wpAny_call (make_map (f := f) I.kIn M.makes M.init (beq_iff_eq.mp M.fn) (codeAny_mono (F.run _ X.stack _ _ ⟨Value.ref (s.heap.objs.size + 1) :: us, []⟩ (Value.ref (s.heap.objs.size + 1) :: (us ++ ds)) _ _ E (hr.make C us [])
    (I2.env0.make C us []) (hb _ (Value.ref (s.heap.objs.size + 1) :: us) I2.kIn hl) r2 hq) fun r s' hq' => ?_))
  cases r with
  | error e => exact hx pins σ _ _ e s' I2 hq'
  | ok fl =>
    cases fl with
    | ret u =>
      obtain ⟨v, H', I3, rv, ev, q3⟩ := I2.after hq'
      subst ev
      exact ⟨rv, ⟨V.ref (s.heap.objs.size + 1), H', I3, rfl, q3⟩⟩
    | next => exact False.elim hq'
    | brk => exact False.elim hq'
    | cont => exact False.elim hq'
theorem pe_make (M : Mk X.K C f) (F : FnOk X.prog X.w X.K X.mg X.base CX k f fd ps sp) (hr : Room (k + 1) X.A) (hg : Gl X x) (hm : X.mg x = some (.ref C)) (hb : Binds X.K fd ps ds) (hd : Vals dvs ds) (hx : Passes CX X E)
    (ha : PA X (e :: es) t) (hdb : (x == ("__debug__" : Str)) = false := by decide) (he : starEach (e :: es) X.env = (false, eval e X.env) :: starEach es X.env := by rfl) (hpl : (backTo pos (starEach es X.env)).any (·.1) = false := by rfl) :
    PE X (.Call (.Name x p) (e :: es) [] pos) (tMake C sp dvs E t) := by
  intro pins s σ H Q I h
  refine wpAny_Call_Name_kw (ld_glob I hg hm ?_ hdb)
  refine PySem.W.callWith_K (h₀ := X.base) I.ok.mod.kin M.kp (thn (ha pos pins s σ H _ I h) fun us s1 ⟨vs, H1, I1, r, q⟩ => ⟨I1.kIn, ?_⟩) he hpl
  exact run_make M F hr hb hd hx I1 r q
end

/-! ### keywords -/

/-! ### a def's body keeps its promise -/
/-- names: the parameters first -/
structure FnScope (N P : List Str) (sc : Scope) : Prop where
  kind : sc.kind = .function
  co : sc.isCoroutine = false
  gen : sc.isGenerator = false
  nd : N.Nodup
  pre : N.take P.length = P
  par : ∀ x ∈ P, sc.names.lookup x = some .local ∨ sc.names.lookup x = some .cell
  nofree : ∀ y ∈ sc.names, y.2 ≠ .free

theorem bindL_out {kindOf : Str → Option NameKind} {x : Str} : ∀ {binds : List (Str × Value)} {m : Str → Option Value}, (∀ v, (x, v) ∉ binds) → bindL kindOf binds m x = m x
  | [], _, _ => rfl
  | (n, v) :: r, m, h => by
    unfold bindL
    rw [bindL_out fun w hw => h w (List.mem_cons_of_mem _ hw)]
    split
    · have : x ≠ n := by rintro rfl; exact h v List.mem_cons_self
      simp [this]
    · rfl
theorem bindC_out {kindOf : Str → Option NameKind} {x : Str} : ∀ {binds : List (Str × Value)} {m : Str → Option Value}, (∀ v, (x, v) ∉ binds) → bindC kindOf binds m x = m x
  | [], _, _ => rfl
  | (n, v) :: r, m, h => by
    unfold bindC
    rw [bindC_out fun w hw => h w (List.mem_cons_of_mem _ hw)]
    split
    · rfl
    · have : x ≠ n := by rintro rfl; exact h v List.mem_cons_self
      simp [this]
theorem bindL_get {kindOf : Str → Option NameKind} {x : Str} {v : Value} : ∀ {P : List Str} {vs : List Value} {i : Nat} {m : Str → Option Value}, P.Nodup → P[i]? = some x → vs[i]? = some v → kindOf x = some .local →
    bindL kindOf (P.zip vs) m x = some v
  | [], _, _, _, _, h, _, _ => by simp at h
  | _ :: _, [], _, _, _, _, h, _ => by simp at h
  | p :: P, w :: vs, 0, m, nd, h1, h2, hk => by
    simp at h1 h2; subst h1; subst h2
    show bindL kindOf ((p, w) :: P.zip vs) m p = _
    unfold bindL
    rw [bindL_out fun v hv => (List.nodup_cons.mp nd).1 (List.of_mem_zip hv).1, if_pos hk]
    simp
  | p :: P, w :: vs, i + 1, m, nd, h1, h2, hk => by
    show bindL kindOf ((p, w) :: P.zip vs) m x = _
    unfold bindL
    exact bindL_get (i := i) (List.nodup_cons.mp nd).2 (by simpa using h1) (by simpa using h2) hk
theorem bindC_get {kindOf : Str → Option NameKind} {x : Str} {v : Value} : ∀ {P : List Str} {vs : List Value} {i : Nat} {m : Str → Option Value}, P.Nodup → P[i]? = some x → vs[i]? = some v → kindOf x ≠ some .local →
    bindC kindOf (P.zip vs) m x = some v
  | [], _, _, _, _, h, _, _ => by simp at h
  | _ :: _, [], _, _, _, _, h, _ => by simp at h
  | p :: P, w :: vs, 0, m, nd, h1, h2, hk => by
    simp at h1 h2; subst h1; subst h2
    show bindC kindOf ((p, w) :: P.zip vs) m p = _
    unfold bindC
    rw [bindC_out fun v hv => (List.nodup_cons.mp nd).1 (List.of_mem_zip hv).1, if_neg hk]
    simp
  | p :: P, w :: vs, i + 1, m, nd, h1, h2, hk => by
    show bindC kindOf ((p, w) :: P.zip vs) m x = _
    unfold bindC
    exact bindC_get (i := i) (List.nodup_cons.mp nd).2 (by simpa using h1) (by simpa using h2) hk

/-- the names' values at the entry -/
def start (N : List Str) (vs : List V) : St := vs.map some ++ List.replicate (N.length - vs.length) none

/-- the context of a def's body, at its entry; an exception leaves the frame, then lies as CX says -/
def cxOf (CX : CXT) (P : Program) (w : World) (K : PySem.W.Frag) (mg : Str → Option Value) (base : Heap) (N : List Str) (qual : Str) (scope : Scope) (f : Addr) (cd : Value) (A : Around) (outer : List Env) (s : Shared) (H : Hp) (E : XK) : Cx where
  prog := P
  w := w
  K := K
  mg := mg
  base := base
  A := A.deeper (envOfC qual scope s.heap.objs.size f cd)
  N := N
  s₀ := s
  H₀ := H
  env := envOfC qual scope s.heap.objs.size f cd
  outer := outer
  stack := envOfC qual scope s.heap.objs.size f cd :: outer
  ex := []
  calm := true
  fn := fun _ => true
  pn := []
  xe := fun e s' => wpAny (model P w) (A.deeper (envOfC qual scope s.heap.objs.size f cd)) (leaving (envOfC qual scope s.heap.objs.size f cd) e) (fun _ s'' => CX outer H s E e s'') (fun e' s'' => CX outer H s E e' s'') s'

theorem cell_has {sc : Scope} {n : Nat} {x : Str} (h : sc.names.lookup x = some .cell) : ∃ c, (cellsFrom n sc.names []).lookup x = some c := by
  have q := PySem.W.cellsFrom_some sc.names n [] (.inl h)
  exact Option.isSome_iff_exists.mp q

theorem inv_start {CX : CXT} {P : Program} {w : World} {K : PySem.W.Frag} {mg : Str → Option Value} {base : Heap} {N ps : List Str} {qual : Str} {scope : Scope} {f : Addr} {cd : Value} {A : Around} {outer : List Env} {s s1 : Shared} {H : Hp} {E : XK} {us : List Value} {vs : List V}
    (S : FnScope N ps scope) (hd : A.handled = none) (e0 : Env0 P w K mg base A outer s H) (hl : vs.length = ps.length) (r : Vals vs us)
    (x : InCallC s s.heap.objs.size (bindL (envOfC qual scope s.heap.objs.size f cd).kindOf (ps.zip us) fun _ => none) (cellsFrom (s.heap.objs.size + 1) scope.names []) (bindC (envOfC qual scope s.heap.objs.size f cd).kindOf (ps.zip us) fun _ => none) s1) :
    Inv (cxOf CX P w K mg base N qual scope f cd A outer s H E) [] (start N vs) H s1 := by
  have hpl : ps.length ≤ N.length := by have := congrArg List.length S.pre; rw [List.length_take] at this; (first | lia | omega)
  obtain ⟨h1, tk, rfl, hk⟩ := x.done
  have noA : ∀ b : Addr, b ∉ (cxOf CX P w K mg base N qual scope f cd A outer s H E).ex := fun b z => absurd (show b ∈ ([] : List Addr) from z) (by simp)
  refine ⟨⟨e0.mod, S.kind, rfl, rfl, Nat.le_refl _, fun y z c h1 h2 => ?_, fun y hy => ?_, fun y c _ h => ?_, fun _ => hd, Around.frames_deeper e0.frames, .inr ⟨rfl, rfl⟩, fun b z => absurd z (noA b), e0.bs, e0.bsz, fun b _ _ => noA b, fun b z => absurd z (noA b), e0.funs, e0.frf⟩,
    rfl, e0.bare, Un.kept hk, ⟨_, x.toInCall.ns, fun i y v h1 h2 h3 => ?_⟩, fun y c h => ⟨_, x.cell y c h⟩, e0.hok.fresh (Nat.le_refl _), fun y c h => ?_, fun p hp => absurd (show p ∈ ([] : List (Addr × Obj)) from hp) (by simp), e0.hok.kept hk, ?_⟩
  · exact name_of_addr x.apart (PySem.mem_of_lookup h1) (PySem.mem_of_lookup h2)
  · have hy : scope.names.lookup y = some .cell ∨ scope.names.lookup y = some .free := hy
    rcases hy with hy | hy
    · exact cell_has hy
    · exact absurd rfl (S.nofree _ (PySem.mem_of_lookup hy))
  · exact Nat.le_of_lt (x.above y c (PySem.mem_of_lookup h))
  · have hi : i < vs.length := by
      unfold start at h2
      by_cases hi : i < vs.length
      · exact hi
      · rw [List.getElem?_append_right (by simpa using hi)] at h2
        rw [List.getElem?_replicate] at h2
        split at h2 <;> cases h2
    have ha : vs[i]? = some v := by
      unfold start at h2
      rw [List.getElem?_append_left (by simpa using hi), List.getElem?_map] at h2
      cases e : vs[i]? with
      | none => rw [e] at h2; cases h2
      | some a => rw [e] at h2; cases h2; rfl
    obtain ⟨u, hu, rv⟩ := r.get ha
    have hp : ps[i]? = some y := by
      rw [← S.pre, List.getElem?_take_of_lt (by (first | lia | omega))]; exact h1
    have ndP : ps.Nodup := by rw [← S.pre]; exact S.nd.sublist (List.take_sublist _ _)
    refine ⟨u, rv, ?_⟩
    rcases S.par y (List.mem_of_getElem? hp) with k | k
    · exact .inl ⟨k, bindL_get ndP hp hu k⟩
    · obtain ⟨c, e⟩ := cell_has (n := s.heap.objs.size + 1) k
      refine .inr ⟨.inl k, c, e, ?_⟩
      have q := x.cell y c e
      rw [bindC_get ndP hp hu (by show scope.names.lookup y ≠ _; rw [k]; decide)] at q
      exact q
  · exact e0.hok.fresh (Nat.le_of_lt (x.above y c (PySem.mem_of_lookup h)))
  · unfold start
    show _ = N.length
    rw [List.length_append, List.length_map, List.length_replicate]
    (first | lia | omega)

/-- THE RULE: a def (or a method) of the text, by its body. The body's reading t is chosen for each entry; it is run at the parameters' values -/
theorem fn_of {CX : CXT} {P : Program} {w : World} {K : PySem.W.Frag} {mg : Str → Option Value} {base : Heap} {k : Nat} {f : Addr} {name qual : Str} {params : Arguments} {body : List Stmt} {scope : Scope} {dV kV doc pm cdv ct oc : Value} {an od : Option Addr}
    {osl : Array (Option Value)} {N ps : List Str} {sp : Sp} (lk : K.lookup f = some ⟨oc, od, .func (PySem.W.fnOf name qual params body scope dV kV doc pm an cdv ct), osl⟩) (hcd : PySem.W.codeIn K cdv qual = true) (S : FnScope N ps scope)
    (len : ∀ vs H Q E, sp vs H Q E → vs.length = ps.length)
    (hbody : ∀ (A : Around) (outer : List Env) (s : Shared) (H : Hp) (vs : List V) (Q : VK) (E : XK), Room k (A.deeper (envOfC qual scope s.heap.objs.size f cdv)) → sp vs H Q E →
      ∃ t, PSs (cxOf CX P w K mg base N qual scope f cdv A outer s H E) body t ∧ t { nx := fun _ H' => Q .non H', rt := Q } (start N vs) H) :
    FnOk P w K mg base CX (k + 1) f (PySem.W.fnOf name qual params body scope dV kV doc pm an cdv ct) ps sp := by
  refine ⟨len, fun A outer s H args us vs Q E hr e0 hb r hsp => ?_⟩
  have hl := len _ _ _ _ hsp
  have KX : K.In s.heap := e0.mod.kin.keeps fun b o e => (e0.bs b o e).1
  have lim : s.heap.NoLimit := e0.mod.nolimit.keeps fun b o e => (e0.bs b o e).1
  have hkind : ∀ y ∈ ps.zip us, scope.names.lookup y.1 = some .local ∨ (scope.names.lookup y.1 = some .cell ∧ ((cellsFrom (s.heap.objs.size + 1) scope.names []).lookup y.1).isSome = true) := fun ⟨n, v⟩ hy => by
    rcases S.par n (List.of_mem_zip hy).1 with q | q
    · exact .inl q
    · exact .inr ⟨q, PySem.W.cellsFrom_some _ _ _ (.inl q)⟩
  refine codeAny_call_function hr.depth (KX _ _ lk) rfl S.co S.gen rfl (PySem.W.codeRec_of KX hcd) (hb _ _ _ _ ?_)
  refine wpAny_newFunctionEnv_cells S.kind hkind fun env he s1 x => ?_
  subst he
  refine ⟨lim.keeps x.toInCall.keep, codeAny_func ?_⟩
  obtain ⟨t, ht, hq⟩ := hbody A outer s H vs Q E (hr.deeper _) hsp
  have I : Inv (cxOf CX P w K mg base N qual scope f cdv A outer s H E) [] (start N vs) H s1 := inv_start S hr.hd e0 hl r x
  refine wpAny_mono (ht [] s1 (start N vs) H _ I hq) (fun fl s' hs => ?_) fun e s' hs => hs
  have fin : ∀ {σ' : St} {H' : Hp} {v : V} {u : Value}, Inv (cxOf CX P w K mg base N qual scope f cdv A outer s H E) [] σ' H' s' → RelV v u → Q v H' → CE outer P w H s Q u s' :=
    fun {σ' H' v u} J rv q => ⟨v, H', J.os, J.bare, J.base, J.hok, rv, q⟩
  cases fl with
  | ret u =>
    obtain ⟨v, σ', H', J, rv, q⟩ := hs
    exact fin J rv q
  | next =>
    obtain ⟨σ', H', J, q⟩ := hs
    exact fin (v := V.non) (u := Value.none) J rfl q
  | brk =>
    obtain ⟨_, _, _, q⟩ := hs
    exact False.elim q
  | cont =>
    obtain ⟨_, _, _, q⟩ := hs
    exact False.elim q
end L2

namespace L2
open PySem PySem.Spec PyProof.Rows
section
variable {X : Cx} {x : Str} {p pos : Pos} {e : Expr} {es : List Expr} {t : TA} {id T : String} {r : List V → Hp → VK → Prop}

def tCB (r : List V → Hp → VK → Prop) (t : TA) : TE := fun σ H Q => t σ H fun vs H1 => r vs H1 Q
/-- f(e, ..), f a built-in function -/
theorem pe_callB (hc : CallR X (.builtin id) r) (hg : Gl X x) (hm : X.mg x = none) (hv : bootBuiltins x = some (.builtin id)) (ha : PA X (e :: es) t) (hn : x ≠ "__name__" := by decide) (hdb : (x == ("__debug__" : Str)) = false := by decide)
    (he : starEach (e :: es) X.env = (false, eval e X.env) :: starEach es X.env := by rfl) (hpl : (backTo pos (starEach es X.env)).any (·.1) = false := by rfl) : PE X (.Call (.Name x p) (e :: es) [] pos) (tCB r t) := by
  intro pins s σ H Q I h
  refine wpAny_Call_Name_kw (ld_blt I hg hm hv ?_ hn hdb)
  exact PyProof.Rows.callWith_builtin1 (thn (ha pos pins s σ H _ I h) fun us s1 ⟨vs, H1, I1, r1, q1⟩ => hc pins s1 σ H1 vs us Q I1 r1 q1) he hpl
/-- T(e, ..), T a built-in type -/
theorem pe_callTy (hc : CallR X (.type T) r) (hg : Gl X x) (hm : X.mg x = none) (hv : bootBuiltins x = some (.type T)) (ha : PA X (e :: es) t) (hn : x ≠ "__name__" := by decide) (hdb : (x == ("__debug__" : Str)) = false := by decide)
    (he : starEach (e :: es) X.env = (false, eval e X.env) :: starEach es X.env := by rfl) (hpl : (backTo pos (starEach es X.env)).any (·.1) = false := by rfl) : PE X (.Call (.Name x p) (e :: es) [] pos) (tCB r t) := by
  intro pins s σ H Q I h
  refine wpAny_Call_Name_kw (ld_blt I hg hm hv ?_ hn hdb)
  exact PyProof.Rows.callWith_type1 (thn (ha pos pins s σ H _ I h) fun us s1 ⟨vs, H1, I1, r1, q1⟩ => hc pins s1 σ H1 vs us Q I1 r1 q1) he hpl
end
end L2

namespace HT
open PySem PyProof.Rows


end HT

namespace L2
open PySem PySem.Spec PyProof.Rows

/-! ### the parts of a slice -/
end L2

namespace L2
open PySem PySem.Spec PyProof.Rows

/-! ### places -/
/-- the place that an index of any sign means -/
def ixN (n : Nat) (i : Int) : Option Nat := if 0 ≤ i then (if i < n then some i.toNat else none) else if -(n : Int) ≤ i then some (i + n).toNat else none
def atI {α : Type} (xs : List α) (i : Int) : Option α := (ixN xs.length i).bind fun j => xs[j]?
theorem ixN_seq {n : Nat} {i : Int} {j : Nat} (h : ixN n i = some j) : seqIndex? i n = some j ∧ j < n ∧ -(n : Int) ≤ i ∧ i < n := by
  unfold ixN at h
  by_cases h0 : 0 ≤ i
  · rw [if_pos h0] at h
    by_cases h1 : i < n
    · rw [if_pos h1] at h
      have e : i.toNat = j := Option.some.inj h
      exact ⟨by rw [seqIndex_of h0 h1, e], by (first | lia | omega), by (first | lia | omega), h1⟩
    · rw [if_neg h1] at h; cases h
  · rw [if_neg h0] at h
    by_cases h1 : -(n : Int) ≤ i
    · rw [if_pos h1] at h
      have e : (i + n).toNat = j := Option.some.inj h
      exact ⟨by rw [seqIndex_neg (by (first | lia | omega)) h1, e], by (first | lia | omega), h1, by (first | lia | omega)⟩
    · rw [if_neg h1] at h; cases h
theorem atI_get {α : Type} {xs : List α} {i : Int} {v : α} (h : atI xs i = some v) : ∃ j, seqIndex? i xs.length = some j ∧ xs[j]? = some v ∧ j < xs.length ∧ -(xs.length : Int) ≤ i ∧ i < xs.length := by
  unfold atI at h
  cases e : ixN xs.length i with
  | none => rw [e] at h; cases h
  | some j =>
    rw [e] at h
    obtain ⟨h1, h2, h3, h4⟩ := ixN_seq e
    exact ⟨j, h1, h, h2, h3, h4⟩
theorem atI_nat {α : Type} {xs : List α} {j : Nat} {v : α} (h : xs[j]? = some v) : atI xs (j : Int) = some v := by
  have hj : j < xs.length := (List.getElem?_eq_some_iff.mp h).1
  have e : ixN xs.length (j : Int) = some j := by
    unfold ixN
    rw [if_pos (by (first | lia | omega)), if_pos (by (first | lia | omega))]; simp
  unfold atI; rw [e]; exact h
theorem atI_last {α : Type} (xs : List α) (v : α) : atI (xs ++ [v]) (-1) = some v := by
  have hl : (xs ++ [v]).length = xs.length + 1 := by simp
  have e : ixN (xs ++ [v]).length (-1) = some xs.length := by
    unfold ixN
    rw [hl, if_neg (by decide), if_pos (by (first | lia | omega))]
    congr 1
    (first | lia | omega)
  unfold atI
  rw [e]
  show (xs ++ [v])[xs.length]? = some v
  simp

/-! ### what may be subscripted -/
/-- what stands as an index of a plain subscript -/
def PlainIx (b : Expr) : Prop := ∀ o i, subscripted b false o i = operate [o, i] (getItem o i)
/-- a subscript by values -/
def IxR (X : Cx) (r : R2) : Prop :=
  ∀ (value slice : Expr) (pins : List (Addr × Obj)) (s : Shared) (σ : St) (H : Hp) (x y : V) (v u : Value) (Q : VK), Inv X pins σ H s → RelV x v → RelV y u → r x y H Q →
    subscripted slice false v u = operate [v, u] (getItem v u) → wpAny (model X.prog X.w) X.A (subscriptTail value slice v u) (EP X pins σ Q) X.xe s
/-- a call of a builtin's method by values: the receiver, the arguments -/
def MtR (X : Cx) (id : String) (r : V → List V → Hp → VK → Prop) : Prop :=
  ∀ (pins : List (Addr × Obj)) (s : Shared) (σ : St) (H : Hp) (x : V) (xs : List V) (v : Value) (us : List Value) (Q : VK), Inv X pins σ H s → RelV x v → Vals xs us → r x xs H Q →
    wpAny (model X.prog X.w) X.A (call (.builtin id) (v :: us)) (EP X pins σ Q) X.xe s
section
variable {X : Cx} {a b : Expr} {ta tb : TE} {pos : Pos}
/-- a[b] -/
theorem pe_ix {r : R2} (hr : IxR X r) (ha : PE X a ta) (hb : PE X b tb) (hs : PlainIx b) : PE X (.Subscript a b pos) (tOp r ta tb) := by
  intro pins s σ H Q I h
  exact Subscript_ (binT ha hb I h fun v u s2 x y H2 I2 rx ry q => hr a b pins s2 σ H2 x y v u Q I2 rx ry q (hs _ _))

def rIxL (K : PySem.W.Frag) : R2 := fun x y H Q => ∃ p xs i v, x = .ref p ∧ y = .int i ∧ SqL K H p xs ∧ atI xs i = some v ∧ Q v H
def rIxT (K : PySem.W.Frag) : R2 := fun x y H Q => ∃ p xs i v, x = .ref p ∧ y = .int i ∧ SqT K H p xs ∧ atI xs i = some v ∧ Q v H
def rIxS : R2 := fun x y H Q => ∃ z i c, x = .str z ∧ y = .int i ∧ z.length ≤ sizeLine ∧ atI z.cps.toList i = some c ∧ Q (.str ⟨#[c]⟩) H
theorem ix_list : IxR X (rIxL X.K) := by
  intro value slice pins s σ H x y v u Q I rx ry h hs
  obtain ⟨p, xs, i, z, rfl, rfl, hq, he, q⟩ := h
  cases rx
  obtain ⟨t, rfl⟩ := ry
  obtain ⟨its, r, pl, hz⟩ := I.list hq
  obtain ⟨j, h1, h2, h3, h4, h5⟩ := atI_get he
  obtain ⟨w, ew, rw'⟩ := r.get h2
  have hl := r.length
  have hn := line63
  have fin : EP X pins σ Q w s := ⟨z, H, I, rw', q⟩
  by_cases h0 : 0 ≤ i
  · have hj : i.toNat = j := by
      rw [seqIndex_of h0 h5] at h1
      exact Option.some.inj h1
    exact item_listR pl.isList h0 (by (first | lia | omega)) (by rw [hj]; simpa using ew) fin hs
  · have hj : (i + (its.toArray.size : Int)).toNat = j := by
      rw [seqIndex_neg (by (first | lia | omega)) h4] at h1
      rw [List.size_toArray, ← hl]
      exact Option.some.inj h1
    exact subscriptTail_builtinR (x := w) pl.isList.typeIs slot_list_getitem.lookup
      (wpAny_getItem_list_neg (Q := fun r s' => r = w ∧ EP X pins σ Q r s') pl.isList (by (first | lia | omega)) (by rw [List.size_toArray] <;> (first | lia | omega)) (by (first | lia | omega)) (by rw [hj]; simpa using ew) ⟨rfl, fin⟩) hs
theorem ix_tup : IxR X (rIxT X.K) := by
  intro value slice pins s σ H x y v u Q I rx ry h hs
  obtain ⟨p, xs, i, z, rfl, rfl, hq, he, q⟩ := h
  cases rx
  obtain ⟨t, rfl⟩ := ry
  obtain ⟨its, r, pl, hz⟩ := I.tuple hq
  obtain ⟨j, h1, h2, h3, h4, h5⟩ := atI_get he
  obtain ⟨w, ew, rw'⟩ := r.get h2
  have hl := r.length
  have hn := line63
  have fin : EP X pins σ Q w s := ⟨z, H, I, rw', q⟩
  exact subscriptTail_builtinR (x := w) pl.typeIs slot_tuple_getitem.lookup
    (getItem_tuple (j := j) (Q := fun r s' => r = w ∧ EP X pins σ Q r s') pl (by (first | lia | omega)) (by (first | lia | omega)) (by rw [List.size_toArray, ← hl]; exact h1) (by simpa using ew) ⟨rfl, fin⟩) hs
theorem ix_str : IxR X rIxS := by
  intro value slice pins s σ H x y v u Q I rx ry h hs
  obtain ⟨z, i, c, rfl, rfl, hz, he, q⟩ := h
  obtain ⟨t, rfl⟩ := rx
  obtain ⟨t', rfl⟩ := ry
  obtain ⟨j, h1, h2, h3, h4, h5⟩ := atI_get he
  have hl : z.cps.toList.length = z.length := by simp [Str.length]
  rw [hl] at h1 h4 h5
  have hn := line63
  exact tail_any (typeIs_str s z t) slot_str_getitem.lookup (getItem_str (c := c) (by
    have e1 : decide (i < -(2 ^ 63 : Int)) = false := decide_eq_false (by (first | lia | omega))
    have e2 : decide (i ≥ 2 ^ 63) = false := decide_eq_false (by (first | lia | omega))
    rw [e1, e2, Bool.or_false]) (by rw [h1]; simpa using h2) ⟨.str ⟨#[c]⟩, H, I.tok _, ⟨_, rfl⟩, q⟩) hs
/-! ### xs[i] = v, any sign -/
/-- the list's object behind a store -/
theorem mapSeq_set (its : List Value) (n j : Nat) (u : Value) : Obj.mapSeq (·.setIfInBounds j u) { cls := .type "list", data := .seq its.toArray n } = { cls := .type "list", data := .seq (its.set j u).toArray n } := by
  simp [Obj.mapSeq]
theorem Inv.lst {pins : List (Addr × Obj)} {σ : St} {H : Hp} {s : Shared} {p : Addr} {xs : List V} (I : Inv X pins σ H s) (h : H p = some (.lst xs)) :
    ∃ (its : List Value) (n : Nat), Vals xs its ∧ s.heap.get? p = some { cls := .type "list", data := .seq its.toArray n } ∧ xs.length ≤ sizeLine := by
  obtain ⟨z, its, n, r, e⟩ := I.hok p _ h
  exact ⟨its, n, r, e, z⟩
/-- the list at p is written by an update of its object -/
theorem Inv.lstUpd {pins : List (Addr × Obj)} {σ : St} {H : Hp} {s : Shared} {p : Addr} {xs ys : List V} {its its' : List Value} {n n' : Nat} {f : Obj → Obj} (I : Inv X pins σ H s) (h : H p = some (.lst xs))
    (ho : s.heap.get? p = some { cls := .type "list", data := .seq its.toArray n }) (hf : f { cls := .type "list", data := .seq its.toArray n } = { cls := .type "list", data := .seq its'.toArray n' }) (r : Vals ys its') (hz : ys.length ≤ sizeLine) (t : Nat) :
    Inv X pins σ (upd H p (.lst ys)) { s with heap := s.heap.update p f, toks := t } := by
  have e : (s.heap.update p f).get? p = some { cls := .type "list", data := .seq its'.toArray n' } := by
    rw [Heap.get?_update_self f ho (by rw [hf] <;> rfl), hf]
  refine I.write (x := p) (e := p) (by rw [h]; trivial) (.inl rfl) (fun b u hb q => (Heap.get?_update_other _ _ (Ne.symm hb)).trans q) ⟨_, e⟩ ?_
  exact ⟨hz, its', n', r, e⟩
def rSetL : V → V → V → Hp → (Hp → Prop) → Prop := fun o i v H Q => ∃ p xs k j, o = .ref p ∧ i = .int k ∧ H p = some (.lst xs) ∧ ixN xs.length k = some j ∧ Q (upd H p (.lst (xs.set j v)))
theorem set_list : PSet X rSetL := by
  intro pins s σ H o i v ov iv u Q I ro ri rv h
  obtain ⟨p, xs, k, j, rfl, rfl, hp, hj, q⟩ := h
  cases ro
  obtain ⟨t, rfl⟩ := ri
  obtain ⟨its, n, r, ho, hz⟩ := I.lst hp
  obtain ⟨h1, h2, h3, h4⟩ := ixN_seq hj
  have hl := r.length
  have hn := line63
  have I' : Inv X pins σ (upd H p (.lst (xs.set j v))) { s with heap := s.heap.update p (Obj.mapSeq (·.setIfInBounds j u)) } :=
    I.lstUpd hp ho (mapSeq_set its n j u) (r.set rv j) (by rw [List.length_set]; exact hz) s.toks
  by_cases h0 : 0 ≤ k
  · have hk : k.toNat = j := by
      rw [seqIndex_of h0 h4] at h1
      exact Option.some.inj h1
    exact PySem.W.ki_setAt ho h0 (by (first | lia | omega)) (by rw [List.size_toArray, ← hl]; exact h4) (by rw [hk]; exact ⟨_, I', q⟩)
  · have hk : (k + (its.toArray.size : Int)).toNat = j := by
      rw [seqIndex_neg (by (first | lia | omega)) h3] at h1
      rw [List.size_toArray, ← hl]
      exact Option.some.inj h1
    exact PySem.W.ki_setBack ho (by (first | lia | omega)) (by rw [List.size_toArray, ← hl]; exact h3) (by (first | lia | omega)) (by rw [hk]; exact ⟨_, I', q⟩)

/-! ### slices -/
/-! ### in, not in: flat items -/
/-! ### len, list(x), tuple(x) of any list or tuple that is read -/
theorem call_len_seq : CallR X (.builtin "len") (fun xs H Q => ∃ p ys, xs = [.ref p] ∧ (SqL X.K H p ys ∨ SqT X.K H p ys) ∧ Q (.int ys.length) H) := by
  intro pins s σ H xs us Q I r h
  obtain ⟨p, ys, rfl, hq, q⟩ := h
  obtain ⟨u, rfl, rx⟩ := vals1 r
  cases rx
  have hn := line63
  rcases hq with hq | hq
  · obtain ⟨its, r', pl, hz⟩ := I.list hq
    have hlen := r'.length
    exact Calls.call_len_list pl.isList (by simp only [List.size_toArray] <;> (first | lia | omega)) ⟨.int ys.length, H, I.tok _, ⟨s.toks + 1, by rw [List.size_toArray, hlen]⟩, q⟩
  · obtain ⟨its, r', pl, hz⟩ := I.tuple hq
    have hlen := r'.length
    exact len_tuple pl (by simp only [List.size_toArray] <;> (first | lia | omega)) ⟨.int ys.length, H, I.tok _, ⟨s.toks + 1, by rw [List.size_toArray, hlen]⟩, q⟩
theorem call_list_of : CallR X (.type "list") (fun xs H Q => ∃ p ys, xs = [.ref p] ∧ (SqL X.K H p ys ∨ SqT X.K H p ys) ∧ ∀ l, H l = none → Q (.ref l) (upd H l (.lst ys))) := by
  intro pins s σ H xs us Q I r h
  obtain ⟨p, ys, rfl, hq, q⟩ := h
  obtain ⟨u, rfl, rx⟩ := vals1 r
  cases rx
  have fin : ∀ (its : List Value), Vals ys its → ys.length ≤ sizeLine → ∀ (h' : Heap) (c' : Nat), (∀ b o', s.heap.get? b = some o' → h'.get? b = some o') →
      h'.get? s.heap.objs.size = some { cls := .type "list", dict := none, data := .seq its.toArray c', slots := #[] } → EP X pins σ Q (.ref s.heap.objs.size) { s with heap := h' } := fun its r' hz h' c' kp e =>
    ⟨.ref s.heap.objs.size, _, I.laid (t' := s.toks) kp (Nat.le_refl _) (show ObjOk X.prog X.w _ h' _ (.lst ys) from ⟨hz, its, c', r', e⟩), rfl, q _ (I.hok.fresh (Nat.le_refl _))⟩
  rcases hq with hq | hq
  · obtain ⟨its, r', pl, hz⟩ := I.list hq
    have hlen := r'.length
    obtain ⟨o, ho, hc, n, hd⟩ := pl.isList
    exact call_list_seq p (.inl rfl) ho hc hd (fun h' c' kp e => fin its r' hz h' c' kp e) (by simp only [List.size_toArray] <;> (first | lia | omega))
  · obtain ⟨its, r', pl, hz⟩ := I.tuple hq
    have hlen := r'.length
    obtain ⟨o, ho, hc, n, hd⟩ := pl
    exact call_list_seq p (.inr rfl) ho hc hd (fun h' c' kp e => fin its r' hz h' c' kp e) (by simp only [List.size_toArray] <;> (first | lia | omega))
theorem call_tuple_of : CallR X (.type "tuple") (fun xs H Q => ∃ p ys, xs = [.ref p] ∧ ((SqL X.K H p ys ∧ ∀ l, H l = none → Q (.ref l) (upd H l (.tup ys))) ∨ (SqT X.K H p ys ∧ Q (.ref p) H))) := by
  intro pins s σ H xs us Q I r h
  obtain ⟨p, ys, rfl, h⟩ := h
  obtain ⟨u, rfl, rx⟩ := vals1 r
  cases rx
  rcases h with ⟨hq, q⟩ | ⟨hq, q⟩
  · obtain ⟨its, r', pl, hz⟩ := I.list hq
    have hlen := r'.length
    refine call_tuple_list pl.isList (fun h' kp => ?_) (by simp only [List.size_toArray] <;> (first | lia | omega))
    have I1 : Inv X pins σ H { s with heap := h' } := I.kept (t' := s.toks) kp
    have I2 : Inv X pins σ (upd H h'.objs.size (.tup ys)) { s with heap := h'.push { cls := .type "tuple", data := .seq its.toArray } } :=
      I1.laid (t' := s.toks) (fun b o e => Heap.get?_push_of_some _ e) (Nat.le_refl _) (show ObjOk X.prog X.w _ _ _ (.tup ys) from ⟨hz, its, r', IsTup.new _ _⟩)
    exact ⟨.ref h'.objs.size, _, I2, rfl, q _ (I1.hok.fresh (Nat.le_refl _))⟩
  · obtain ⟨its, r', pl, hz⟩ := I.tuple hq
    exact call_tuple_same pl ⟨.ref p, H, I, rfl, q⟩

/-! ### the call of a builtin's method: o.m(..) -/
/-- the value is of that builtin type -/
def tyV (K : PySem.W.Frag) (T : String) (x : V) (H : Hp) : Prop := match x with
  | .str _ => T = "str"
  | .int _ => T = "int"
  | .ref p => (T = "list" ∧ ∃ xs, SqL K H p xs) ∨ (T = "tuple" ∧ ∃ o, K.lookup p = some o ∧ o.cls = .type "tuple" ∧ o.dict = none) ∨
      (T = "dict" ∧ ((∃ kvs, H p = some (.dK kvs)) ∨ ∃ kvs, H p = some (.dT kvs))) ∨ (T = "set" ∧ ∃ S n, H p = some (.set S n))
  | _ => False
theorem tyV_is {pins : List (Addr × Obj)} {σ : St} {H : Hp} {s : Shared} {T : String} {x : V} {v : Value} (I : Inv X pins σ H s) (r : RelV x v) (ty : tyV X.K T x H) :
    s.TypeIs v T ∧ ∀ a, v = .ref a → ∃ ob, s.heap.get? a = some ob ∧ ob.dict = none := by
  cases x with
  | str z =>
    obtain ⟨t, rfl⟩ := r
    cases (show T = "str" from ty)
    exact ⟨typeIs_str s z t, fun _ e => nomatch e⟩
  | int i =>
    obtain ⟨t, rfl⟩ := r
    cases (show T = "int" from ty)
    exact ⟨typeIs_int s i t, fun _ e => nomatch e⟩
  | ref p =>
    cases r
    rcases ty with ⟨rfl, xs, hq⟩ | ⟨rfl, o, hk, hc, hd⟩ | ⟨rfl, hk⟩ | ⟨rfl, S, n, hk⟩
    · obtain ⟨its, _, pl, _⟩ := I.list hq
      refine ⟨pl.isList.typeIs, fun a e => ?_⟩
      cases e
      obtain ⟨o, n, e, c, hd, _⟩ := pl
      exact ⟨o, e, hd⟩
    · refine ⟨⟨o, I.kIn p o hk, hc⟩, fun a e => ?_⟩
      cases e
      exact ⟨o, I.kIn _ o hk, hd⟩
    · have z : ∃ o, s.heap.get? p = some o ∧ o.ExactDict := by
        rcases hk with ⟨kvs, hk⟩ | ⟨kvs, hk⟩
        · obtain ⟨_, _, _, _, o, _, _, e, ex, _⟩ := I.hok p _ hk
          exact ⟨o, e, ex⟩
        · obtain ⟨_, _, _, _, o, _, _, e, ex, _⟩ := I.hok p _ hk
          exact ⟨o, e, ex⟩
      obtain ⟨o, e, ex⟩ := z
      refine ⟨⟨o, e, ex.1⟩, fun a e2 => ?_⟩
      cases e2
      exact ⟨o, e, ex.2.1⟩
    · obtain ⟨o, _, _, _, e, ex, _⟩ := I.hok p _ hk
      refine ⟨⟨o, e, ex.1⟩, fun a e2 => ?_⟩
      cases e2
      exact ⟨o, e, ex.2.1⟩
  | _ => exact False.elim ty
def tBM0 (K : PySem.W.Frag) (T : String) (r : V → List V → Hp → VK → Prop) (to : TE) : TE := fun σ H Q => to σ H fun x H1 => tyV K T x H1 ∧ r x [] H1 Q
def tBM (K : PySem.W.Frag) (T : String) (r : V → List V → Hp → VK → Prop) (to : TE) (t : TA) : TE := fun σ H Q => to σ H fun x H1 => tyV K T x H1 ∧ t σ H1 fun xs H2 => r x xs H2 Q
variable {o e : Expr} {es : List Expr} {to : TE} {t : TA} {name : Str} {apos cpos : Pos} {T id : String} {r : V → List V → Hp → VK → Prop}
theorem pe_bm0 (pa : PlainAttrs T) (slot : Slot T name id) (hty : typeOf (.builtin id) = pure (.type "method_descriptor")) (hm : MtR X id r) (ho : PE X o to)
    (hbase : attributeBase o name X.env (eval o X.env) = eval o X.env := by rfl) (hline : (apos.endLine == cpos.line) = true := by rfl) : PE X (.Call (.Attribute o name apos) [] [] cpos) (tBM0 X.K T r to) := by
  intro pins s σ H Q I h
  refine wpAny_Call_method0_late hbase hline (thn (ho pins s σ H _ I h) fun v s1 ⟨x, H1, I1, r1, ty, q1⟩ => ?_)
  obtain ⟨h1, h2⟩ := tyV_is I1 r1 ty
  exact ⟨T, id, pa, slot, hty, h1, h2, Calls.callWith_builtin rfl (PySem.evalArgs_none (hm pins s1 σ H1 x [] v [] Q I1 r1 .nil q1))⟩
theorem pe_bm (pa : PlainAttrs T) (slot : Slot T name id) (hty : typeOf (.builtin id) = pure (.type "method_descriptor")) (hm : MtR X id r) (ho : PE X o to) (ha : PA X (e :: es) t)
    (hbase : attributeBase o name X.env (eval o X.env) = eval o X.env := by rfl)
    (hfew : ((backTo cpos (starEach (e :: es) X.env)).all (fun x => !x.1) && (backToKw cpos (keywordEach [] X.env)).all (fun x => x.1.isSome)
      && decide ((e :: es).length + ([] : List Keyword).length + (if ([] : List Keyword).isEmpty then 0 else 1) < 30)) = true := by rfl)
    (hline : (apos.endLine == cpos.line) = true := by rfl) (hs : starEach (e :: es) X.env = (false, eval e X.env) :: starEach es X.env := by rfl) (hplain : (backTo cpos (starEach es X.env)).any (·.1) = false := by rfl) :
    PE X (.Call (.Attribute o name apos) (e :: es) [] cpos) (tBM X.K T r to t) := by
  intro pins s σ H Q I h
  refine wpAny_Call_method_late hbase hfew hline rfl (thn (ho pins s σ H _ I h) fun v s1 ⟨x, H1, I1, r1, ty, q1⟩ => ?_)
  obtain ⟨h1, h2⟩ := tyV_is I1 r1 ty
  refine ⟨T, id, pa, slot, hty, h1, h2, ?_⟩
  have hA := ha cpos pins s1 σ H1 _ I1 q1
  rw [hs] at hA ⊢
  refine Calls.callWith_builtin (by show (false || (backTo cpos (starEach es X.env)).any (·.1)) = false; rw [hplain] <;> rfl) (Calls.evalArgs_plain ?_)
  exact thn hA fun us s2 ⟨vs, H2, I2, r2, q2⟩ => hm pins s2 σ H2 x vs v us Q I2 r1 r2 q2
/- xs.append(e), list.index on a module's tuple .. are MtR facts of 06m -/
end
end L2

namespace L2
open PySem PySem.Spec PyProof.Rows

def MtM (X : Cx) (id : String) (r : V → List V → Hp → VK → Prop) : Prop :=
  ∀ (pins : List (Addr × Obj)) (s : Shared) (σ : St) (H : Hp) (x : V) (xs : List V) (v : Value) (us : List Value) (Q : VK), Inv X pins σ H s → RelV x v → Vals xs us → r x xs H Q →
    wpAny (model X.prog X.w) X.A (call (.builtin id) (v :: us)) (EP X pins σ Q) X.xe s

/-! ### lists of values -/
theorem Vals.one : ∀ {x : V} {us : List Value}, Vals [x] us → ∃ u, us = [u] ∧ RelV x u
  | _, _, .cons r .nil => ⟨_, rfl, r⟩
theorem Vals.two : ∀ {x y : V} {us : List Value}, Vals [x, y] us → ∃ u v, us = [u, v] ∧ RelV x u ∧ RelV y v
  | _, _, _, .cons r (.cons q .nil) => ⟨_, _, rfl, r, q⟩
theorem Vals.zero : ∀ {us : List Value}, Vals [] us → us = []
  | _, .nil => rfl
theorem Vals.dropLast {xs : List V} {us : List Value} (h : Vals xs us) : Vals xs.dropLast us.dropLast := by
  induction h with
  | nil => exact .nil
  | cons r t ih =>
    cases t with
    | nil => exact .nil
    | cons q t' => exact .cons r ih
theorem erase_last {α : Type} (l : List α) : l.eraseIdx (l.length - 1) = l.dropLast := by
  induction l with
  | nil => rfl
  | cons a r ih =>
    cases r with
    | nil => rfl
    | cons b r =>
      have e : (a :: b :: r).length - 1 = ((b :: r).length - 1) + 1 := by
        have h1 : (a :: b :: r).length = r.length + 2 := rfl
        have h2 : (b :: r).length = r.length + 1 := rfl
        (first | lia | omega)
      rw [e, List.eraseIdx_cons_succ, ih]
      all_goals rfl
section
variable {X : Cx} {pins : List (Addr × Obj)} {σ : St} {H : Hp} {s : Shared} {l b : Addr} {xs ys zs : List V}

/-! ### the two steps: a tracked list is rewritten, a new list is laid -/
theorem Inv.lset {its its' : List Value} {n : Nat} {f : Array Value → Array Value} {t' : Nat} (I : Inv X pins σ H s) (hH : H l = some (.lst xs))
    (e : s.heap.get? l = some { cls := .type "list", data := .seq its.toArray n }) (hf : f its.toArray = its'.toArray) (hv : Vals ys its') (hz : ys.length ≤ sizeLine) :
    Inv X pins σ (upd H l (.lst ys)) { s with heap := s.heap.update l (Obj.mapSeq f), toks := t' } := by
  have q := PySem.IsL.update e f
  rw [hf] at q
  refine I.write (x := l) (e := l) (by rw [hH]; exact trivial) (.inl rfl) (fun b' u hb hu => (Heap.get?_update_other s.heap (Obj.mapSeq f) (Ne.symm hb)).trans hu) ⟨_, q⟩ ?_
  exact ⟨hz, its', _, hv, q⟩
theorem Inv.lnew {its : List Value} {t' : Nat} (I : Inv X pins σ H s) (hv : Vals ys its) (hz : ys.length ≤ sizeLine) :
    Inv X pins σ (upd H s.heap.objs.size (.lst ys)) { s with heap := s.heap.push { cls := .type "list", data := .seq its.toArray }, toks := t' } :=
  I.laid (fun _ _ q => Heap.get?_push_of_some _ q) (Nat.le_refl _) ⟨hz, its, 0, hv, Heap.get?_push_size _ rfl⟩
theorem Inv.fresh (I : Inv X pins σ H s) : H s.heap.objs.size = none := I.hok.fresh (Nat.le_refl _)
theorem Inv.lstM (I : Inv X pins σ H s) (hH : H l = some (.lst xs)) : xs.length ≤ sizeLine ∧ ∃ (its : List Value) (n : Nat), Vals xs its ∧ xs.length = its.length ∧ s.heap.get? l = some { cls := .type "list", data := .seq its.toArray n } := by
  obtain ⟨z, its, n, r, e⟩ := I.hok l _ hH
  exact ⟨z, its, n, r, r.length, e⟩

theorem notLongL {n : Nat} (h : n ≤ sizeLine) : Builtin.List.listTooLong n = false := by
  unfold Builtin.List.listTooLong
  exact decide_eq_false (by (first | lia | omega))
end

section
variable {X : Cx}

/-! ### methods -/
def rAppend : V → List V → Hp → VK → Prop := fun x vs H Q => ∃ l xs y, x = .ref l ∧ vs = [y] ∧ H l = some (.lst xs) ∧ xs.length < sizeLine ∧ Q .non (upd H l (.lst (xs ++ [y])))
theorem mt_append : MtM X "list.append" rAppend := by
  intro pins s σ H x vs v us Q I rx rv h
  obtain ⟨l, xs, y, rfl, rfl, hH, hz, q⟩ := h
  cases rx
  obtain ⟨u, rfl, ru⟩ := rv.one
  obtain ⟨z, its, n, r, hl, e⟩ := I.lstM hH
  refine call_meets F.slot_list_append ⟨_, e, rfl⟩ F.entry_list_append (F.args_list_append_2 _ _) (PySem.list_append l its.toArray n u (by rw [List.size_toArray]; (first | lia | omega))) ⟨e, ?_⟩
  refine ⟨.non, _, I.lset (its' := its ++ [u]) hH e (by simp) (r.append (.cons ru .nil)) ?_, rfl, q⟩
  rw [List.length_append, List.length_singleton]
  (first | lia | omega)

def rExtend : V → List V → Hp → VK → Prop := fun x vs H Q => ∃ l b xs zs, x = .ref l ∧ vs = [.ref b] ∧ H l = some (.lst xs) ∧ H b = some (.lst zs) ∧ xs.length + zs.length ≤ sizeLine ∧ Q .non (upd H l (.lst (xs ++ zs)))
theorem mt_extend : MtM X "list.extend" rExtend := by
  intro pins s σ H x vs v us Q I rx rv h
  obtain ⟨l, b, xs, zs, rfl, rfl, hH, hB, hz, q⟩ := h
  cases rx
  obtain ⟨u, rfl, ru⟩ := rv.one
  cases ru
  obtain ⟨z, its, n, r, hl, e⟩ := I.lstM hH
  obtain ⟨z2, its2, n2, r2, hl2, e2⟩ := I.lstM hB
  have hsz : its.toArray.size + its2.toArray.size ≤ sizeLine := by rw [List.size_toArray, List.size_toArray]; (first | lia | omega)
  have hlong : ¬ (!its.toArray.isEmpty && Builtin.List.listTooLong (its.toArray.size + its2.toArray.size)) = true := by
    rw [notLongL hsz, Bool.and_false]
    exact Bool.false_ne_true
  refine call_meets F.slot_list_extend ⟨_, e, rfl⟩ F.entry_list_extend (F.args_list_extend_2 _ _)
    (AutoSeq1.list_extend_list_list_0 l its.toArray n b its2.toArray n2 hlong (by rw [List.size_toArray]; (first | lia | omega)) (by (first | lia | omega))) ⟨e, e2, ?_⟩
  refine ⟨.non, _, I.lset (its' := its ++ its2) hH e (by simp) (r.append r2) ?_, rfl, q⟩
  rw [List.length_append]
  (first | lia | omega)

def rPop : V → List V → Hp → VK → Prop := fun x vs H Q => ∃ l xs y, x = .ref l ∧ vs = [] ∧ H l = some (.lst xs) ∧ xs[xs.length - 1]? = some y ∧ Q y (upd H l (.lst xs.dropLast))
theorem mt_pop : MtM X "list.pop" rPop := by
  intro pins s σ H x vs v us Q I rx rv h
  obtain ⟨l, xs, y, rfl, rfl, hH, hy, q⟩ := h
  cases rx
  have hus := rv.zero
  subst hus
  obtain ⟨z, its, n, r, hl, e⟩ := I.lstM hH
  obtain ⟨u, hu, ru⟩ := r.get hy
  have hy' : its.toArray[its.toArray.size - 1]? = some u := by
    show its.toArray[its.length - 1]? = some u
    rw [← Array.getElem?_toList, ← hl]
    exact hu
  refine call_meets F.slot_list_pop ⟨_, e, rfl⟩ F.entry_list_pop (F.args_list_pop_1 _) (MeetsSeq.list_pop_last l its.toArray n u hy' (by rw [List.size_toArray]; (first | lia | omega))) ⟨e, ?_⟩
  refine ⟨y, _, I.lset (its' := its.dropLast) hH e ?_ r.dropLast ?_, ru, q⟩
  · show its.toArray.eraseIdxIfInBounds (its.toArray.size - 1) = its.dropLast.toArray
    rw [List.size_toArray, List.eraseIdxIfInBounds_toArray, erase_last]
  · rw [List.length_dropLast]
    (first | lia | omega)

/-! ### list + list, list += list, list * int -/
/-! ### del xs[i] -/
end

/-! ### xs[a:b] = ys -/

end L2

namespace Att
open PySem PySem.W PySem.Calls PyProof.Rows

/-! ### the script -/
theorem ints_of_wellAll {P : Params} {h : Heap} : ∀ (ns : List Int) (vs : List Value), WellAll P h vs (ns.map WData.int) → IntsAre vs ns := by
  intro ns
  induction ns with
  | nil =>
    intro vs w
    rw [List.map_nil] at w
    cases w
    exact .nil
  | cons n ns ih =>
    intro vs w
    rw [List.map_cons] at w
    cases w with
    | cons a b =>
      cases a
      exact .cons _ _ (ih _ b)

theorem script_of {l : OpenLaw} {n : Nat} (hn : l.most = some n) {P : Params} {h : Heap} {args : List WData} {vals : List Value}
    (hpre : l.row.toRowW.claim.pre args = true) (hwl : WellAll P h vals args) :
    ∃ a vs ns, vals = [Value.ref a] ∧ args = [WData.list (ns.map WData.int)] ∧ h.get? a = some { cls := .type "list", data := .seq vs.toArray } ∧ IntsAre vs ns ∧ ns.length ≤ n := by
  have hsh : WShape.hasAll [] args [.list .int] = true := (pre_splitW hpre).1
  have hc : l.pre.holds [] { args := args } = true := (pre_splitW hpre).2
  obtain ⟨d, r, rfl, h1, h2⟩ := hasAllW_cons hsh
  obtain rfl := hasAllW_nil h2
  obtain ⟨xs, rfl, h3⟩ := hasW_list h1
  obtain ⟨ns, rfl⟩ := items_int h3
  have hlen : ns.length ≤ n := by
    unfold OpenLaw.pre at hc
    have h4 : (WTm.not (.lt (.lit (.int (n : Int))) (.len (.arg 0)))).holds [] { args := [.list (ns.map .int)] } = true := by
      have h4 := (holds_andW hc).1
      rw [hn] at h4
      exact h4
    have h5 := condW_of h4 (w_not (w_lt w_lit (w_len_list (w_arg rfl))))
    rw [List.length_map] at h5
    refine Nat.le_of_not_lt fun q => ?_
    have q' : (n : Int) < ((ns.length : Nat) : Int) := by (first | lia | omega)
    first
      | (rw [decide_eq_true q'] at h5; exact absurd h5 (by decide))
      | (simp at h5; (first | lia | omega))
  cases hwl with
  | cons w1 w2 =>
    cases w2
    cases w1 with
    | list ho hall => exact ⟨_, _, ns, rfl, rfl, ho, ints_of_wellAll ns _ hall, hlen⟩

theorem post_true (l : OpenLaw) (args : List WData) : l.row.toRowW.claim.post args (.bool true) args = true :=
  postW_of (r := l.row.toRowW) (X := (true == true))
    (show WShape.has [] (.bool true) .bool = true by first | rfl | decide | simp [WShape.has, WShape.arms, WShape.armsAll])
    (show (WTm.eq .res (.lit (.bool true))).value [] { args := args, res := some (.bool true), after := args } = some (.bool (true == true)) from w_eq_bool (w_res rfl) w_lit) rfl

/-! ### the attachment: holds_open's last premise (the goal 'hc' behind k_head) from a wpAny of the law's body -/
/-- the same from a codeAny of the CALL (for a layer whose function contracts speak of calls) -/
theorem attach_call {l : OpenLaw} {n : Nat} {q : Program} {loose : List Str} {XP : (Str → Option Value) → Heap → Prop} {YP : World → Heap → Prop} {d : DefRec}
    (hn : l.most = some n) (hdf : d.params.defaults = [])
    (call : ∀ (w : World) (s₀ s₁ : Shared) (mg mb : Str → Option Value) (fa : Addr) (o : Obj) (pm cd doc : Value) (a : Addr) (vs : List Value) (ns : List Int),
      Ground q loose [] XP w s₀ mg mb s₁.heap → YP w s₁.heap →
      s₁.heap.get? fa = some o → o.data = .func (docDef d.name d.params d.body d.scope pm cd doc) → s₁.heap.CodeRec cd d.name → mg d.name = some (.ref fa) →
      s₁.heap.get? a = some { cls := .type "list", data := .seq vs.toArray } → IntsAre vs ns → ns.length ≤ n → s₁.gens = #[] →
      codeAny (model l.prog w) callerA (.call (.ref fa) ⟨[.ref a], []⟩) (fun r s' => r = .ok (.ret (.bool true)) ∧ OldK s₁.heap s'.heap ∧ s'.os = s₁.os ∧ AllBare s'.gens) s₁) :
    WalkO q loose XP YP l.row.toRowW d [] (fun f vs => PySem.call f vs) := by
  intro w s₀ s₁ mg mb G Y fa o pm cd doc dV kV ho hd hcd hD hmg hg args vals as hpre hlay hrd hwl hlo
  obtain rfl : dV = .none := Dflts.none hD hdf
  obtain rfl : kV = .none := Dflts.noKw hD
  obtain ⟨a, vs, ns, rfl, rfl, hobj, hints, hlen⟩ := script_of hn hpre hwl
  refine enter_call (codeAny_mono (call w s₀ s₁ mg mb fa o pm cd doc a vs ns G Y ho (fd_plain hd) hcd hmg hobj hints hlen hg) fun r s' hq => ?_)
  obtain ⟨rfl, h2, h3, h4⟩ := hq
  exact ⟨.inl ⟨.bool true, .bool true, [], rfl, fun _ => rfl, .bool true, post_true l _, fun _ => ⟨List.Pairwise.nil, fun _ hm => (nomatch hm)⟩⟩, h2, h3, h4⟩

/-! ### rules over ANY heap (no ledger) from facts about the written part K: the library's own take a ledger (News) for what they write -/
end Att

namespace L2
open PySem PySem.Spec PyProof.Rows

theorem vals_ints : ∀ {vs : List Value} {ns : List Int}, IntsAre vs ns → Vals (ns.map V.int) vs
  | _, _, .nil => .nil
  | _, _, .cons n t h => .cons ⟨t, rfl⟩ (vals_ints h)

/-- nothing is tracked but the script, known to the object (or it is an object of the module) -/
def Only (H : Hp) : Prop := ∀ b, H b = none ∨ ∃ o xs, H b = some (.frz o (.lst xs))

/-- THE HEAD: the law's promise, at the heap behind the top. F, the promise of the law's def, may use that base is part of the heap (so K.In base, base.Ns mainGlobals mg stand in Mod) -/
theorem law_call {P : Program} {w : World} {K : PySem.W.Frag} {mg mb : Str → Option Value} {CX : CXT} {k : Nat} {fa a : Addr} {fd : FuncData} {x : Str} {sp : Sp} {s₁ : Shared} {vs : List Value} {ns : List Int}
    (KX : K.In s₁.heap) (hns : s₁.heap.Ns mainGlobals mg) (hb : s₁.heap.Ns builtinsNs mb) (hbb : ∀ x : Str, x ≠ "__name__" → mb x = bootBuiltins x) (hlim : s₁.heap.NoLimit) (hg : s₁.gens = #[])
    (ha : s₁.heap.get? a = some { cls := .type "list", data := .seq vs.toArray }) (hi : IntsAre vs ns) (hl : ns.length ≤ sizeLine) (hr : Room k callerA)
    (F : ∀ base : Heap, K.In base → base.Ns mainGlobals mg → FnOk P w K mg base CX k fa fd [x] sp) (hbind : ∀ (s : Shared) (u : Value), BindsTo s fd ⟨[u], []⟩ [(x, u)])
    (hsp : ∀ H : Hp, Only H → SqL K H a (ns.map V.int) → sp [.ref a] H (fun v _ => v = .bl true) fun _ _ _ => False)
    (hCX : ∀ H e s', CX [] H s₁ (fun _ _ _ => False) e s' → False) :
    codeAny (model P w) callerA (.call (.ref fa) ⟨[.ref a], []⟩) (fun r s' => r = .ok (.ret (.bool true)) ∧ OldK s₁.heap s'.heap ∧ s'.os = s₁.os ∧ AllBare s'.gens) s₁ := by
  have rv := vals_ints hi
  have lenV := hi.length
  -- from an abstract heap in which nothing but the script may be tracked
  have core : ∀ H : Hp, Only H → SqL K H a (ns.map V.int) → HOk P w H s₁.heap → (∀ b, H b ≠ none → b = a) → (H a ≠ none → K.lookup a = none) →
      codeAny (model P w) callerA (.call (.ref fa) ⟨[.ref a], []⟩) (fun r s' => r = .ok (.ret (.bool true)) ∧ OldK s₁.heap s'.heap ∧ s'.os = s₁.os ∧ AllBare s'.gens) s₁ := by
    intro H hO hS hok hA hK
    have base_of : ∀ {b : Addr} {o : Obj}, s₁.heap.get? b = some o → H b = none → (hidT s₁.heap H).get? b = some o := fun e n => hidT_get e n
    have noA : ∀ {b : Addr} {o : Obj} {es : Array DictEntry} {ep : Nat}, s₁.heap.get? b = some o → o.data = .dict es ep → H b = none := fun {b o es ep} e d => by
      cases q : H b with
      | none => rfl
      | some u =>
        have e' : b = a := hA b (by rw [q]; simp)
        subst e'
        rw [ha] at e; cases e
        have d' : Data.seq vs.toArray _ = Data.dict es ep := d
        cases d'
    have nsK : ∀ {b : Addr} {m : Str → Option Value}, s₁.heap.Ns b m → (hidT s₁.heap H).Ns b m := fun {b m} ⟨o, es, ep, e, d, r⟩ => ⟨o, es, ep, base_of e (noA e d), d, r⟩
    have hKb : K.In (hidT s₁.heap H) := fun b o e => base_of (KX b o e) (by
      cases q : H b with
      | none => rfl
      | some u =>
        have e' : b = a := hA b (by rw [q]; simp)
        subst e'
        rw [hK (by rw [q]; simp)] at e; cases e)
    have hM : Mod K mg (hidT s₁.heap H) := ⟨hKb, nsK hns, ⟨mb, nsK hb, hbb⟩, let ⟨mc, h1, h2⟩ := hlim; ⟨mc, nsK h1, h2⟩⟩
    have e0 : Env0 P w K mg (hidT s₁.heap H) callerA [] s₁ H := ⟨rfl, hM, fun b o e => of_hidT e, Nat.le_of_eq (hidT_size _ _), trivial, fun b hb => absurd (show b ∈ ([] : List Addr) from hb) (by simp), hok, .of_eq hg⟩
    refine codeAny_mono ((F _ hKb (nsK hns)).run callerA [] s₁ H ⟨[.ref a], []⟩ [.ref a] [.ref a] _ _ hr e0 (hbind s₁ (.ref a)) (.cons rfl .nil) (hsp H hO hS)) fun r s' h => ?_
    cases r with
    | error e => exact (hCX H e s' h).elim
    | ok fl =>
      cases fl with
      | next => exact False.elim h
      | brk => exact False.elim h
      | cont => exact False.elim h
      | ret u =>
        obtain ⟨v, H', os, bare, un, hok', r', q⟩ := h
        have q' : v = .bl true := q
        subst q'
        obtain rfl : u = Value.bool true := r'
        refine ⟨rfl, OldK.of_keep fun b o e => ?_, os, bare⟩
        cases q : H b with
        | none => exact un.keep b o e q (by intro z; exact absurd (show b ∈ ([] : List Addr) from z) (by simp)) (by simp)
        | some u =>
          rcases hO b with z | ⟨ob, xs, z⟩
          · rw [q] at z; cases z
          · have z2 := un.frzs b ob _ z
            obtain ⟨e1, _⟩ := hok b _ z
            obtain ⟨e2, _⟩ := hok' b _ z2
            rw [e] at e1; cases e1
            exact e2
  cases hk : K.lookup a with
  | some o =>
    -- the script is one of the module's own objects
    have e := KX a o hk
    rw [ha] at e
    cases e
    refine core (fun _ => none) (fun _ => .inl rfl) (.inr ⟨_, vs.toArray, _, hk, rfl, rfl, rfl, by rw [List.size_toArray, lenV]; exact hl, by simpa using rv⟩) (fun b u z => by have z' : (none : Option HO) = some u := z; cases z') (fun b z => absurd rfl z) fun z => absurd rfl z
  | none =>
    refine core (fun b => if b = a then some (.frz { cls := .type "list", data := .seq vs.toArray } (.lst (ns.map V.int))) else none) (fun b => ?_) (.inl (.inr ⟨{ cls := .type "list", data := .seq vs.toArray }, if_pos rfl⟩)) (fun b u z => ?_) (fun b z => ?_) fun _ => hk
    · by_cases hb : b = a
      · exact .inr ⟨_, _, if_pos hb⟩
      · exact .inl (if_neg hb)
    · by_cases hb : b = a
      · have z' := (if_pos hb).symm.trans z
        cases z'
        subst hb
        exact ⟨ha, by rw [List.length_map]; exact hl, vs, _, rv, ha⟩
      · have z' := (if_neg hb).symm.trans z
        cases z'
    · by_cases hb : b = a
      · exact hb
      · exact absurd (if_neg hb) z
end L2

namespace L2
open PySem PySem.Spec PyProof.Rows

/-- the goal that k_head leaves (case hc), from the law's promise. F gives the function object fd (K's own) once, then the promise over every base -/
theorem walk_of {l : PySem.W.OpenLaw} {n k : Nat} {q : Program} {loose : List Str} {XP : (Str → Option Value) → Heap → Prop} {YP : World → Heap → Prop} {d : DefRec} {K : Params → PySem.W.Frag} {CX : World → CXT} {sp : World → Sp} {x : Str}
    (hn : l.most = some n) (hn2 : n ≤ sizeLine) (hdf : d.params.defaults = []) (hr : Room k callerA)
    (hY : ∀ (w : World) (h : Heap), YP w h → (K w.params).In h)
    (F : ∀ (w : World) (mg : Str → Option Value) (fa : Addr) (h : Heap), (K w.params).In h → h.Ns mainGlobals mg → mg d.name = some (.ref fa) →
      ∃ fd : FuncData, (∀ (s : Shared) (u : Value), BindsTo s fd ⟨[u], []⟩ [(x, u)]) ∧
        ∀ base : Heap, (K w.params).In base → base.Ns mainGlobals mg → FnOk l.prog w (K w.params) mg base (CX w) k fa fd [x] (sp w))
    (hsp : ∀ (w : World) (H : Hp) (a : Addr) (ns : List Int), ns.length ≤ n → Only H → SqL (K w.params) H a (ns.map V.int) → sp w [.ref a] H (fun v _ => v = .bl true) fun _ _ _ => False)
    (hCX : ∀ (w : World) (H : Hp) (s : Shared) (e : Value) (s' : Shared), CX w [] H s (fun _ _ _ => False) e s' → False) :
    PySem.W.WalkO q loose XP YP l.row.toRowW d [] (fun f vs => PySem.call f vs) := by
  refine Att.attach_call hn hdf fun w s₀ s₁ mg mb fa o pm cd doc a vs ns G Y ho hd hcd hmg hobj hints hlen hg => ?_
  have KX := hY w _ Y
  obtain ⟨fd, hb, hF⟩ := F w mg fa _ KX G.T.g hmg
  exact law_call KX G.T.g G.T.b G.T.builtins G.T.nolimit hg hobj hints (Nat.le_trans hlen hn2) hr hF hb (fun H hO hS => hsp w H a ns hlen hO hS) fun H e s' => hCX w H s₁ e s'
end L2

/- THE LAST THEOREM (shape; LID, My.* are yours):
   My.Adr: a structure of the addresses that your layer names (classes, functions); My.Txt K t: a structure (Prop) of the equations over K;
   My.txt_mk : {K} {implicit addresses ..} (e1 : nsIn K mainGlobals "law" = some (some (.ref f))) (e2 : K.lookup f = some ⟨oc, od, .func (fnOf "law" "law" params body scope dV kV doc pm an cdv ct), sl⟩) (e3 : codeIn K cdv "law" = true) .. : ∃ t, My.Txt K t

set_option maxRecDepth 100000 in
set_option maxHeartbeats 0 in
theorem PySem.Challenge.cw_LID_holds : PySem.Challenge.rw_LID.Holds := by
  w_on; o_law; k_head; (case hw => w_witness2)
  k_fill
  refine L2.walk_of (l := PySem.Challenge.rw_LID) (n := 63) (k := 40) (x := "script") (CX := fun w => ..) (sp := fun _ => My.sp_law) rfl (by decide) rfl ⟨rfl, by decide, by decide⟩ (fun w h Y => PySem.W.kIn_of Y) ?F ?S ?C
  case F =>
    intro w mg fa h KX G hmg
    have T : ∃ t, My.Txt (L2.KOf KX) t := by
      dsimp only [L2.KOf]                          -- K must stand as «<heap const> w.params» for k_is
      refine' My.txt_mk ?e1 ?e2 ?e3 ..
      (case e1 => PySem.W.k_is)                    -- in the order: a name -> its address -> its object -> its parts
      (case e2 => PySem.W.k_is)
      ..
    obtain ⟨t, T⟩ := T
    have e0 := hmg.symm.trans (PySem.W.mg_of KX G T.law)
    cases e0                                       -- fa is the law's own address
    exact ⟨_, fun s u => .of_eq rfl, fun base kb nb => My.law_fn T kb nb⟩     -- if «.of_eq rfl» comes too early: refine' ⟨_, ?b, fun base kb nb => My.law_fn T kb nb⟩; exact fun s u => .of_eq rfl
  case S => exact fun w H a ns hl hO hS => ..
  case C => exact ..
(the tactic k_is has no namespace: write k_is) -/

/-! SHORT WORDS over the layer: a def of the text, its body, what a loop and a test want. -/
namespace L2
open PySem PySem.Spec PyProof.Rows

/-! ### the text by places -/
/-- the j-th statement of a class's body -/
def inClass (s : Stmt) (j : Nat) : Stmt := match s with
  | .ClassDef _ _ _ body _ _ _ _ _ _ _ => body.getD j (.Pass ⟨0, 0, 0, 0⟩)
  | _ => .Pass ⟨0, 0, 0, 0⟩
def defArgs (s : Stmt) : Arguments := match s with
  | .FunctionDef _ a _ _ _ _ _ _ _ _ => a
  | _ => { posonlyargs := [], args := [], vararg := none, kwonlyargs := [], kw_defaults := [], kwarg := none, defaults := [] }
def defBody (s : Stmt) : List Stmt := match s with
  | .FunctionDef _ _ b _ _ _ _ _ _ _ => b
  | _ => []
def defScope (s : Stmt) : Scope := match s with
  | .FunctionDef _ _ _ _ _ _ sc _ _ _ => sc
  | _ => { kind := .function, names := [], isGenerator := false, isCoroutine := false }

/-! ### no exception leaves a def -/
abbrev CX0 : CXT := fun _ _ _ _ _ _ => False
abbrev E0 : XK := fun _ _ _ => False
theorem pass0 {X : Cx} : Passes CX0 X E0 := fun _ _ _ _ _ _ _ h => h.elim

/-! ### a def (or method) of the text as it stands behind the top -/
structure Fun (K : PySem.W.Frag) (x qual : Str) (st : Stmt) (f : Addr) (fd : FuncData) : Prop where
  ex : ∃ (oc : Value) (od : Option Addr) (kV doc pm : Value) (an : Option Addr) (cdv ct : Value) (osl : Array (Option Value)),
    fd = PySem.W.fnOf x qual (defArgs st) (defBody st) (defScope st) .none kV doc pm an cdv ct ∧ K.lookup f = some ⟨oc, od, .func fd, osl⟩ ∧ PySem.W.codeIn K cdv qual = true
  kp : PySem.W.keepIn K (.ref f) = true
section
variable {P : Program} {w : World} {K : PySem.W.Frag} {mg : Str → Option Value} {base : Heap}
/-- THE RULE for a def: its body as a term of rules, and the reading of that term -/
theorem Fun.ok {x qual : Str} {st : Stmt} {f : Addr} {fd : FuncData} {N ps : List Str} {k : Nat} {sp : Sp} (F : Fun K x qual st f fd) (S : FnScope N ps (defScope st)) (len : ∀ vs H Q E, sp vs H Q E → vs.length = ps.length)
    (hbody : ∀ (cdv : Value) (A : Around) (outer : List Env) (s : Shared) (H : Hp) (vs : List V) (Q : VK) (E : XK), Room k (A.deeper (envOfC qual (defScope st) s.heap.objs.size f cdv)) → sp vs H Q E →
      ∃ t, PSs (cxOf CX0 P w K mg base N qual (defScope st) f cdv A outer s H E).nox (defBody st) t ∧ t { nx := fun _ H' => Q .non H', rt := Q } (start N vs) H) : FnOk P w K mg base CX0 (k + 1) f fd ps sp := by
  obtain ⟨oc, od, kV, doc, pm, an, cdv, ct, osl, rfl, lk, hcd⟩ := F.ex
  refine fn_of lk hcd S len fun A outer s H vs Q E hr hsp => ?_
  obtain ⟨t, h, q⟩ := hbody cdv A outer s H vs Q E hr hsp
  exact ⟨t, h.nox, q⟩
/-- how its arguments bind (no defaults): h is «fun _ _ _ _ _ _ us hl => match us, hl with | [_, _], _ => rfl», one _ a parameter -/
theorem Fun.binds {x qual : Str} {st : Stmt} {f : Addr} {fd : FuncData} {ps : List Str} (F : Fun K x qual st f fd)
    (h : ∀ (kV doc pm : Value) (an : Option Addr) (cdv ct : Value) (us : List Value), us.length = ps.length → bindArgs (PySem.W.fnOf x qual (defArgs st) (defBody st) (defScope st) .none kV doc pm an cdv ct) ⟨us, []⟩ = pure (ps.zip us)) : Binds K fd ps [] := by
  obtain ⟨oc, od, kV, doc, pm, an, cdv, ct, osl, rfl, lk, hcd⟩ := F.ex
  exact .all (h kV doc pm an cdv ct)
theorem fun_mk {x qual : Str} {st : Stmt} {f : Addr} {oc : Value} {od an : Option Addr} {osl : Array (Option Value)} {kV doc pm cdv ct : Value} (l : K.lookup f = some ⟨oc, od, .func (PySem.W.fnOf x qual (defArgs st) (defBody st) (defScope st) .none kV doc pm an cdv ct), osl⟩)
    (c : PySem.W.codeIn K cdv qual = true) (k : PySem.W.keepIn K (.ref f) = true) : Fun K x qual st f (PySem.W.fnOf x qual (defArgs st) (defBody st) (defScope st) .none kV doc pm an cdv ct) := ⟨⟨oc, od, kV, doc, pm, an, cdv, ct, osl, rfl, l, c⟩, k⟩
end
/-! ### expressions in short: the name that stands in the i-th slot -/
section
variable {X : Cx}
theorem pv (i : Nat) {x : Str} {pos : Pos} (hN : X.N[i]? = some x := by rfl) (hv : Vis X.env.scope x := by first | exact Or.inl rfl | exact Or.inr (Or.inl rfl) | exact Or.inr (Or.inr rfl)) (hd : (x == ("__debug__" : Str)) = false := by decide)
    (hcd : (x == ("__classdict__" : Str)) = false := by decide) : PE X (.Name x pos) (tVar i) := pe_var hN hv hd hcd
end

/-! ### tests -/
theorem iteF {A B : Prop} (h : B) : if false = true then A else B := by
  rw [if_neg Bool.false_ne_true]
  exact h
theorem iteT {A B : Prop} (h : A) : if true = true then A else B := by
  rw [if_pos rfl]
  exact h
theorem ite2 {c A B : Prop} [Decidable c] (h1 : c → A) (h2 : ¬ c → B) : if c then A else B := by
  by_cases h : c
  · rw [if_pos h]
    exact h1 h
  · rw [if_neg h]
    exact h2 h
/-! ### heaps -/
/-- all that was tracked is as it was -/
def Same (H H' : Hp) : Prop := ∀ b o, H b = some o → H' b = some o
theorem Same.refl (H : Hp) : Same H H := fun _ _ h => h
theorem Same.trans {H H1 H2 : Hp} (a : Same H H1) (b : Same H1 H2) : Same H H2 := fun c o h => b c o (a c o h)
theorem Same.free {H H' : Hp} (e : Same H H') {l : Addr} (h : H' l = Option.none) : H l = Option.none := by
  cases q : H l with
  | none => rfl
  | some o =>
    rw [e l o q] at h
    cases h
theorem Same.seq {K : PySem.W.Frag} {H H' : Hp} {a : Addr} {xs : List V} (e : Same H H') (h : SqL K H a xs) : SqL K H' a xs := by
  rcases h with (h | ⟨o, h⟩) | h
  · exact .inl (.inl (e _ _ h))
  · exact .inl (.inr ⟨o, e _ _ h⟩)
  · exact .inr h

end L2

/-! Groves as data: a grove is nil, or a first tree (tag, what is within) and the others. Words with an end sl. -/
namespace FgM
end FgM

/-! RULES OF OUR OWN over the layer: isinstance, t[::-1], whole slices of tuples, extend by a tuple, text * int, == of data at any depth, calls of own defs in short. -/
namespace L2
open PySem PySem.Spec PyProof.Rows
theorem bt_list : bootBuiltins "list" = some (.type "list") := by decide +kernel
theorem bt_tuple : bootBuiltins "tuple" = some (.type "tuple") := by decide +kernel
theorem bt_bool : bootBuiltins "bool" = some (.type "bool") := by decide +kernel
theorem bt_dict : bootBuiltins "dict" = some (.type "dict") := by decide +kernel
theorem bt_isinstance : bootBuiltins "isinstance" = some (.builtin "isinstance") := by decide +kernel
section
variable {X : Cx}
/-- the name of a built-in type -/
theorem pe_ty {x : Str} {n : String} {pos : Pos} (hg : Gl X x) (hm : X.mg x = none) (hv : bootBuiltins x = some (.type n)) (hn : x ≠ "__name__" := by decide) (hd : (x == ("__debug__" : Str)) = false := by decide) : PE X (.Name x pos) (tC (.ty n)) :=
  pe_bltn (v := .ty n) hg hm hv rfl hn hd
/-- isinstance(x, T), T a built-in type -/
theorem call_isinst : CallR X (.builtin "isinstance") (fun xs H Q => ∃ x n t b, xs = [x, .ty n] ∧ TyOf X.K H x t ∧ PySem.W.kitOne X.K t (.type n) = some b ∧ Q (.bl b) H) := by
  intro pins s σ H xs us Q I r h
  obtain ⟨x, n, t, b, rfl, ty, e, q⟩ := h
  obtain ⟨u, v, rfl, rx, ry⟩ := Vals.two r
  obtain rfl : v = Value.type n := ry
  exact isinst_ok I rx ty e fun tk => ⟨.bl b, H, I.tok tk, rfl, q⟩
end
/-! ### calls of own defs -/
structure Has (P : Program) (w : World) (K : PySem.W.Frag) (mg : Str → Option Value) (base : Heap) (x : Str) (ps : List Str) (k : Nat) (sp : Sp) : Prop where
  ex : ∃ (f : Addr) (fd : FuncData), FnOk P w K mg base CX0 k f fd ps sp ∧ Binds K fd ps [] ∧ PySem.W.keepIn K (.ref f) = true ∧ mg x = some (.ref f)
section
variable {X : Cx} {x : Str} {ps : List Str} {j k : Nat} {sp : Sp} {e : Expr} {es : List Expr} {t : TA} {p pos : Pos}
theorem FnOk.room {P : Program} {w : World} {K : PySem.W.Frag} {mg : Str → Option Value} {base : Heap} {CX : CXT} {f : Addr} {fd : FuncData} (F : FnOk P w K mg base CX j f fd ps sp) (h : j ≤ k) : FnOk P w K mg base CX k f fd ps sp :=
  ⟨F.len, fun A outer s H args us vs Q E hr => F.run A outer s H args us vs Q E (hr.mono h)⟩
theorem pe_has (G : Has X.prog X.w X.K X.mg X.base x ps j sp) (hr : Room k X.A) (hg : Gl X x) (ha : PA X (e :: es) t) (hk : j ≤ k := by decide) (hdb : (x == ("__debug__" : Str)) = false := by decide)
    (he : starEach (e :: es) X.env = (false, eval e X.env) :: starEach es X.env := by rfl) (hpl : (backTo pos (starEach es X.env)).any (·.1) = false := by rfl) :
    PE X (.Call (.Name x p) (e :: es) [] pos) (tCall sp [] E0 t) := by
  obtain ⟨f, fd, F, b, kp, m⟩ := G.ex
  exact pe_call (F.room hk) hr hg m kp b .nil pass0 ha hdb he hpl
end
/-! ### extend by a tuple -/
/-! ### text * int -/
end L2
namespace HT
open PySem PyProof.Rows
end HT

namespace L2
open PySem PySem.Spec PyProof.Rows
/-! ### == and != of data at any depth -/
mutual
inductive Dp (K : PySem.W.Frag) (H : Hp) : V → PyData → Prop
  | non : Dp K H .non .none
  | bl (b : Bool) : Dp K H (.bl b) (.bool b)
  | int (i : Int) : Dp K H (.int i) (.int i)
  | str (x : Str) : Dp K H (.str x) (.str x)
  | lst {a : Addr} {xs : List V} {ds : List PyData} : SqL K H a xs → DpAll K H xs ds → Dp K H (.ref a) (.list ds)
  | tup {a : Addr} {xs : List V} {ds : List PyData} : SqT K H a xs → DpAll K H xs ds → Dp K H (.ref a) (.tuple ds)
inductive DpAll (K : PySem.W.Frag) (H : Hp) : List V → List PyData → Prop
  | nil : DpAll K H [] []
  | cons {v : V} {vs : List V} {d : PyData} {ds : List PyData} : Dp K H v d → DpAll K H vs ds → DpAll K H (v :: vs) (d :: ds)
end
section
variable {X : Cx} {pins : List (Addr × Obj)} {σ : St} {H : Hp} {s : Shared}
mutual
theorem Dp.reads (I : Inv X pins σ H s) : ∀ {v : V} {d : PyData} {u : Value}, Dp X.K H v d → RelV v u → ∃ as, Reads s.heap u d as
  | _, _, u, .non, r => by
    obtain rfl : u = Value.none := r
    exact ⟨_, .none⟩
  | _, _, u, .bl b, r => by
    obtain rfl : u = Value.bool b := r
    exact ⟨_, .bool b⟩
  | _, _, _, .int i, ⟨t, e⟩ => by
    subst e
    exact ⟨_, .int i t⟩
  | _, _, _, .str x, ⟨t, e⟩ => by
    subst e
    exact ⟨_, .str x t⟩
  | _, _, u, @Dp.lst _ _ a xs ds hq hall, r => by
    obtain rfl : u = Value.ref a := r
    obtain ⟨its, rv, ⟨o, n, e, hc, _, hd⟩, _⟩ := I.list hq
    obtain ⟨as, ha⟩ := DpAll.reads I hall rv
    exact ⟨_, .list e hc hd (by simpa using ha)⟩
  | _, _, u, @Dp.tup _ _ a xs ds hq hall, r => by
    obtain rfl : u = Value.ref a := r
    obtain ⟨its, rv, ⟨o, e, hc, n, hd⟩, _⟩ := I.tuple hq
    obtain ⟨as, ha⟩ := DpAll.reads I hall rv
    exact ⟨_, .tuple e hc hd (by simpa using ha)⟩
theorem DpAll.reads (I : Inv X pins σ H s) : ∀ {vs : List V} {ds : List PyData} {us : List Value}, DpAll X.K H vs ds → Vals vs us → ∃ as, ReadsAll s.heap us ds as
  | _, _, _, .nil, .nil => ⟨_, .nil⟩
  | _, _, _, .cons h t, .cons r rs => by
    obtain ⟨as, ha⟩ := Dp.reads I h r
    obtain ⟨bs, hb⟩ := DpAll.reads I t rs
    exact ⟨_, .cons ha hb⟩
end
end
section
variable {X : Cx}
def rEqD (K : PySem.W.Frag) (neg : Bool) : R2 := fun x y H Q => ∃ d e, Dp K H x d ∧ Dp K H y e ∧ d.canLay0 = true ∧ e.canLay0 = true ∧ min d.depth e.depth ≤ 200 ∧ Q (.bl (if neg then !PyData.eqv d e else PyData.eqv d e)) H
theorem op_neD (hu : X.A.units + 200 < cLine) : OpR X (compareOp .NotEq) (rEqD X.K true) := by
  intro pins s σ H x y v u Q I rx ry h
  obtain ⟨d, e, hx, hy, h1, h2, hd, q⟩ := h
  obtain ⟨as, ra⟩ := hx.reads I rx
  obtain ⟨bs, rb⟩ := hy.reads I ry
  exact PySem.SeqAt.compareNe_reads ra rb h1 h2 (by (first | lia | omega)) ⟨.bl _, H, I, rfl, q⟩
end
/-! ### t[::-1], slices of tuples whole or not -/
/-! ### heaps: tuples are kept -/
/-- what is no list that may change: the tuples stay -/
def TK (H H' : Hp) : Prop := ∀ b xs, H b = some (.tup xs) → H' b = some (.tup xs)
theorem TK.trans {H H1 H2 : Hp} (a : TK H H1) (b : TK H1 H2) : TK H H2 := fun c xs h => b c xs (a c xs h)
theorem TK.new {H : Hp} {p : Addr} {o : HO} (h : H p = none) : TK H (upd H p o) := fun b xs q => by
  rw [upd_ne (ne_of_none q h)]
  exact q
theorem TK.lst {H : Hp} {p : Addr} {xs : List V} {o : HO} (h : H p = some (.lst xs)) : TK H (upd H p o) := fun b ys q => by
  by_cases e : b = p
  · subst e
    rw [h] at q
    cases q
  · rw [upd_ne e]
    exact q
theorem Same.tk {H H' : Hp} (h : Same H H') : TK H H' := fun b xs q => h b _ q
theorem Same.new {H : Hp} {p : Addr} {o : HO} (h : H p = none) : Same H (upd H p o) := fun b u q => by
  rw [upd_ne (ne_of_none q h)]
  exact q
theorem Same.upd_new {H H' : Hp} {p : Addr} {o : HO} (h : Same H H') (hp : H p = none) : Same H (upd H' p o) := fun b u q => by
  rw [upd_ne (ne_of_none q hp)]
  exact h b u q
end L2
namespace L2
open PySem PySem.Spec PyProof.Rows
theorem upd_none {H : Hp} {p b : Addr} {o : HO} (h : upd H p o b = none) : b ≠ p ∧ H b = none := by
  by_cases e : b = p
  · subst e
    rw [upd_same] at h
    cases h
  · rw [upd_ne e] at h
    exact ⟨e, h⟩
end L2
namespace L2
open PySem PySem.Spec PyProof.Rows
end L2
namespace L2
open PySem PySem.Spec PyProof.Rows
end L2
namespace L2
end L2

namespace L2
open PySem PySem.Spec PyProof.Rows
theorem Paired.app {α β : Type} {F : α → β → Prop} : ∀ {l₁ k₁ : List α} {l₂ k₂ : List β}, Paired F l₁ l₂ → Paired F k₁ k₂ → Paired F (l₁ ++ k₁) (l₂ ++ k₂)
  | _, _, _, _, .nil, s => s
  | _, _, _, _, .cons r t, s => .cons r (Paired.app t s)
theorem snoc_last {α : Type} (l : List α) (a : α) : (l ++ [a])[(l ++ [a]).length - 1]? = some a := by
  simp
theorem snoc_drop {α : Type} (l : List α) (a : α) : (l ++ [a]).dropLast = l := by
  simp
end L2
namespace Fg
open PySem L2 FgM
abbrev SL : Str := "/"
/-- small letters, one or more -/
def Lets (t : Str) : Prop := t.cps.toList ≠ [] ∧ ∀ c ∈ t.cps.toList, 97 ≤ c ∧ c ≤ 122
def Let0 (t : Str) : Prop := ∀ c ∈ t.cps.toList, 97 ≤ c ∧ c ≤ 122
theorem app_cps (x y : Str) : (x ++ y).cps.toList = x.cps.toList ++ y.cps.toList := by
  show (x.cps ++ y.cps).toList = _
  simp
theorem let0_app {x y : Str} (hx : Let0 x) (hy : Let0 y) : Let0 (x ++ y) := fun c hc => by
  rw [app_cps] at hc
  exact (List.mem_append.mp hc).elim (hx c) (hy c)
theorem Lets.let0 {t : Str} (h : Lets t) : Let0 t := h.2
theorem lets_l {x y : Str} (hx : Lets x) (hy : Let0 y) : Lets (x ++ y) := ⟨by rw [app_cps]; intro z; exact hx.1 (List.append_eq_nil_iff.mp z).1, let0_app hx.2 hy⟩
theorem lets_one {c : Nat} (h1 : 97 ≤ c) (h2 : c ≤ 122) : Lets ⟨#[c]⟩ := ⟨by simp, fun d hd => by simp at hd; (first | lia | omega)⟩
theorem Let0.ok {t : Str} (h : Let0 t) : PyData.strOk t = true := by
  unfold PyData.strOk
  rw [Array.all_eq_true_iff_forall_mem]
  intro c hc
  have := h c (by simpa using hc)
  exact decide_eq_true (by (first | lia | omega))
def ABC : Str := "abcdefghijklmnopqrstuvwxyz"
theorem abc_all : ∀ n : _root_.Fin 26, 97 ≤ ABC.cps.toList.getD n.val 0 ∧ ABC.cps.toList.getD n.val 0 ≤ 122 ∧ n.val < ABC.cps.toList.length := by decide
theorem abc_at {i : Int} (h0 : 0 ≤ i) (h1 : i < 26) : ∃ c, atI ABC.cps.toList i = some c ∧ 97 ≤ c ∧ c ≤ 122 := by
  obtain ⟨n, rfl⟩ := Int.eq_ofNat_of_zero_le h0
  obtain ⟨a, b, c⟩ := abc_all ⟨n, by (first | lia | omega)⟩
  refine ⟨_, atI_nat (List.getElem?_eq_getElem c), ?_, ?_⟩
  · rw [List.getD_eq_getElem?_getD, List.getElem?_eq_getElem c] at a
    exact a
  · rw [List.getD_eq_getElem?_getD, List.getElem?_eq_getElem c] at b
    exact b
theorem ints_at {ns : List Int} {k : Int} (h0 : 0 ≤ k) (h : k < (ns.length : Int)) : ∃ v : Int, atI (ns.map V.int) k = some (.int v) := by
  obtain ⟨n, rfl⟩ := Int.eq_ofNat_of_zero_le h0
  have hn : n < ns.length := by (first | lia | omega)
  exact ⟨ns[n], atI_nat (by rw [List.getElem?_map, List.getElem?_eq_getElem hn]; rfl)⟩
theorem strs_at {ws : List Str} {n : Nat} (h : n < ws.length) : atI (ws.map V.str) ((n : Nat) : Int) = some (.str ws[n]) := atI_nat (by rw [List.getElem?_map, List.getElem?_eq_getElem h]; rfl)
end Fg

namespace Fg
open PySem L2 FgM
/-! ### what the laws' own helpers promise -/
def spLaw (K : PySem.W.Frag) : Sp := fun vs H Q _ => ∃ (a : Addr) (ns : List Int), vs = [.ref a] ∧ SqL K H a (ns.map V.int) ∧ ns.length ≤ 63 ∧ ∀ H', Q (.bl true) H'
theorem len1000 {n : Nat} (h : n ≤ 100000) : n ≤ sizeLine := Nat.le_trans h (by decide)
theorem len1000' {n : Nat} (h : n ≤ 100000) : n < sizeLine := Nat.lt_of_le_of_lt h (by decide)
end Fg
namespace Fg
open PySem L2 FgM
theorem app_len (x y : Str) : (x ++ y).length = x.length + y.length := by
  show (x.cps ++ y.cps).size = _
  rw [Array.size_append]
  rfl
end Fg
namespace Fg
open PySem L2 FgM
end Fg
namespace Fg
open PySem L2 FgM
end Fg
namespace Fg
open PySem L2 FgM
end Fg

namespace L2
open PySem PySem.Spec PyProof.Rows
theorem strsAre_of : ∀ {ys : List Str} {us : List Value}, Vals (ys.map V.str) us → StrsAre us ys
  | [], _, .nil => .nil
  | y :: ys, _, .cons r t => by
    obtain ⟨tk, e⟩ := r
    subst e
    exact .cons y tk (strsAre_of t)
section
variable {X : Cx}
/-- sep.join(xs), a list of texts -/
def rJoin (K : PySem.W.Frag) : V → List V → Hp → VK → Prop := fun x vs H Q => ∃ z a ys, x = .str z ∧ vs = [.ref a] ∧ SqL K H a (ys.map V.str) ∧ (ys.map (·.length)).sum + ys.length * z.length ≤ 16777216 ∧ Q (.str (Txt.join z ys)) H
theorem mt_join : MtM X "str.join" (rJoin X.K) := by
  intro pins s σ H x vs v us Q I rx rv h
  obtain ⟨z, a, ys, rfl, rfl, hS, hz, q⟩ := h
  obtain ⟨t, rfl⟩ := rx
  obtain ⟨u, rfl, ru⟩ := rv.one
  cases ru
  obtain ⟨its, r, pl, _⟩ := I.list hS
  exact join_list pl.isList (by simpa using strsAre_of r) hz fun t' k => ⟨.str _, H, I.tok _, ⟨_, rfl⟩, q⟩
end
end L2
namespace Fg
open PySem L2 FgM
/-! ### groves as texts -/
def cs (x : Str) : List Nat := x.cps.toList
theorem cs_app (x y : Str) : cs (x ++ y) = cs x ++ cs y := app_cps x y
def jn (sep : Str) : List Str → List Nat
  | [] => []
  | [x] => cs x
  | x :: y :: r => cs x ++ (cs sep ++ jn sep (y :: r))
theorem cs_strJoin (sep : Str) : ∀ ys : List Str, cs (Str.join sep ys) = jn sep ys
  | [] => rfl
  | [x] => rfl
  | x :: y :: r => by
    show cs (x ++ sep ++ Str.join sep (y :: r)) = _
    rw [cs_app, cs_app, cs_strJoin sep (y :: r), List.append_assoc]
    rfl
theorem cs_join (sep : Str) (ys : List Str) : cs (Txt.join sep ys) = jn sep ys := by
  have e : Txt.join sep ys = Str.join sep ys := PySem.StrLaws.glued_eq_join sep ys
  rw [e, cs_strJoin]
/-! ### what the laws want of texts -/
end Fg

/-! Texts: their signs walked, cut and compared; all(..) of truths; the comprehension of a tag's test. -/
namespace L2
open PySem PySem.Spec PyProof.Rows
/-! ### for x in text -/
/-! ### all(..), texts compared and cut -/
section
variable {X : Cx}
theorem boolsGet : ∀ {bs : List Bool} {us : List Value}, Vals (bs.map V.bl) us → ∀ (i : Nat) (v : Value), us[i]? = some v → ∃ b, bs[i]? = some b ∧ v = .bool b
  | [], _, .nil, i, v, e => by simp at e
  | b :: bs, _, .cons r t, 0, v, e => by
    obtain rfl : _ = Value.bool b := r
    simp at e
    exact ⟨b, rfl, e.symm⟩
  | b :: bs, _, .cons r t, i + 1, v, e => by
    obtain ⟨c, h1, h2⟩ := boolsGet t i v (by simpa using e)
    exact ⟨c, by simpa using h1, h2⟩
theorem all_range : ∀ (bs : List Bool), ((List.range bs.length).all fun i => (bs[i]?).getD true) = bs.all id := by
  intro bs
  rw [Bool.eq_iff_iff, List.all_eq_true, List.all_eq_true]
  constructor
  · intro h b hb
    obtain ⟨i, hi, rfl⟩ := List.getElem_of_mem hb
    have := h i (List.mem_range.mpr hi)
    rw [List.getElem?_eq_getElem hi] at this
    exact this
  · intro h i hi
    have hi' := List.mem_range.mp hi
    rw [List.getElem?_eq_getElem hi']
    exact h _ (List.getElem_mem hi')
theorem call_all (hc : X.calm = true) : CallR X (.builtin "all") (fun xs H Q => ∃ (p : Addr) (bs : List Bool), xs = [.ref p] ∧ SqL X.K H p (bs.map V.bl) ∧ Q (.bl (bs.all id)) H) := by
  intro pins s σ H xs us Q I r h
  obtain ⟨p, bs, rfl, hS, q⟩ := h
  obtain ⟨u, rfl, ru⟩ := Vals.one r
  cases ru
  obtain ⟨its, rv, pl, hz⟩ := I.list hS
  have hl := pl.isList
  have hlen : bs.length = its.length := by
    have := rv.length
    rw [List.length_map] at this
    exact this
  refine call_all_walk (wpAny_pyIter_list hl ⟨s.heap.objs.size, [s.heap.objs.size, p], [s.heap.objs.size], its.toArray.size, _, _, fun i => (bs[i]?).getD true, rfl,
    Walks.list (A := X.A.in1) (I.ok.hd hc) _ p (Nat.ne_of_lt pl.lt) its.toArray, ⟨⟨_, Heap.get?_push_size _ rfl, rfl, rfl⟩, hl.push _⟩, fun i v s' Q' E' hP hQ => ?_, fun h' tk hk => ?_⟩)
  · obtain ⟨b, e, e2⟩ := boolsGet rv i v (by simpa using hP)
    subst e2
    simp only [e, Option.getD_some] at hQ
    exact wpAny_truthy_bool hQ
  · rw [List.size_toArray, ← hlen, all_range]
    refine ⟨.bl _, H, I.kept (t' := tk) fun b o e => hk b o (fun hm => ?_) (Heap.get?_push_of_some _ e), rfl, q⟩
    rw [List.mem_singleton.mp hm] at e
    exact Nat.lt_irrefl _ (Heap.lt_size e)
end
/-! ### ['a' <= x <= 'z' for x in text] -/
def azB (c : Nat) : Bool := decide (97 ≤ c) && decide (c ≤ 122)
end L2

namespace L2
open PySem
theorem bt_all : bootBuiltins "all" = some (.builtin "all") := by decide +kernel
end L2
namespace Fg
open PySem L2 FgM
theorem notin_all : ∀ c : _root_.Fin 128, (Builtin.Str.occurrences ABC ⟨#[c.val]⟩ 0 ABC.length 1).isEmpty = !azB c.val := by decide +kernel
theorem notin_az {c : Nat} (h : c < 128) : (Builtin.Str.occurrences ABC ⟨#[c]⟩ 0 ABC.length 1).isEmpty = !azB c := notin_all ⟨c, h⟩
end Fg

/-! for i, x in enumerate(xs) -/
namespace L2
open PySem PySem.Spec PyProof.Rows
end L2

/-! [elt for tg in iter]: the block as a context of its own -/
namespace L2
open PySem PySem.Spec PyProof.Rows
section
variable {prog : Program} {w : World} {A : Around} {s : Shared} {R : Result → Shared → Prop}
abbrev no0 : Value → Shared → Prop := fun _ _ => False
theorem comp_loop0 {elt target iter : Expr} {scope : Scope} {pos : Pos} {it acc : Value} {env : Env} (I : Nat → Shared → Prop)
    (turn : ∀ n s, I n s → wpAny (model prog w) A (pyNext it) (fun r s1 => match r with
      | none => R (.ok .next) s1
      | some v => wpAny (model prog w) A (letOwnedTupleGo target it v) (fun _ s2 => wpAny (model prog w) A (assign target env v) (fun _ s3 => wpAny (model prog w) A (eval elt env) (fun x s4 =>
          wpAny (model prog w) A (call (.builtin "list.append") [acc, x]) (fun _ s5 => ∃ m, m < n ∧ I m s5) no0 s4) no0 s3) no0 s2) no0 s1) no0 s)
    (n : Nat) (h : I n s) : codeAny (model prog w) A (.compLoop (.ListComp elt [⟨target, iter, [], 0⟩] scope pos) 0 it acc env) R s := by
  refine codeAny_loop rfl I (fun n s hI => ?_) n h
  show wpAny _ _ ((compTurn (.ListComp elt [⟨target, iter, [], 0⟩] scope pos) 0 it acc env).onRaise (fun x => do noteFrame x env; theTreesLotGoes x)) _ _ s
  refine wpAny_noted ?_
  rw [compTurn_list1]
  refine wpAny_bind (wpAny_standAt (wpAny_bind (wpAny_mono (turn n s hI) (fun r s1 h1 => ?_) fun _ _ h' => h'.elim)))
  cases r with
  | none => exact wpAny_pure h1
  | some v =>
    refine wpAny_bind (wpAny_mono h1 (fun _ s2 h2 => ?_) fun _ _ h' => h'.elim)
    refine wpAny_bind (wpAny_mono h2 (fun _ s3 h3 => ?_) fun _ _ h' => h'.elim)
    refine wpAny_bind (wpAny_bind (wpAny_mono h3 (fun x s4 h4 => ?_) fun _ _ h' => h'.elim))
    exact wpAny_bind (wpAny_mono h4 (fun _ s5 h5 => wpAny_pure (wpAny_pure ⟨rfl, h5⟩)) fun _ _ h' => h'.elim)
end
/-- the context of a comprehension's block: its frame at C, the cells cl of captured names, the iterator's records fp -/
def cxComp (X : Cx) (N : List Str) (scope : Scope) (cl : List (Str × Addr)) (C : Addr) (fp : List Addr) (s : Shared) (H : Hp) : Cx where
  prog := X.prog
  w := X.w
  K := X.K
  mg := X.mg
  base := X.base
  A := X.A
  N := N
  s₀ := s
  H₀ := H
  env := compEnvC scope cl C X.env
  outer := X.stack
  stack := X.stack
  ex := fp
  fn := fun _ => false
  calm := X.calm
  pn := []
  xe := no0
section
variable {X : Cx} {pins : List (Addr × Obj)} {σ : St} {H : Hp} {s : Shared}
theorem cxComp_ok {N : List Str} {scope : Scope} {cl : List (Str × Addr)} {C : Addr} {fp : List Addr} (I : Inv X pins σ H s) (hk : scope.kind = .function) (hC : s.heap.objs.size ≤ C) (hcl : ∀ x c, cl.lookup x = some c → X.env.cells.lookup x = some c)
    (hhas : ∀ x, ((compEnvC scope cl C X.env).kindOf x = some .cell ∨ (compEnvC scope cl C X.env).kindOf x = some .free) → ∃ c, cl.lookup x = some c)
    (hf : ∀ b ∈ fp, FpOk X pins H b) (hlt : ∀ b ∈ fp, b < s.heap.objs.size) : (cxComp X N scope cl C fp s H).Ok where
  mod := I.ok.mod
  kind := hk
  glob := I.ok.glob
  blt := I.ok.blt
  above := hC
  inj := fun x y c e1 e2 => I.ok.inj x y c (hcl x c e1) (hcl y c e2)
  has := hhas
  cab := fun x c e => by cases e
  hd := I.ok.hd
  frames := I.ok.frames
  stk := .inl rfl
  exf := fun b hb => ⟨fun z => absurd (Nat.lt_of_lt_of_le (hlt b hb) hC) (by rw [show b = C from z]; exact Nat.lt_irrefl _), fun x c e => (hf b hb).2.2.2.2.1 x c (hcl x c e)⟩
  bs := fun b o e => ⟨(I.bs b o e).1, (I.bs b o e).2⟩
  bsz := Nat.le_trans I.ok.bsz I.sz
  noex := fun b o e hb => by
    rcases (hf b hb).2.2.2.1 with z | z
    · exact I.ok.noex b o e z
    · exact absurd (Nat.lt_of_lt_of_le (Heap.lt_size e) (Nat.le_trans I.ok.bsz z)) (Nat.lt_irrefl _)
  exfs := fun b hb hm => by
    rcases List.mem_cons.mp (I.stkSub b hm) with z | z
    · exact (hf b hb).2.1 z
    · exact (hf b hb).2.2.1 z
  funs := I.stack
  frf := I.stkFree
/-- the values of the block's names at its start: the targets' none, the captured ones' as they stand -/
def capσ (σ : St) (k : Nat) (cap : List (Str × Nat)) : St := List.replicate k none ++ cap.map fun p => (σ[p.2]?).getD none
theorem cxComp_start {scope : Scope} {cl : List (Str × Addr)} {fp : List Addr} {tn : List Str} {cap : List (Str × Nat)} {h1 : Heap} (I : Inv X pins σ H s) (hk : scope.kind = .function) (hcl : ∀ x c, cl.lookup x = some c → X.env.cells.lookup x = some c)
    (hhas : ∀ x, ((compEnvC scope cl s.heap.objs.size X.env).kindOf x = some .cell ∨ (compEnvC scope cl s.heap.objs.size X.env).kindOf x = some .free) → ∃ c, cl.lookup x = some c)
    (hf : ∀ b ∈ fp, FpOk X pins H b) (hlt : ∀ b ∈ fp, b < s.heap.objs.size)
    (hcap : ∀ p ∈ cap, X.N[p.2]? = some p.1 ∧ X.env.scope.names.lookup p.1 = some .cell ∧ ((compEnvC scope cl s.heap.objs.size X.env).kindOf p.1 = some .cell ∨ (compEnvC scope cl s.heap.objs.size X.env).kindOf p.1 = some .free))
    (hns : h1.Ns s.heap.objs.size (fun _ => none)) (hkp : ∀ b o, s.heap.get? b = some o → h1.get? b = some o) :
    Inv (cxComp X (tn ++ cap.map (·.1)) scope cl s.heap.objs.size fp s H) [] (capσ σ tn.length cap) H { s with heap := h1 } where
  ok := cxComp_ok I hk (Nat.le_refl _) hcl hhas hf hlt
  os := rfl
  bare := I.bare
  base := Un.kept hkp
  loc := by
    refine ⟨fun _ => none, hns, fun i x v e1 e2 hv => ?_⟩
    unfold capσ at e2
    by_cases hi : i < tn.length
    · rw [List.getElem?_append_left (by rw [List.length_replicate]; exact hi), List.getElem?_replicate, if_pos hi] at e2
      cases e2
    · have hN : (cap.map (·.1))[i - tn.length]? = some x := by
        have : (tn ++ cap.map (·.1))[i]? = some x := e1
        rw [List.getElem?_append_right (by (first | lia | omega))] at this
        exact this
      rw [List.getElem?_append_right (by rw [List.length_replicate]; (first | lia | omega)), List.length_replicate, List.getElem?_map] at e2
      rw [List.getElem?_map] at hN
      cases hp : cap[i - tn.length]? with
      | none => rw [hp] at hN; cases hN
      | some p =>
        rw [hp] at hN e2
        have hx : p.1 = x := Option.some.inj hN
        have he : (σ[p.2]?).getD none = some v := Option.some.inj e2
        obtain ⟨c1, c2, c3⟩ := hcap p (List.mem_of_getElem? hp)
        subst hx
        have hs : σ[p.2]? = some (some v) := by
          cases q : σ[p.2]? with
          | none => rw [q] at he; cases he
          | some z => rw [q] at he; rw [show z = some v from he]
        obtain ⟨m, hn, hl⟩ := I.loc
        obtain ⟨u, r, l⟩ := hl p.2 p.1 v c1 hs (.inr (.inl c2))
        refine ⟨u, r, .inr ⟨c3, ?_⟩⟩
        obtain ⟨c, hc⟩ := hhas p.1 c3
        refine ⟨c, hc, ?_⟩
        rcases l with ⟨l1, _⟩ | ⟨_, c', l2, o, ho, hd⟩
        · have : X.env.kindOf p.1 = some .cell := c2
          rw [this] at l1
          cases l1
        · have : c = c' := Option.some.inj ((hcl p.1 c hc).symm.trans l2)
          subst this
          exact ⟨o, hkp _ _ ho, hd⟩
  cell := fun x c e => by
    obtain ⟨v, o, ho, hd⟩ := I.cell x c (hcl x c e)
    exact ⟨v, o, hkp _ _ ho, hd⟩
  free := I.hok.fresh (Nat.le_refl _)
  freeC := fun x c e => I.freeC x c (hcl x c e)
  pin := fun p hp => by cases hp
  hok := I.hok.kept hkp
  len := by
    unfold capσ
    show _ = (tn ++ cap.map (·.1)).length
    rw [List.length_append, List.length_append, List.length_replicate, List.length_map, List.length_map]
end
end L2

namespace L2
open PySem PySem.Spec PyProof.Rows
/-- a comprehension's reading: W by the turn, a measure, the items so far, the block's names, the heap; p: the list under way -/
def tComp (wi : TI) (k : Nat) (cap : List (Str × Nat)) (g : TG) (te : TE) : TE := fun σ H Q => wi σ H fun J H1 => ∀ p, H1 p = none → ∃ W : Nat → Nat → List V → St → Hp → Prop, (∃ m, W 0 m [] (capσ σ k cap) (upd H1 p (.lst []))) ∧
  ∀ i m ys σc H2, W i m ys σc H2 → H2 p = some (.lst ys) ∧ ((J.stop i H2 ∧ Q (.ref p) H2) ∨ (J.go i H2 ∧ ∀ x H3, J.yld i H2 x H3 → g x σc H3 fun σ3 H4 => te σ3 H4 fun v H5 =>
    H5 p = some (.lst ys) ∧ ys.length < sizeLine ∧ ∃ m', m' < m ∧ W (i + 1) m' (ys ++ [v]) σ3 (upd H5 p (.lst (ys ++ [v])))))
section
variable {X : Cx} {elt iter tg : Expr} {scope : Scope} {pos : Pos} {wi : TI} {g : TG} {te : TE} {cl : List (Str × Addr)}
theorem comp_core0 {pins : List (Addr × Obj)} {σ : St} {H2 : Hp} {s2 : Shared} {it : Addr} {fp : List Addr} {tnn : Nat → Heap → Prop} {J : It} {R : Addr → Hp → Prop} {use : Option (Value → Sem Unit)} {Qp : Value → Shared → Prop} (tn : List Str) (cap : List (Str × Nat)) (hg : ∀ C fp s H, PG (cxComp X (tn ++ cap.map (·.1)) scope cl C fp s H) tg g) (he : ∀ C fp s H, PE (cxComp X (tn ++ cap.map (·.1)) scope cl C fp s H) elt te) (hc : X.calm = true) (hcell : ∀ y ∈ scope.names, y.2 ≠ .cell) (hk : scope.kind = .function) (hcl : ∀ x c, cl.lookup x = some c → X.env.cells.lookup x = some c) (hhas : ∀ C x, ((compEnvC scope cl C X.env).kindOf x = some .cell ∨ (compEnvC scope cl C X.env).kindOf x = some .free) → ∃ c, cl.lookup x = some c) (hcap : ∀ C, ∀ p ∈ cap, X.N[p.2]? = some p.1 ∧ X.env.scope.names.lookup p.1 = some .cell ∧ ((compEnvC scope cl C X.env).kindOf p.1 = some .cell ∨ (compEnvC scope cl C X.env).kindOf p.1 = some .free))
    (I2 : Inv X pins σ H2 s2) (T : Turn X.prog X.w X.K tg J fp it tnn) (st2 : tnn 0 s2.heap) (f2 : ∀ b ∈ fp, FpOk X pins H2 b) (q2 : ∀ p, H2 p = none → ∃ W : Nat → Nat → List V → St → Hp → Prop, (∃ m, W 0 m [] (capσ σ tn.length cap) (upd H2 p (.lst []))) ∧
  ∀ i m ys σc H2, W i m ys σc H2 → H2 p = some (.lst ys) ∧ ((J.stop i H2 ∧ R p H2) ∨ (J.go i H2 ∧ ∀ x H3, J.yld i H2 x H3 → g x σc H3 fun σ3 H4 => te σ3 H4 fun v H5 => H5 p = some (.lst ys) ∧ ys.length < sizeLine ∧ ∃ m', m' < m ∧ W (i + 1) m' (ys ++ [v]) σ3 (upd H5 p (.lst (ys ++ [v]))))))
    (hfin : ∀ (s3 : Shared) (H3 : Hp), Inv X pins σ H3 s3 → (∀ b ∈ fp, FpOk X pins H3 b) → ∀ (acc : Addr) (σ6 : St) (H6 : Hp) (s6 : Shared), Inv (cxComp X (tn ++ cap.map (·.1)) scope cl s3.heap.objs.size fp s3 H3) [] σ6 H6 s6 → R acc H6 → compPost (model X.prog X.w) X.A X.xe use Qp (.ref acc) s3.heap.objs.size (.ok .next) s6) :
    wpAny (model X.prog X.w) X.A (newList []) (fun acc s₃ => wpAny (model X.prog X.w) X.A (newFunctionEnv scope X.env.globals cl [] X.env.qual none Value.none (some X.env)) (fun cenv s₄ => codeAny (model X.prog X.w) X.A (Code.compStart (.ListComp elt [⟨tg, iter, [], 0⟩] scope pos) 0 (Value.ref it) acc { cenv with scope := relabel scope X.env }) (compPost (model X.prog X.w) X.A X.xe use Qp acc cenv.locals) s₄) X.xe s₃) X.xe s2 := by
  have fresh : H2 s2.heap.objs.size = none := I2.fresh
  obtain ⟨W, ⟨m0, w0⟩, turn⟩ := q2 s2.heap.objs.size fresh
  have lt2 : ∀ b ∈ fp, b < s2.heap.objs.size := fun b hb => by
    obtain ⟨o, ho, _⟩ := T.obj _ _ st2 b hb
    exact Heap.lt_size ho
  have I3 : Inv X pins σ (upd H2 s2.heap.objs.size (.lst [])) { s2 with heap := s2.heap.push { cls := .type "list", data := .seq ([] : List Value).toArray } } := I2.lnew (its := []) (t' := s2.toks) .nil (Nat.zero_le _)
  refine wpAny_newObj_type (wpAny_newFunctionEnv hcell (by intro y hy; simp at hy) (fun h1 hns1 hsb1 => ?_) hk)
  dsimp only at hns1 hsb1 ⊢
  generalize hS3 : ({ s2 with heap := s2.heap.push { cls := .type "list", dict := none, data := .seq ([] : List Value).toArray } } : Shared) = s3 at I3
  have hh3 : s2.heap.push { cls := .type "list", dict := none, data := .seq ([] : List Value).toArray } = s3.heap := by rw [← hS3]
  rw [hh3] at hns1 hsb1 ⊢
  have sz3 : s3.heap.objs.size = s2.heap.objs.size + 1 := by rw [← hh3, Heap.size_push]
  have lt3 : ∀ b ∈ fp, b < s3.heap.objs.size := fun b hb => Nat.lt_of_lt_of_le (lt2 b hb) (by rw [sz3]; exact Nat.le_succ _)
  have f3 : ∀ b ∈ fp, FpOk X pins (upd H2 s2.heap.objs.size (.lst [])) b := fun b hb => ⟨by rw [upd_ne (Nat.ne_of_lt (lt2 b hb))]; exact (f2 b hb).1, (f2 b hb).2⟩
  have keep3 : ∀ b o, s3.heap.get? b = some o → h1.get? b = some o := fun b o q => hsb1.extBut b o (Nat.ne_of_lt (Heap.lt_size q)) (Heap.get?_push_of_some _ q)
  have st3 : tnn 0 h1 := T.keep _ _ _ st2 fun b hb o q => keep3 b o (by rw [← hh3]; exact Heap.get?_push_of_some _ q)
  have I4 := (cxComp_start (tn := tn) I3 hk hcl (hhas _) f3 lt3 (hcap _) hns1 keep3).tok (s2.toks + ([] : List (Str × Value)).length)
  have loop : codeAny (model X.prog X.w) X.A (.compLoop (.ListComp elt [⟨tg, iter, [], 0⟩] scope pos) 0 (.ref it) (.ref s2.heap.objs.size) (compEnvC scope cl s3.heap.objs.size X.env))
      (compPost (model X.prog X.w) X.A X.xe use Qp (.ref s2.heap.objs.size) s3.heap.objs.size) { s3 with heap := h1, toks := s2.toks + ([] : List (Str × Value)).length } := by
    refine comp_loop0 (fun n s' => ∃ i ys σ' H', Inv (cxComp X (tn ++ cap.map (·.1)) scope cl s3.heap.objs.size fp s3 (upd H2 s2.heap.objs.size (.lst []))) [] σ' H' s' ∧ tnn i s'.heap ∧ (∀ b ∈ fp, H' b = none) ∧ W i n ys σ' H') ?_ m0
      ⟨0, [], _, _, I4, st3, fun b hb => (f3 b hb).1, w0⟩
    rintro n s5 ⟨i, ys, σ5, H5, I5, st5, fr5, w5⟩
    obtain ⟨hD, alt⟩ := turn i n ys σ5 H5 w5
    have stat : ∀ {H' : Hp}, (∀ b ∈ fp, H' b = none) → ∀ b ∈ fp, FpOk (cxComp X (tn ++ cap.map (·.1)) scope cl s3.heap.objs.size fp s3 (upd H2 s2.heap.objs.size (.lst []))) [] H' b :=
      fun hn b hb => ⟨hn b hb, (I4.ok.exf b hb).1, I4.ok.exfs b hb, .inl hb, (I4.ok.exf b hb).2, fun p hp => by cases hp⟩
    rcases alt with ⟨stop, qn⟩ | ⟨go, step⟩
    · refine thn (T.done (cxComp X (tn ++ cap.map (·.1)) scope cl s3.heap.objs.size fp s3 (upd H2 s2.heap.objs.size (.lst []))) rfl rfl rfl hc i [] s5 σ5 H5 no0 I5 (stat fr5) st5 stop) fun r s6 ⟨hr, I6⟩ => ?_
      subst hr
      exact hfin s3 _ I3 f3 _ σ5 H5 s6 I6 qn
    · refine thn (T.item (cxComp X (tn ++ cap.map (·.1)) scope cl s3.heap.objs.size fp s3 (upd H2 s2.heap.objs.size (.lst []))) rfl rfl rfl hc i [] s5 σ5 H5 no0 I5 (stat fr5) st5 go) fun r s6 ⟨u, hr, h6⟩ => ?_
      subst hr
      refine thn h6 fun _ s7 ⟨x, H7, I7, r7, y7, st7, fr7⟩ => ?_
      have I7' := I7.pinned (stat fr7) (T.obj _ _ st7)
      refine thn (hg _ _ _ _ _ s7 σ5 H7 x u _ I7' r7 (step x H7 y7)) fun _ s8 ⟨σ8, H8, I8, q8⟩ => ?_
      refine thn (he _ _ _ _ _ s8 σ8 H8 _ I8 q8) fun xv s9 ⟨v9, H9, I9, r9, q9⟩ => ?_
      obtain ⟨hD9, hl9, m', hm', w9⟩ := q9
      refine thn (mt_append _ s9 σ8 H9 (.ref s2.heap.objs.size) [v9] (.ref s2.heap.objs.size) [xv] (fun z H' => z = .non ∧ H' = upd H9 s2.heap.objs.size (.lst (ys ++ [v9]))) I9 rfl (.cons r9 .nil)
        ⟨s2.heap.objs.size, ys, v9, rfl, rfl, hD9, hl9, rfl, rfl⟩) fun z s10 ⟨zv, H10, I10, _, _, eH⟩ => ?_
      subst eH
      refine ⟨m', hm', i + 1, ys ++ [v9], σ8, _, I10.unpinned, T.keep _ _ _ st7 fun b hb o q => (I10.pin (b, o) (List.mem_append_right _ (List.mem_append_right _ (mem_pinsAt hb q)))).1, fun b hb => ?_, w9⟩
      obtain ⟨o, q, d⟩ := T.obj _ _ st7 b hb
      exact (I10.pin (b, o) (List.mem_append_right _ (List.mem_append_right _ (mem_pinsAt hb q)))).2.1
  subst hS3
  exact codeAny_compStart_list loop (T.self X.A 0 _ _ _ st3 loop)
theorem pe_comp (tn : List Str) (cap : List (Str × Nat)) (hi : PI X tg iter wi) (hg : ∀ C fp s H, PG (cxComp X (tn ++ cap.map (·.1)) scope cl C fp s H) tg g) (he : ∀ C fp s H, PE (cxComp X (tn ++ cap.map (·.1)) scope cl C fp s H) elt te)
    (hc : X.calm = true) (hclos : closureFor scope X.env = pure cl) (hcell : ∀ y ∈ scope.names, y.2 ≠ .cell) (hk : scope.kind = .function) (hnames : ∀ y ∈ scope.names, y.2 = .local → scope.names.lookup y.1 = some .local)
    (hcl : ∀ x c, cl.lookup x = some c → X.env.cells.lookup x = some c)
    (hhas : ∀ C x, ((compEnvC scope cl C X.env).kindOf x = some .cell ∨ (compEnvC scope cl C X.env).kindOf x = some .free) → ∃ c, cl.lookup x = some c)
    (hcap : ∀ C, ∀ p ∈ cap, X.N[p.2]? = some p.1 ∧ X.env.scope.names.lookup p.1 = some .cell ∧ ((compEnvC scope cl C X.env).kindOf p.1 = some .cell ∨ (compEnvC scope cl C X.env).kindOf p.1 = some .free))
    (hs : ∀ v, foldedSetIterable iter X.env v = pure v) : PE X (.ListComp elt [⟨tg, iter, [], 0⟩] scope pos) (tComp wi tn.length cap g te) := by
  intro pins s σ H Q I h
  rw [eval_ListComp]
  refine wpAny_comprehension_free (use := none) rfl hs hclos hk hnames (thn (hi pins s σ H _ I h) fun v s1 h1 => thn h1 fun itv s2 h2 => ?_)
  obtain ⟨it, fp, tnn, J, H2, e, I2, T, st2, f2, q2⟩ := h2
  subst e
  refine comp_core0 (R := fun p H6 => Q (.ref p) H6) tn cap hg he hc hcell hk hcl hhas hcap I2 T st2 f2 q2 fun s3 H3 I3 f3 acc σ6 H6 s6 I6 q6 => ?_
  obtain ⟨m, hn, _⟩ := I6.loc
  refine ⟨m, hn, fun h' sb => ?_⟩
  have nC : ∀ b o, s3.heap.get? b = some o → b ≠ s3.heap.objs.size := fun b o q => Nat.ne_of_lt (Heap.lt_size q)
  have u : Un (frs X.stack) fp H3 H6 s3.heap h' := by
    have u0 := I6.base
    refine ⟨fun b o q n hb hx => (sb.2 b (nC b o q)).trans (u0.keep b o q n hb hx), fun b o q n hb hx => ?_, u0.free, fun b o q hx => ?_, u0.tups, u0.frzs, u0.tbls⟩
    · obtain ⟨sl, e⟩ := u0.slot b o q n hb hx
      exact ⟨sl, (sb.2 b (nC b o q)).trans e⟩
    · obtain ⟨o', e⟩ := u0.there b o q hx
      exact ⟨o', (sb.2 b (nC b o q)).trans e⟩
  have free6 : H6 s3.heap.objs.size = none := I6.free
  have ok6 : HOk X.prog X.w H6 h' := fun b o q => (I6.hok b o q).stay (fun c v hcv r => (sb.2 c (by
    rcases hcv with z | z
    · rw [z]
      exact ne_of_none q free6
    · exact ne_of_none z free6)).trans r) (fun _ q => q) fun _ _ q => q
  have I' := I3.call (g' := s6.gens) (d' := s6.drawn) (t' := s6.toks) (ch := fp) u ok6 I6.bare fun b hb => ⟨(f3 b hb).2.2.2.1, (f3 b hb).2.1, (f3 b hb).2.2.2.2.1, (f3 b hb).2.2.2.2.2⟩
  have e : ({ s6 with heap := h' } : Shared) = { s3 with heap := h', gens := s6.gens, drawn := s6.drawn, toks := s6.toks } := by
    have ho : s6.os = s3.os := I6.os
    obtain ⟨a1, a2, a3, a4, a5⟩ := s6
    obtain ⟨b1, b2, b3, b4, b5⟩ := s3
    simp only at ho
    subst ho
    rfl
  rw [e]
  exact ⟨.ref _, H6, I', rfl, q6⟩
end
end L2

/-! [elt for tg in iter if ct] -/
namespace L2
open PySem PySem.Spec PyProof.Rows
section
variable {prog : Program} {w : World} {A : Around} {s : Shared} {R : Result → Shared → Prop}
theorem comp_loop1 {elt ct target iter : Expr} {scope : Scope} {pos : Pos} {it acc : Value} {env : Env} (I : Nat → Shared → Prop)
    (turn : ∀ n s, I n s → wpAny (model prog w) A (pyNext it) (fun r s1 => match r with
      | none => R (.ok .next) s1
      | some v => wpAny (model prog w) A (letOwnedTupleGo target it v) (fun _ s2 => wpAny (model prog w) A (assign target env v) (fun _ s3 => wpAny (model prog w) A (isTrue ct env (eval ct env)) (fun ok s3' =>
          if ok = true then wpAny (model prog w) A (eval elt env) (fun x s4 =>
          wpAny (model prog w) A (call (.builtin "list.append") [acc, x]) (fun _ s5 => ∃ m, m < n ∧ I m s5) no0 s4) no0 s3' else ∃ m, m < n ∧ I m s3') no0 s3) no0 s2) no0 s1) no0 s)
    (n : Nat) (h : I n s) : codeAny (model prog w) A (.compLoop (.ListComp elt [⟨target, iter, [ct], 0⟩] scope pos) 0 it acc env) R s := by
  refine codeAny_loop rfl I (fun n s hI => ?_) n h
  show wpAny _ _ ((compTurn (.ListComp elt [⟨target, iter, [ct], 0⟩] scope pos) 0 it acc env).onRaise (fun x => do noteFrame x env; theTreesLotGoes x)) _ _ s
  refine wpAny_noted ?_
  rw [compTurn_list]
  refine wpAny_bind (wpAny_standAt (wpAny_bind (wpAny_mono (turn n s hI) (fun r s1 h1 => ?_) fun _ _ h' => h'.elim)))
  cases r with
  | none => exact wpAny_pure h1
  | some v =>
    refine wpAny_bind (wpAny_mono h1 (fun _ s2 h2 => ?_) fun _ _ h' => h'.elim)
    refine wpAny_bind (wpAny_mono h2 (fun _ s3 h3 => ?_) fun _ _ h' => h'.elim)
    refine wpAny_bind (wpAny_tests_one (wpAny_mono h3 (fun ok s3' h3' => ?_) fun _ _ h' => h'.elim))
    cases ok with
    | true =>
      simp only [if_true] at h3' ⊢
      refine wpAny_bind (wpAny_bind (wpAny_mono h3' (fun x s4 h4 => ?_) fun _ _ h' => h'.elim))
      exact wpAny_bind (wpAny_mono h4 (fun _ s5 h5 => wpAny_pure (wpAny_pure ⟨rfl, h5⟩)) fun _ _ h' => h'.elim)
    | false =>
      simp only [Bool.false_eq_true, if_false] at h3' ⊢
      exact wpAny_pure ⟨rfl, h3'⟩
end
/-- a comprehension's reading with a test: W by the turn, a measure, the items so far, the block's names, the heap; p: the list under way -/
def tCompT (wi : TI) (k : Nat) (cap : List (Str × Nat)) (g : TG) (tt : TT) (te : TE) : TE := fun σ H Q => wi σ H fun J H1 => ∀ p, H1 p = none → ∃ W : Nat → Nat → List V → St → Hp → Prop, (∃ m, W 0 m [] (capσ σ k cap) (upd H1 p (.lst []))) ∧
  ∀ i m ys σc H2, W i m ys σc H2 → H2 p = some (.lst ys) ∧ ((J.stop i H2 ∧ Q (.ref p) H2) ∨ (J.go i H2 ∧ ∀ x H3, J.yld i H2 x H3 → g x σc H3 fun σ3 H4 => tt σ3 H4 fun b H4' => if b = true then te σ3 H4' fun v H5 =>
    H5 p = some (.lst ys) ∧ ys.length < sizeLine ∧ ∃ m', m' < m ∧ W (i + 1) m' (ys ++ [v]) σ3 (upd H5 p (.lst (ys ++ [v])))
    else ∃ m', m' < m ∧ W (i + 1) m' ys σ3 H4'))
section
variable {X : Cx} {elt ct iter tg : Expr} {scope : Scope} {pos : Pos} {wi : TI} {g : TG} {tt : TT} {te : TE} {cl : List (Str × Addr)}
theorem comp_core1 {pins : List (Addr × Obj)} {σ : St} {H2 : Hp} {s2 : Shared} {it : Addr} {fp : List Addr} {tnn : Nat → Heap → Prop} {J : It} {R : Addr → Hp → Prop} {use : Option (Value → Sem Unit)} {Qp : Value → Shared → Prop} (tn : List Str) (cap : List (Str × Nat)) (hg : ∀ C fp s H, PG (cxComp X (tn ++ cap.map (·.1)) scope cl C fp s H) tg g) (ht : ∀ C fp s H, PT (cxComp X (tn ++ cap.map (·.1)) scope cl C fp s H) ct tt) (he : ∀ C fp s H, PE (cxComp X (tn ++ cap.map (·.1)) scope cl C fp s H) elt te) (hc : X.calm = true) (hcell : ∀ y ∈ scope.names, y.2 ≠ .cell) (hk : scope.kind = .function) (hcl : ∀ x c, cl.lookup x = some c → X.env.cells.lookup x = some c) (hhas : ∀ C x, ((compEnvC scope cl C X.env).kindOf x = some .cell ∨ (compEnvC scope cl C X.env).kindOf x = some .free) → ∃ c, cl.lookup x = some c) (hcap : ∀ C, ∀ p ∈ cap, X.N[p.2]? = some p.1 ∧ X.env.scope.names.lookup p.1 = some .cell ∧ ((compEnvC scope cl C X.env).kindOf p.1 = some .cell ∨ (compEnvC scope cl C X.env).kindOf p.1 = some .free))
    (I2 : Inv X pins σ H2 s2) (T : Turn X.prog X.w X.K tg J fp it tnn) (st2 : tnn 0 s2.heap) (f2 : ∀ b ∈ fp, FpOk X pins H2 b) (q2 : ∀ p, H2 p = none → ∃ W : Nat → Nat → List V → St → Hp → Prop, (∃ m, W 0 m [] (capσ σ tn.length cap) (upd H2 p (.lst []))) ∧
  ∀ i m ys σc H2, W i m ys σc H2 → H2 p = some (.lst ys) ∧ ((J.stop i H2 ∧ R p H2) ∨ (J.go i H2 ∧ ∀ x H3, J.yld i H2 x H3 → g x σc H3 fun σ3 H4 => tt σ3 H4 fun b H4' => if b = true then te σ3 H4' fun v H5 => H5 p = some (.lst ys) ∧ ys.length < sizeLine ∧ ∃ m', m' < m ∧ W (i + 1) m' (ys ++ [v]) σ3 (upd H5 p (.lst (ys ++ [v]))) else ∃ m', m' < m ∧ W (i + 1) m' ys σ3 H4')))
    (hfin : ∀ (s3 : Shared) (H3 : Hp), Inv X pins σ H3 s3 → (∀ b ∈ fp, FpOk X pins H3 b) → ∀ (acc : Addr) (σ6 : St) (H6 : Hp) (s6 : Shared), Inv (cxComp X (tn ++ cap.map (·.1)) scope cl s3.heap.objs.size fp s3 H3) [] σ6 H6 s6 → R acc H6 → compPost (model X.prog X.w) X.A X.xe use Qp (.ref acc) s3.heap.objs.size (.ok .next) s6) :
    wpAny (model X.prog X.w) X.A (newList []) (fun acc s₃ => wpAny (model X.prog X.w) X.A (newFunctionEnv scope X.env.globals cl [] X.env.qual none Value.none (some X.env)) (fun cenv s₄ => codeAny (model X.prog X.w) X.A (Code.compStart (.ListComp elt [⟨tg, iter, [ct], 0⟩] scope pos) 0 (Value.ref it) acc { cenv with scope := relabel scope X.env }) (compPost (model X.prog X.w) X.A X.xe use Qp acc cenv.locals) s₄) X.xe s₃) X.xe s2 := by
  have fresh : H2 s2.heap.objs.size = none := I2.fresh
  obtain ⟨W, ⟨m0, w0⟩, turn⟩ := q2 s2.heap.objs.size fresh
  have lt2 : ∀ b ∈ fp, b < s2.heap.objs.size := fun b hb => by
    obtain ⟨o, ho, _⟩ := T.obj _ _ st2 b hb
    exact Heap.lt_size ho
  have I3 : Inv X pins σ (upd H2 s2.heap.objs.size (.lst [])) { s2 with heap := s2.heap.push { cls := .type "list", data := .seq ([] : List Value).toArray } } := I2.lnew (its := []) (t' := s2.toks) .nil (Nat.zero_le _)
  refine wpAny_newObj_type (wpAny_newFunctionEnv hcell (by intro y hy; simp at hy) (fun h1 hns1 hsb1 => ?_) hk)
  dsimp only at hns1 hsb1 ⊢
  generalize hS3 : ({ s2 with heap := s2.heap.push { cls := .type "list", dict := none, data := .seq ([] : List Value).toArray } } : Shared) = s3 at I3
  have hh3 : s2.heap.push { cls := .type "list", dict := none, data := .seq ([] : List Value).toArray } = s3.heap := by rw [← hS3]
  rw [hh3] at hns1 hsb1 ⊢
  have sz3 : s3.heap.objs.size = s2.heap.objs.size + 1 := by rw [← hh3, Heap.size_push]
  have lt3 : ∀ b ∈ fp, b < s3.heap.objs.size := fun b hb => Nat.lt_of_lt_of_le (lt2 b hb) (by rw [sz3]; exact Nat.le_succ _)
  have f3 : ∀ b ∈ fp, FpOk X pins (upd H2 s2.heap.objs.size (.lst [])) b := fun b hb => ⟨by rw [upd_ne (Nat.ne_of_lt (lt2 b hb))]; exact (f2 b hb).1, (f2 b hb).2⟩
  have keep3 : ∀ b o, s3.heap.get? b = some o → h1.get? b = some o := fun b o q => hsb1.extBut b o (Nat.ne_of_lt (Heap.lt_size q)) (Heap.get?_push_of_some _ q)
  have st3 : tnn 0 h1 := T.keep _ _ _ st2 fun b hb o q => keep3 b o (by rw [← hh3]; exact Heap.get?_push_of_some _ q)
  have I4 := (cxComp_start (tn := tn) I3 hk hcl (hhas _) f3 lt3 (hcap _) hns1 keep3).tok (s2.toks + ([] : List (Str × Value)).length)
  have loop : codeAny (model X.prog X.w) X.A (.compLoop (.ListComp elt [⟨tg, iter, [ct], 0⟩] scope pos) 0 (.ref it) (.ref s2.heap.objs.size) (compEnvC scope cl s3.heap.objs.size X.env))
      (compPost (model X.prog X.w) X.A X.xe use Qp (.ref s2.heap.objs.size) s3.heap.objs.size) { s3 with heap := h1, toks := s2.toks + ([] : List (Str × Value)).length } := by
    refine comp_loop1 (fun n s' => ∃ i ys σ' H', Inv (cxComp X (tn ++ cap.map (·.1)) scope cl s3.heap.objs.size fp s3 (upd H2 s2.heap.objs.size (.lst []))) [] σ' H' s' ∧ tnn i s'.heap ∧ (∀ b ∈ fp, H' b = none) ∧ W i n ys σ' H') ?_ m0
      ⟨0, [], _, _, I4, st3, fun b hb => (f3 b hb).1, w0⟩
    rintro n s5 ⟨i, ys, σ5, H5, I5, st5, fr5, w5⟩
    obtain ⟨hD, alt⟩ := turn i n ys σ5 H5 w5
    have stat : ∀ {H' : Hp}, (∀ b ∈ fp, H' b = none) → ∀ b ∈ fp, FpOk (cxComp X (tn ++ cap.map (·.1)) scope cl s3.heap.objs.size fp s3 (upd H2 s2.heap.objs.size (.lst []))) [] H' b :=
      fun hn b hb => ⟨hn b hb, (I4.ok.exf b hb).1, I4.ok.exfs b hb, .inl hb, (I4.ok.exf b hb).2, fun p hp => by cases hp⟩
    rcases alt with ⟨stop, qn⟩ | ⟨go, step⟩
    · refine thn (T.done (cxComp X (tn ++ cap.map (·.1)) scope cl s3.heap.objs.size fp s3 (upd H2 s2.heap.objs.size (.lst []))) rfl rfl rfl hc i [] s5 σ5 H5 no0 I5 (stat fr5) st5 stop) fun r s6 ⟨hr, I6⟩ => ?_
      subst hr
      exact hfin s3 _ I3 f3 _ σ5 H5 s6 I6 qn
    · refine thn (T.item (cxComp X (tn ++ cap.map (·.1)) scope cl s3.heap.objs.size fp s3 (upd H2 s2.heap.objs.size (.lst []))) rfl rfl rfl hc i [] s5 σ5 H5 no0 I5 (stat fr5) st5 go) fun r s6 ⟨u, hr, h6⟩ => ?_
      subst hr
      refine thn h6 fun _ s7 ⟨x, H7, I7, r7, y7, st7, fr7⟩ => ?_
      have I7' := I7.pinned (stat fr7) (T.obj _ _ st7)
      refine thn (hg _ _ _ _ _ s7 σ5 H7 x u _ I7' r7 (step x H7 y7)) fun _ s8 ⟨σ8, H8, I8, q8⟩ => ?_
      refine thn (ht _ _ _ _ _ s8 σ8 H8 _ I8 q8) fun ok s8' ⟨H8', I8', q8'⟩ => ?_
      cases ok with
      | true =>
        simp only [if_true] at q8' ⊢
        refine thn (he _ _ _ _ _ s8' σ8 H8' _ I8' q8') fun xv s9 ⟨v9, H9, I9, r9, q9⟩ => ?_
        obtain ⟨hD9, hl9, m', hm', w9⟩ := q9
        refine thn (mt_append _ s9 σ8 H9 (.ref s2.heap.objs.size) [v9] (.ref s2.heap.objs.size) [xv] (fun z H' => z = .non ∧ H' = upd H9 s2.heap.objs.size (.lst (ys ++ [v9]))) I9 rfl (.cons r9 .nil)
          ⟨s2.heap.objs.size, ys, v9, rfl, rfl, hD9, hl9, rfl, rfl⟩) fun z s10 ⟨zv, H10, I10, _, _, eH⟩ => ?_
        subst eH
        refine ⟨m', hm', i + 1, ys ++ [v9], σ8, _, I10.unpinned, T.keep _ _ _ st7 fun b hb o q => (I10.pin (b, o) (List.mem_append_right _ (List.mem_append_right _ (mem_pinsAt hb q)))).1, fun b hb => ?_, w9⟩
        obtain ⟨o, q, d⟩ := T.obj _ _ st7 b hb
        exact (I10.pin (b, o) (List.mem_append_right _ (List.mem_append_right _ (mem_pinsAt hb q)))).2.1
      | false =>
        simp only [Bool.false_eq_true, if_false] at q8' ⊢
        obtain ⟨m', hm', w9⟩ := q8'
        refine ⟨m', hm', i + 1, ys, σ8, _, I8'.unpinned, T.keep _ _ _ st7 fun b hb o q => (I8'.pin (b, o) (List.mem_append_right _ (List.mem_append_right _ (mem_pinsAt hb q)))).1, fun b hb => ?_, w9⟩
        obtain ⟨o, q, d⟩ := T.obj _ _ st7 b hb
        exact (I8'.pin (b, o) (List.mem_append_right _ (List.mem_append_right _ (mem_pinsAt hb q)))).2.1
  subst hS3
  exact codeAny_compStart_list loop (T.self X.A 0 _ _ _ st3 loop)
theorem pe_comp_if (tn : List Str) (cap : List (Str × Nat)) (hi : PI X tg iter wi) (hg : ∀ C fp s H, PG (cxComp X (tn ++ cap.map (·.1)) scope cl C fp s H) tg g) (ht : ∀ C fp s H, PT (cxComp X (tn ++ cap.map (·.1)) scope cl C fp s H) ct tt) (he : ∀ C fp s H, PE (cxComp X (tn ++ cap.map (·.1)) scope cl C fp s H) elt te)
    (hc : X.calm = true) (hclos : closureFor scope X.env = pure cl) (hcell : ∀ y ∈ scope.names, y.2 ≠ .cell) (hk : scope.kind = .function) (hnames : ∀ y ∈ scope.names, y.2 = .local → scope.names.lookup y.1 = some .local)
    (hcl : ∀ x c, cl.lookup x = some c → X.env.cells.lookup x = some c)
    (hhas : ∀ C x, ((compEnvC scope cl C X.env).kindOf x = some .cell ∨ (compEnvC scope cl C X.env).kindOf x = some .free) → ∃ c, cl.lookup x = some c)
    (hcap : ∀ C, ∀ p ∈ cap, X.N[p.2]? = some p.1 ∧ X.env.scope.names.lookup p.1 = some .cell ∧ ((compEnvC scope cl C X.env).kindOf p.1 = some .cell ∨ (compEnvC scope cl C X.env).kindOf p.1 = some .free))
    (hs : ∀ v, foldedSetIterable iter X.env v = pure v) : PE X (.ListComp elt [⟨tg, iter, [ct], 0⟩] scope pos) (tCompT wi tn.length cap g tt te) := by
  intro pins s σ H Q I h
  rw [eval_ListComp]
  refine wpAny_comprehension_free (use := none) rfl hs hclos hk hnames (thn (hi pins s σ H _ I h) fun v s1 h1 => thn h1 fun itv s2 h2 => ?_)
  obtain ⟨it, fp, tnn, J, H2, e, I2, T, st2, f2, q2⟩ := h2
  subst e
  refine comp_core1 (R := fun p H6 => Q (.ref p) H6) tn cap hg ht he hc hcell hk hcl hhas hcap I2 T st2 f2 q2 fun s3 H3 I3 f3 acc σ6 H6 s6 I6 q6 => ?_
  obtain ⟨m, hn, _⟩ := I6.loc
  refine ⟨m, hn, fun h' sb => ?_⟩
  have nC : ∀ b o, s3.heap.get? b = some o → b ≠ s3.heap.objs.size := fun b o q => Nat.ne_of_lt (Heap.lt_size q)
  have u : Un (frs X.stack) fp H3 H6 s3.heap h' := by
    have u0 := I6.base
    refine ⟨fun b o q n hb hx => (sb.2 b (nC b o q)).trans (u0.keep b o q n hb hx), fun b o q n hb hx => ?_, u0.free, fun b o q hx => ?_, u0.tups, u0.frzs, u0.tbls⟩
    · obtain ⟨sl, e⟩ := u0.slot b o q n hb hx
      exact ⟨sl, (sb.2 b (nC b o q)).trans e⟩
    · obtain ⟨o', e⟩ := u0.there b o q hx
      exact ⟨o', (sb.2 b (nC b o q)).trans e⟩
  have free6 : H6 s3.heap.objs.size = none := I6.free
  have ok6 : HOk X.prog X.w H6 h' := fun b o q => (I6.hok b o q).stay (fun c v hcv r => (sb.2 c (by
    rcases hcv with z | z
    · rw [z]
      exact ne_of_none q free6
    · exact ne_of_none z free6)).trans r) (fun _ q => q) fun _ _ q => q
  have I' := I3.call (g' := s6.gens) (d' := s6.drawn) (t' := s6.toks) (ch := fp) u ok6 I6.bare fun b hb => ⟨(f3 b hb).2.2.2.1, (f3 b hb).2.1, (f3 b hb).2.2.2.2.1, (f3 b hb).2.2.2.2.2⟩
  have e : ({ s6 with heap := h' } : Shared) = { s3 with heap := h', gens := s6.gens, drawn := s6.drawn, toks := s6.toks } := by
    have ho : s6.os = s3.os := I6.os
    obtain ⟨a1, a2, a3, a4, a5⟩ := s6
    obtain ⟨b1, b2, b3, b4, b5⟩ := s3
    simp only at ho
    subst ho
    rfl
  rw [e]
  exact ⟨.ref _, H6, I', rfl, q6⟩
end
end L2

/-! < of lists and of tuples, place by place, of data at any depth -/
namespace PySem.SeqAt
open AutoSeq1 (wpAny_loadPart')
open MeetsSeq MeetsSeq2 MeetsSeq3 SeqRoads2
end PySem.SeqAt

/-! < of data: one relation for ints, texts, lists and tuples of them -/
namespace L2
open PySem PySem.Spec PyProof.Rows PySem.SeqAt
end L2

/-! min(l, key=f, default=d) over a list, the key a def of the text -/
namespace L2
open PySem PySem.Spec PyProof.Rows PySem.SeqAt
end L2
namespace L2
open PySem PySem.Spec PyProof.Rows PySem.SeqAt
end L2
namespace L2
open PySem PySem.Spec PyProof.Rows PySem.SeqAt
end L2
namespace L2
open PySem PySem.Spec PyProof.Rows PySem.SeqAt
end L2

/-! the order of groves: the promises of rank, before, least_among -/
namespace Fg
open PySem L2 FgM PySem.SeqAt
end Fg

/-! == of groves, whatever their depth: the data of a grove -/
namespace L2
open PySem PySem.Spec PyProof.Rows
end L2
namespace Fg
open PySem L2 FgM
end Fg

namespace L2
open PySem PySem.Spec PyProof.Rows PySem.SeqAt
/-! list(reversed(l)) -/
end L2

/-! the reading of [e for x in l], and what a block without captured names is -/
namespace L2
open PySem PySem.Spec PyProof.Rows
def CW (n : Nat) (Pv : Nat → List V → St → Hp → Prop) : Nat → Nat → List V → St → Hp → Prop := fun i m ys σ H => m = n - i ∧ i ≤ n ∧ Pv i ys σ H
theorem CW.next {n i : Nat} {Pv : Nat → List V → St → Hp → Prop} {ys : List V} {σ : St} {H : Hp} (hi : i < n) (h : Pv (i + 1) ys σ H) : ∃ m', m' < n - i ∧ CW n Pv (i + 1) m' ys σ H := ⟨_, by (first | lia | omega), rfl, hi, h⟩
theorem nd1 {x : Str} : [x].Nodup := by simp
theorem comp_list {K : PySem.W.Frag} {a p : Addr} {xs : List V} {g : TG} {te : TE} {R : Hp → Prop} {σ0 : St} {H0 : Hp} (Pv : Nat → List V → St → Hp → Prop) (h0 : Pv 0 [] σ0 H0)
    (hl : ∀ i ys σ H, i ≤ xs.length → Pv i ys σ H → SqL K H a xs ∧ H p = some (.lst ys))
    (hs : ∀ i ys x σ H, i < xs.length → xs[i]? = some x → Pv i ys σ H → g x σ H fun σ3 H4 => te σ3 H4 fun v H5 => H5 p = some (.lst ys) ∧ ys.length < sizeLine ∧ ∃ m', m' < xs.length - i ∧ CW xs.length Pv (i + 1) m' (ys ++ [v]) σ3 (upd H5 p (.lst (ys ++ [v]))))
    (hd : ∀ ys σ H, Pv xs.length ys σ H → R H) :
    ∃ W : Nat → Nat → List V → St → Hp → Prop, (∃ m, W 0 m [] σ0 H0) ∧ ∀ i m ys σc H2, W i m ys σc H2 → H2 p = some (.lst ys) ∧ (((Itl K a).stop i H2 ∧ R H2) ∨ ((Itl K a).go i H2 ∧ ∀ x H3, (Itl K a).yld i H2 x H3 → g x σc H3 fun σ3 H4 => te σ3 H4 fun v H5 =>
      H5 p = some (.lst ys) ∧ ys.length < sizeLine ∧ ∃ m', m' < m ∧ W (i + 1) m' (ys ++ [v]) σ3 (upd H5 p (.lst (ys ++ [v]))))) := by
  refine ⟨CW xs.length Pv, ⟨_, rfl, Nat.zero_le _, h0⟩, ?_⟩
  rintro i m ys σ H ⟨rfl, hi, hp⟩
  obtain ⟨h1, h2⟩ := hl i ys σ H hi hp
  refine ⟨h2, ?_⟩
  by_cases hlt : i < xs.length
  · refine .inr ⟨⟨xs, xs[i], h1, List.getElem?_eq_getElem hlt⟩, ?_⟩
    rintro x H3 ⟨rfl, hx⟩
    exact hs i ys x σ _ hlt (hx xs h1) hp
  · refine .inl ⟨⟨xs, h1, by (first | lia | omega)⟩, hd ys σ H ?_⟩
    have e : i = xs.length := by (first | lia | omega)
    rw [← e]
    exact hp
theorem nofree {scope : Scope} {env : Env} (h : ∀ y ∈ scope.names, y.2 ≠ .cell ∧ y.2 ≠ .free) {cl : List (Str × Addr)} : ∀ (C : Addr) (x : Str), ((compEnvC scope cl C env).kindOf x = some .cell ∨ (compEnvC scope cl C env).kindOf x = some .free) → ∃ c, cl.lookup x = some c := by
  have key : ∀ (l : List (Str × NameKind)) (x : Str), (∀ y ∈ l, y.2 ≠ .cell ∧ y.2 ≠ .free) → ∀ k, (l.map fun (n, k) => if (k == .free && env.scope.kind == .function && env.kindOf n == some .cell) then (n, .cell) else (n, k)).lookup x = some k → k ≠ .cell ∧ k ≠ .free := by
    intro l
    induction l with
    | nil => intro x _ k e; simp at e
    | cons y l ih =>
      intro x hy k e
      obtain ⟨n, kd⟩ := y
      have hk := hy _ (List.mem_cons_self ..)
      have e0 : (kd == NameKind.free && env.scope.kind == .function && env.kindOf n == some .cell) = false := by
        have : (kd == NameKind.free) = false := by
          cases kd <;> first | rfl | exact absurd rfl hk.2
        rw [this]; rfl
      simp only [List.map_cons, e0, Bool.false_eq_true, if_false, List.lookup_cons] at e
      cases hx : x == n with
      | true =>
        rw [hx] at e
        cases e
        exact hk
      | false =>
        rw [hx] at e
        exact ih x (fun y hm => hy y (List.mem_cons_of_mem _ hm)) k e
  intro C x hx
  rcases hx with e | e
  · exact absurd rfl (key _ x h _ e).1
  · exact absurd rfl (key _ x h _ e).2
end L2
namespace FgM
end FgM

/-! x = [elt for tg in iter], x = [elt for tg in iter if ct]: the name is bound ahead of the block's end -/
namespace L2
open PySem PySem.Spec PyProof.Rows
section
variable {X : Cx} {elt iter tg : Expr} {scope : Scope} {pos : Pos} {wi : TI} {g : TG} {te : TE} {cl : List (Str × Addr)}
theorem ps_set_comp {y : Str} {py spos : Pos} {n0 : Nat} (hN : X.N.Nodup) (hi0 : X.N[n0]? = some y) (hx : Loc X.env.scope y) (tn : List Str) (cap : List (Str × Nat)) (hi : PI X tg iter wi) (hg : ∀ C fp s H, PG (cxComp X (tn ++ cap.map (·.1)) scope cl C fp s H) tg g) (he : ∀ C fp s H, PE (cxComp X (tn ++ cap.map (·.1)) scope cl C fp s H) elt te)
    (hc : X.calm = true) (hclos : closureFor scope X.env = pure cl) (hcell : ∀ y ∈ scope.names, y.2 ≠ .cell) (hk : scope.kind = .function) (hnames : ∀ y ∈ scope.names, y.2 = .local → scope.names.lookup y.1 = some .local)
    (hcl : ∀ x c, cl.lookup x = some c → X.env.cells.lookup x = some c)
    (hhas : ∀ C x, ((compEnvC scope cl C X.env).kindOf x = some .cell ∨ (compEnvC scope cl C X.env).kindOf x = some .free) → ∃ c, cl.lookup x = some c)
    (hcap : ∀ C, ∀ p ∈ cap, X.N[p.2]? = some p.1 ∧ X.env.scope.names.lookup p.1 = some .cell ∧ ((compEnvC scope cl C X.env).kindOf p.1 = some .cell ∨ (compEnvC scope cl C X.env).kindOf p.1 = some .free))
    (hs : ∀ v, foldedSetIterable iter X.env v = pure v) (hsw : swapsWith (.ListComp elt [⟨tg, iter, [], 0⟩] scope pos) (some (.Name y py)) spos.line X.env = pure true) (hf : X.fn y = true ∨ X.env.scope.names.lookup y = some .local := by first | exact .inl rfl | exact .inr rfl | assumption) :
    PS X (.Assign [.Name y py] (.ListComp elt [⟨tg, iter, [], 0⟩] scope pos) spos) (tAsg (tComp wi tn.length cap g te) (gName n0)) := by
  intro pins s σ H D I h
  rw [exec_Assign_Name_used _ _ _ _ hsw]
  refine wpAny_bind (wpAny_standAt (wpAny_bind ?_))
  show wpAny _ X.A (do let _ ← comprehension (.ListComp elt [⟨tg, iter, [], 0⟩] scope pos) scope X.env _ (newList []) false (eval iter X.env) (some (assign (.Name y py) X.env))) _ _ s
  refine wpAny_bind (wpAny_mono (wpAny_comprehension_free (use := some (assign (.Name y py) X.env)) (Q := fun _ s' => SP X pins D .next s') rfl hs hclos hk hnames (thn (hi pins s σ H _ I h) fun v s1 h1 => thn h1 fun itv s2 h2 => ?_)) (fun _ s' hq => wpAny_pure (wpAny_pure hq)) fun _ _ e => e)
  obtain ⟨it, fp, tnn, J, H2, e, I2, T, st2, f2, q2⟩ := h2
  subst e
  refine comp_core0 (R := fun p H6 => gName n0 (.ref p) σ H6 (fun σ' H' => D.nx σ' H')) tn cap hg he hc hcell hk hcl hhas hcap I2 T st2 f2 q2 fun s3 H3 I3 f3 acc σ6 H6 s6 I6 q6 => ?_
  obtain ⟨m, hn, _⟩ := I6.loc
  have I' : Inv X pins σ H6 s6 := I3.call' (ch := fp) I6.os I6.base I6.hok I6.bare fun b hb => ⟨(f3 b hb).2.2.2.1, (f3 b hb).2.1, (f3 b hb).2.2.2.2.1, (f3 b hb).2.2.2.2.2⟩
  have fC : FpOk X pins H6 s3.heap.objs.size := I3.fpOk (Nat.le_refl _) I6.free
  show wpAny _ X.A (assign (.Name y py) X.env (.ref acc)) _ _ s6
  refine wpAny_assign_Name (store_ok2 (v := .ref acc) I' hN hi0 hx rfl (fun s7 I7 ⟨a, sb, ha⟩ => ?_) hf)
  have nCa : s3.heap.objs.size ≠ a := by
    rcases ha with z | z
    · rw [z]
      exact fC.2.1
    · exact (fC.2.2.2.2.1 _ _ z).symm
  exact ⟨m, hn.sameBut sb nCa, fun h' sb' => ⟨_, H6, I7.turned (t' := s7.toks) (fun b o hb e => (sb'.2 b hb).trans e) fC.1 fC.2.1 fC.2.2.2.1 fC.2.2.2.2.1 fC.2.2.2.2.2, q6⟩⟩
end
end L2
namespace L2
open PySem PySem.Spec PyProof.Rows
end L2

namespace L2
open PySem PySem.Spec PyProof.Rows

/-! ### lists of pairs as tables -/
section
variable {κ : Type} [DecidableEq κ]
def valV (kvs : List (κ × V)) (k : κ) : Option V := (kvs.find? fun kv => decide (kv.1 = k)).map (·.2)
/-- in its place, or at the end -/
def putK (kvs : List (κ × V)) (k : κ) (v : V) : List (κ × V) :=
  if (kvs.any fun kv => decide (kv.1 = k)) = true then kvs.map (fun kv => if kv.1 = k then (kv.1, v) else kv) else kvs ++ [(k, v)]
theorem valV_pos {p : κ × V} {r : List (κ × V)} {k : κ} (e : p.1 = k) : valV (p :: r) k = some p.2 := by simp [valV, List.find?_cons, e]
theorem valV_neg {p : κ × V} {r : List (κ × V)} {k : κ} (e : ¬ p.1 = k) : valV (p :: r) k = valV r k := by simp [valV, List.find?_cons, e]
theorem valV_any (k : κ) : ∀ kvs : List (κ × V), (kvs.any fun kv => decide (kv.1 = k)) = (valV kvs k).isSome
  | [] => rfl
  | p :: r => by
    rw [List.any_cons]
    by_cases e : p.1 = k
    · simp only [valV_pos e, decide_eq_true e, Bool.true_or, Option.isSome_some]
    · rw [valV_neg e, decide_eq_false e, Bool.false_or]; exact valV_any k r
theorem valV_map (k j : κ) (y : V) : ∀ kvs : List (κ × V), valV (kvs.map fun kv => if kv.1 = k then (kv.1, y) else kv) j = (valV kvs j).map fun x => if j = k then y else x
  | [] => rfl
  | p :: r => by
    have ih := valV_map k j y r
    rw [List.map_cons]
    by_cases h : p.1 = k
    · rw [if_pos h]
      by_cases e : p.1 = j
      · rw [valV_pos (p := (p.1, y)) e, valV_pos e, Option.map_some, if_pos (e.symm.trans h)]
      · rw [valV_neg (p := (p.1, y)) e, valV_neg e, ih]
    · rw [if_neg h]
      by_cases e : p.1 = j
      · rw [valV_pos (p := p) e, valV_pos e, Option.map_some, if_neg (fun z => h (e.trans z))]
      · rw [valV_neg (p := p) e, valV_neg e, ih]
theorem valV_snoc (k j : κ) (y : V) : ∀ kvs : List (κ × V), valV kvs k = none → valV (kvs ++ [(k, y)]) j = if j = k then some y else valV kvs j
  | [], _ => by
    by_cases e : k = j
    · rw [if_pos e.symm]; exact valV_pos (p := (k, y)) e
    · rw [if_neg (fun z => e z.symm)]; exact valV_neg (p := (k, y)) e
  | p :: r, hn => by
    rw [List.cons_append]
    have hk : ¬ p.1 = k := fun z => by rw [valV_pos z] at hn; cases hn
    rw [valV_neg hk] at hn
    have ih := valV_snoc k j y r hn
    by_cases e : p.1 = j
    · rw [valV_pos e, valV_pos e, if_neg (fun z => hk (e.trans z))]
    · rw [valV_neg e, valV_neg e, ih]
theorem valV_put (kvs : List (κ × V)) (k j : κ) (y : V) : valV (putK kvs k y) j = if j = k then some y else valV kvs j := by
  unfold putK
  by_cases a : (kvs.any fun kv => decide (kv.1 = k)) = true
  · rw [if_pos a, valV_map]
    rw [valV_any] at a
    by_cases e : j = k
    · obtain ⟨x, hx⟩ := Option.isSome_iff_exists.mp a
      rw [if_pos e, e, hx, Option.map_some, if_pos rfl]
    · rw [if_neg e]
      cases valV kvs j with
      | none => rfl
      | some x => rw [Option.map_some, if_neg e]
  · rw [if_neg a]
    refine valV_snoc k j y kvs ?_
    rw [valV_any] at a
    cases q : valV kvs k with
    | none => rfl
    | some x => rw [q] at a; exact (a rfl).elim
theorem length_putK (kvs : List (κ × V)) (k : κ) (v : V) : (putK kvs k v).length ≤ kvs.length + 1 := by
  unfold putK
  split
  · rw [List.length_map]; (first | lia | omega)
  · rw [List.length_append, List.length_cons, List.length_nil]; (first | lia | omega)
theorem putK_new {kvs : List (κ × V)} {k : κ} (v : V) (h : valV kvs k = none) : putK kvs k v = kvs ++ [(k, v)] := by
  unfold putK
  rw [valV_any, h]
  exact if_neg (by decide)

theorem RelO.isSome_eq {o : Option V} {u : Option Value} (r : RelO o u) : o.isSome = u.isSome := by
  cases o with
  | none => cases u with
    | none => rfl
    | some _ => exact (show False from r).elim
  | some _ => cases u with
    | none => exact (show False from r).elim
    | some _ => rfl
/-- raw tables of the same keys -/
theorem KV.val {kvs : List (κ × V)} {vs : List (κ × Value)} (r : KV kvs vs) (k : κ) : RelO (valV kvs k) (valueAt vs k) := by
  unfold KV at r
  induction r with
  | nil => exact True.intro
  | @cons p q ps qs h t ih =>
    obtain ⟨h1, h2⟩ := h
    by_cases e : p.1 = k
    · have e' : q.1 = k := h1.symm.trans e
      have b : valueAt (q :: qs) k = some q.2 := by simp [valueAt, List.find?_cons, e']
      rw [valV_pos e, b]; exact h2
    · have e' : ¬ q.1 = k := fun z => e (h1.trans z)
      have b : valueAt (q :: qs) k = valueAt qs k := by simp [valueAt, List.find?_cons, e']
      rw [valV_neg e, b]; exact ih
theorem KV.any {kvs : List (κ × V)} {vs : List (κ × Value)} (r : KV kvs vs) (k : κ) : (kvs.any fun kv => decide (kv.1 = k)) = vs.any fun kv => decide (kv.1 = k) := by
  unfold KV at r
  induction r with
  | nil => rfl
  | cons h t ih => rw [List.any_cons, List.any_cons, ih, h.1]
theorem KV.repl {kvs : List (κ × V)} {vs : List (κ × Value)} (r : KV kvs vs) (k : κ) {y : V} {u : Value} (ry : RelV y u) :
    KV (kvs.map fun kv => if kv.1 = k then (kv.1, y) else kv) (vs.map fun kv => if kv.1 = k then (kv.1, u) else kv) := by
  unfold KV at r ⊢
  induction r with
  | nil => exact .nil
  | @cons p q ps qs h t ih =>
    rw [List.map_cons, List.map_cons]
    refine .cons ?_ ih
    obtain ⟨h1, h2⟩ := h
    by_cases e : p.1 = k
    · rw [if_pos e, if_pos (h1.symm.trans e)]; exact ⟨h1, ry⟩
    · rw [if_neg e, if_neg (fun z => e (h1.trans z))]; exact ⟨h1, h2⟩
theorem KV.put {kvs : List (κ × V)} {vs : List (κ × Value)} (r : KV kvs vs) (k : κ) {y : V} {u : Value} (ry : RelV y u) : KV (putK kvs k y) (stored vs k u) := by
  unfold putK stored
  rw [r.any k]
  by_cases e : (vs.any fun kv => decide (kv.1 = k)) = true
  · rw [if_pos e, if_pos e]; exact r.repl k ry
  · rw [if_neg e, if_neg e]; exact Paired.snoc r ⟨rfl, ry⟩
theorem KV.length {kvs : List (κ × V)} {vs : List (κ × Value)} (r : KV kvs vs) : kvs.length = vs.length := Paired.length r
end


/-! ### a tracked dict, its keys ints and texts or tuples of these -/
theorem kV_is {P : Program} {w : World} {k : Key} {u : Value} (r : RelV (kV k) u) : (mixKind P w).is k u = true := by
  cases k with
  | inl i => obtain ⟨t, e⟩ := (show ∃ t, u = Value.int i t from r); subst e; exact mixKind_int P w i t
  | inr x => obtain ⟨t, e⟩ := (show ∃ t, u = Value.str x t from r); subst e; exact mixKind_str P w x t
theorem items_are {P : Program} {w : World} : ∀ {ks : List Key} {us : List Value}, Vals (ks.map kV) us → ItemsAre (mixKind P w) ks us
  | [], _, r => by rw [List.map_nil] at r; cases r; exact .nil
  | k :: ks, _, r => by
    rw [List.map_cons] at r
    cases r with
    | cons h t => exact .cons (kV_is h) (items_are t)

/-- raw entries of a dict with tuple keys -/
abbrev KT (H : Hp) : List (List Key × V) → List (List Key × Addr × Value) → Prop := Paired fun p q => p.1 = q.1 ∧ H q.2.1 = some (.tup (p.1.map kV)) ∧ RelV p.2 q.2.2
theorem KT.val {H : Hp} {kvs : List (List Key × V)} {xs : List (List Key × Addr × Value)} (r : KT H kvs xs) (k : List Key) : RelO (valV kvs k) ((atKey xs k).map (·.2)) := by
  induction r with
  | nil => exact True.intro
  | @cons p q ps qs h t ih =>
    obtain ⟨h1, _, h2⟩ := h
    by_cases e : p.1 = k
    · have e' : q.1 = k := h1.symm.trans e
      have b : atKey (q :: qs) k = some q.2 := by simp [atKey, List.find?_cons, e']
      rw [valV_pos e, b]; exact h2
    · have e' : ¬ q.1 = k := fun z => e (h1.trans z)
      have b : atKey (q :: qs) k = atKey qs k := by simp [atKey, List.find?_cons, e']
      rw [valV_neg e, b]; exact ih
theorem KT.repl {H : Hp} {kvs : List (List Key × V)} {xs : List (List Key × Addr × Value)} (r : KT H kvs xs) (k : List Key) {y : V} {u : Value} (ry : RelV y u) :
    KT H (kvs.map fun kv => if kv.1 = k then (kv.1, y) else kv) (xs.map (putAt k u)) := by
  induction r with
  | nil => exact .nil
  | @cons p q ps qs h t ih =>
    rw [List.map_cons, List.map_cons]
    refine .cons ?_ ih
    obtain ⟨h1, h2, h3⟩ := h
    unfold putAt
    by_cases e : p.1 = k
    · rw [if_pos e, if_pos (h1.symm.trans e)]; exact ⟨h1, h2, ry⟩
    · rw [if_neg e, if_neg (fun z => e (h1.trans z))]; exact ⟨h1, h2, h3⟩
theorem KT.put {H : Hp} {kvs : List (List Key × V)} {xs : List (List Key × Addr × Value)} (r : KT H kvs xs) (k : List Key) {b : Addr} {y : V} {u : Value} (hb : H b = some (.tup (k.map kV))) (ry : RelV y u) :
    KT H (putK kvs k y) (storedH xs k b u) := by
  have e : (kvs.any fun kv => decide (kv.1 = k)) = (atKey xs k).isSome := by
    rw [valV_any, (r.val k).isSome_eq, Option.isSome_map]
  unfold putK storedH
  rw [e]
  by_cases q : (atKey xs k).isSome = true
  · rw [if_pos q, if_pos q]; exact r.repl k ry
  · rw [if_neg q, if_neg q]; exact Paired.snoc r ⟨rfl, hb, ry⟩
theorem KT.keeps {H H' : Hp} {kvs : List (List Key × V)} {xs : List (List Key × Addr × Value)} (r : KT H kvs xs) (ht : ∀ b ys, H b = some (.tup ys) → H' b = some (.tup ys)) : KT H' kvs xs :=
  Paired.mapP r fun _ _ z => ⟨z.1, ht _ _ z.2.1, z.2.2⟩

section
variable {P : Program} {w : World} {H : Hp} {h : Heap} {a : Addr}
theorem rd_of {u : HO} (ok : HOk P w H h) (e : Rd H a u) : ObjOk P w H h a u := e.ok ok
theorem dk_rd {kvs : List (Key × V)} (ok : HOk P w H h) (e : Rd H a (.dK kvs)) : kvs.length ≤ sizeLine ∧ (a == sysModules) = false ∧ ∃ vs, KV kvs vs ∧ h.DictOf (mixKind P w) a vs :=
  show ObjOk P w H h a (.dK kvs) from rd_of ok e
theorem dk_of {kvs : List (Key × V)} (ok : HOk P w H h) (e : H a = some (.dK kvs)) : kvs.length ≤ sizeLine ∧ (a == sysModules) = false ∧ ∃ vs, KV kvs vs ∧ h.DictOf (mixKind P w) a vs := dk_rd ok (.inl e)
/-- a tracked tuple of ints and texts is a key -/
theorem key_of {ks : List Key} (ok : HOk P w H h) (e : H a = some (.tup (ks.map kV))) : (tupleKind (mixKind P w)).is h ks a := by
  obtain ⟨_, its, r, o, h1, h2, n, h3⟩ := (show ObjOk P w H h a (.tup (ks.map kV)) from ok a _ e)
  exact ⟨o, its.toArray, n, h1, h2, h3, by simpa using items_are r⟩
theorem dt_rd {kvs : List (List Key × V)} (ok : HOk P w H h) (e : Rd H a (.dT kvs)) : kvs.length ≤ sizeLine ∧ (a == sysModules) = false ∧
    ∃ xs, KT H kvs xs ∧ h.DictOfH (tupleKind (mixKind P w)) a xs := by
  obtain ⟨z, y, xs, r, o, es, ep, h1, h2, h3, h4, h5⟩ := (show ObjOk P w H h a (.dT kvs) from rd_of ok e)
  refine ⟨z, y, xs, r, o, es, ep, h1, h2, h3, h4, fun x hx => ?_, h5⟩
  have all : ∀ {l : List (List Key × V)} {m : List (List Key × Addr × Value)}, KT H l m → ∀ x ∈ m, (tupleKind (mixKind P w)).is h x.1 x.2.1 := by
    intro l m q
    induction q with
    | nil => intro x hx; exact nomatch hx
    | @cons p q ps qs hq t ih =>
      intro x hx
      rcases List.mem_cons.mp hx with e | hx
      · subst e
        exact key_of ok (by rw [← hq.1]; exact hq.2.1)
      · exact ih x hx
  exact all r x hx
theorem dt_of {kvs : List (List Key × V)} (ok : HOk P w H h) (e : H a = some (.dT kvs)) : kvs.length ≤ sizeLine ∧ (a == sysModules) = false ∧
    ∃ xs, KT H kvs xs ∧ h.DictOfH (tupleKind (mixKind P w)) a xs := dt_rd ok (.inl e)
end

/-- what the dict at a holds at the key y -/
def DGet (H : Hp) (a : Addr) (y : V) (r : Option V) : Prop :=
  (∃ kvs k, Rd H a (.dK kvs) ∧ y = kV k ∧ r = valV kvs k) ∨ ∃ kvs k b, Rd H a (.dT kvs) ∧ y = .ref b ∧ H b = some (.tup (k.map kV)) ∧ r = valV kvs k
/-- the heap behind a[y] = v -/
def DPut (H : Hp) (a : Addr) (y v : V) (H' : Hp) : Prop :=
  (∃ kvs k, H a = some (.dK kvs) ∧ y = kV k ∧ kvs.length < sizeLine ∧ H' = upd H a (.dK (putK kvs k v))) ∨
  ∃ kvs k b, H a = some (.dT kvs) ∧ y = .ref b ∧ H b = some (.tup (k.map kV)) ∧ kvs.length < sizeLine ∧ H' = upd H a (.dT (putK kvs k v))
theorem DGet.k {H : Hp} {a : Addr} {kvs : List (Key × V)} {k : Key} (e : H a = some (.dK kvs)) : DGet H a (kV k) (valV kvs k) := .inl ⟨kvs, k, .inl e, rfl, rfl⟩
theorem DGet.t {H : Hp} {a b : Addr} {kvs : List (List Key × V)} {k : List Key} (e : H a = some (.dT kvs)) (eb : H b = some (.tup (k.map kV))) : DGet H a (.ref b) (valV kvs k) := .inr ⟨kvs, k, b, .inl e, rfl, eb, rfl⟩
theorem DPut.k {H : Hp} {a : Addr} {kvs : List (Key × V)} {k : Key} {v : V} (e : H a = some (.dK kvs)) (hl : kvs.length < sizeLine) : DPut H a (kV k) v (upd H a (.dK (putK kvs k v))) := .inl ⟨kvs, k, e, rfl, hl, rfl⟩
theorem DPut.t {H : Hp} {a b : Addr} {kvs : List (List Key × V)} {k : List Key} {v : V} (e : H a = some (.dT kvs)) (eb : H b = some (.tup (k.map kV))) (hl : kvs.length < sizeLine) :
    DPut H a (.ref b) v (upd H a (.dT (putK kvs k v))) := .inr ⟨kvs, k, b, e, rfl, eb, hl, rfl⟩


section
variable {X : Cx} {pins : List (Addr × Obj)} {σ : St} {H : Hp} {s : Shared} {a : Addr} {y v : V} {u r : Value} {o : Option V} {A : Around} {E : Value → Shared → Prop}

theorem Inv.big (I : Inv X pins σ H s) : sysModules < s.heap.objs.size := by
  have h : mainGlobals < s.heap.objs.size := (I.mod.glob.keeps I.bk).lt
  exact Nat.lt_trans (by decide) h

/-- d[y], there -/
theorem d_getItem {Q : Value → Shared → Prop} (hu : A.units + 1 < cLine) (I : Inv X pins σ H s) (g : DGet H a y (some v)) (ry : RelV y u) (h : ∀ w' s', Inv X pins σ H s' → RelV v w' → Q w' s') :
    wpAny (model X.prog X.w) A (getItem (.ref a) u) Q E s := by
  rcases g with ⟨kvs, k, e, ey, l⟩ | ⟨kvs, k, b, e, ey, eb, l⟩
  · subst ey
    obtain ⟨z, hd, vs, rel, dd⟩ := dk_rd I.hok e
    obtain ⟨w', hw, rw'⟩ := RelO.some_of (v := v) (o := valueAt vs k) (by rw [l]; exact rel.val k)
    exact wpAny_getItem_of (kV_is ry) dd.mapOf hw (h w' _ (I.tok _) rw')
  · subst ey
    cases (show u = Value.ref b from ry)
    obtain ⟨z, hd, xs, rel, dd⟩ := dt_rd I.hok e
    obtain ⟨w', hw, rw'⟩ := RelO.some_of (v := v) (o := (atKey xs k).map (·.2)) (by rw [l]; exact rel.val k)
    obtain ⟨p, hp, hp2⟩ := Option.map_eq_some_iff.mp hw
    refine wpAny_getItem_heap (tupleKind_room_in1 hu) (key_of I.hok eb) dd hp ?_
    rw [hp2]
    exact h w' _ (I.tok _) rw'
/-- y in d -/
theorem d_in {Q : Value → Shared → Prop} (hu : A.units + 1 < cLine) (I : Inv X pins σ H s) (g : DGet H a y o) (ry : RelV y u) (h : ∀ s', Inv X pins σ H s' → Q (.bool o.isSome) s') :
    wpAny (model X.prog X.w) A (compareOp .In u (.ref a)) Q E s := by
  rcases g with ⟨kvs, k, e, ey, l⟩ | ⟨kvs, k, b, e, ey, eb, l⟩
  · subst ey
    obtain ⟨z, hd, vs, rel, dd⟩ := dk_rd I.hok e
    refine wpAny_in_of (kV_is ry) hd dd.mapOf ?_
    rw [← (rel.val k).isSome_eq, ← l]
    exact h _ (I.tok _)
  · subst ey
    cases (show u = Value.ref b from ry)
    obtain ⟨z, hd, xs, rel, dd⟩ := dt_rd I.hok e
    refine wpAny_in_heap (tupleKind_room_in1 hu) (key_of I.hok eb) hd dd ?_
    have q := (rel.val k).isSome_eq
    rw [Option.isSome_map] at q
    rw [← q, ← l]
    exact h _ (I.tok _)
theorem d_notIn {Q : Value → Shared → Prop} (hu : A.units + 1 < cLine) (I : Inv X pins σ H s) (g : DGet H a y o) (ry : RelV y u) (h : ∀ s', Inv X pins σ H s' → Q (.bool (!o.isSome)) s') :
    wpAny (model X.prog X.w) A (compareOp .NotIn u (.ref a)) Q E s := by
  rcases g with ⟨kvs, k, e, ey, l⟩ | ⟨kvs, k, b, e, ey, eb, l⟩
  · subst ey
    obtain ⟨z, hd, vs, rel, dd⟩ := dk_rd I.hok e
    refine wpAny_notIn_of (kV_is ry) hd dd.mapOf ?_
    rw [← (rel.val k).isSome_eq, ← l]
    exact h _ (I.tok _)
  · subst ey
    cases (show u = Value.ref b from ry)
    obtain ⟨z, hd, xs, rel, dd⟩ := dt_rd I.hok e
    refine wpAny_notIn_heap (tupleKind_room_in1 hu) (key_of I.hok eb) hd dd ?_
    have q := (rel.val k).isSome_eq
    rw [Option.isSome_map] at q
    rw [← q, ← l]
    exact h _ (I.tok _)
/-- a dict's object is replaced -/
theorem d_write {h' : Heap} {t' : Nat} {ob : HO} (I : Inv X pins σ H s) (mu : Mut (H a)) (hs : Heap.SameBut a s.heap h') (he : ∃ q, h'.get? a = some q) (new : ObjOk X.prog X.w (upd H a ob) h' a ob) :
    Inv X pins σ (upd H a ob) { s with heap := h', toks := t' } :=
  I.write (x := a) (e := a) mu (.inl rfl) (fun b q hb z => (hs.2 b hb).trans z) he new
theorem dk_new {P : Program} {w : World} {H' : Hp} {h' : Heap} {kvs : List (Key × V)} {vs : List (Key × Value)} (z : kvs.length ≤ sizeLine) (hd : (a == sysModules) = false) (rel : KV kvs vs) (dd : h'.DictOf (mixKind P w) a vs) :
    ObjOk P w H' h' a (.dK kvs) := ⟨z, hd, vs, rel, dd⟩
/-- d[y] = v -/
theorem d_setItem {H' : Hp} {Q : Unit → Shared → Prop} (hu : A.units + 1 < cLine) (I : Inv X pins σ H s) (g : DPut H a y v H') (ry : RelV y u) (rv : RelV v r) (h : ∀ s', Inv X pins σ H' s' → Q () s') :
    wpAny (model X.prog X.w) A (setItem (.ref a) u r) Q E s := by
  rcases g with ⟨kvs, k, e, ey, l, eH⟩ | ⟨kvs, k, b, e, ey, eb, l, eH⟩
  · subst ey eH
    obtain ⟨z, hd, vs, rel, dd⟩ := dk_of I.hok e
    have hz : vs.length ≤ sizeLine := by rw [← rel.length]; exact z
    have hl : (putK kvs k v).length ≤ sizeLine := by have := length_putK kvs k v; (first | lia | omega)
    refine wpAny_setItem_pairs (hsz := hz) (kV_is ry) dd fun h' dd' hs => h _ ?_
    have he : ∃ q, h'.get? a = some q := let ⟨q, _, _, hq, _⟩ := dd'; ⟨q, hq⟩
    exact d_write I (by rw [e]; exact True.intro) hs he (dk_new hl hd (rel.put k rv) dd')
  · subst ey eH
    cases (show u = Value.ref b from ry)
    obtain ⟨z, hd, xs, rel, dd⟩ := dt_of I.hok e
    have hz : xs.length ≤ sizeLine := by rw [← Paired.length rel]; exact z
    have hl : (putK kvs k v).length ≤ sizeLine := by have := length_putK kvs k v; (first | lia | omega)
    refine wpAny_setItem_heap (hsz := hz) (tupleKind_room_in1 hu) (key_of I.hok eb) dd fun h' dd' hs => h _ ?_
    obtain ⟨q, es, ep, hq, h2, h3, h4, _, h5⟩ := dd'
    refine d_write I (by rw [e]; exact True.intro) hs ⟨q, hq⟩ ⟨hl, hd, _, (rel.put k eb rv).keeps fun c ys ec => ?_, q, es, ep, hq, h2, h3, h4, h5⟩
    rw [upd_ne (ne_of ec e (fun z => nomatch z))]
    exact ec
end



/-! ### readings and rules -/
/-- the element of a subscription, not a slice -/
def NoSl (i : Expr) : Prop := ∀ ov iv, subscripted i false ov iv = operate [ov, iv] (getItem ov iv)
theorem subD_of {prog : Program} {w : World} {A : Around} {E : Value → Shared → Prop} {s : Shared} {env : Env} {value slice : Expr} {pos : Pos} {T id : String} {Q : Value → Shared → Prop}
    (hl : typeLookup (.type T) "__getitem__" = pure (some (.builtin id))) (hs : NoSl slice)
    (h : wpAny (model prog w) A (eval value env) (fun o s₁ => wpAny (model prog w) A (eval slice env) (fun i s₂ => s₂.TypeIs o T ∧ wpAny (model prog w) A (getItem o i) Q E s₂) E s₁) E s) :
    wpAny (model prog w) A (eval (.Subscript value slice pos) env) Q E s := by
  refine Subscript_ (wpAny_mono h (fun o s₁ h₁ => wpAny_mono h₁ (fun i s₂ h₂ => ?_) fun _ _ x => x) fun _ _ x => x)
  obtain ⟨hT, h₂⟩ := h₂
  unfold subscriptTail
  refine wpAny_bind ?_
  rw [getitemInPython_of_ne hT.not_modules]
  refine wpAny_bind (wpAny_specialOf hT hl ?_)
  have fin : wpAny (model prog w) A (subscripted slice false o i) (fun r s₃ => wpAny (model prog w) A (letTemporaryGo value o r >>= fun _ => pure r) Q E s₃) E s₂ := by
    rw [hs o i]
    exact wpAny_operating (wpAny_mono h₂ (fun r s₃ h₃ => wpAny_bind (wpAny_letTemporaryGo (wpAny_pure h₃))) fun _ _ x => x)
  first
    | exact wpAny_pure (wpAny_bind fin)
    | exact wpAny_bind (wpAny_pure (wpAny_bind fin))
    | exact wpAny_bind fin

theorem dict_typeIs {X : Cx} {pins : List (Addr × Obj)} {σ : St} {H : Hp} {s : Shared} {a : Addr} {y : V} {o : Option V} (I : Inv X pins σ H s) (g : DGet H a y o) : s.TypeIs (.ref a) "dict" := by
  rcases g with ⟨kvs, k, e, _, _⟩ | ⟨kvs, k, b, e, _, _, _⟩
  · obtain ⟨_, _, vs, _, dd⟩ := dk_rd I.hok e
    exact dd.typeIs
  · obtain ⟨_, _, xs, _, dd⟩ := dt_rd I.hok e
    exact dd.typeIs
/-- d[y] -/
def tDGet (td ty : TE) : TE := fun σ H Q => td σ H fun x H1 => ty σ H1 fun y H2 => ∃ a v, x = .ref a ∧ DGet H2 a y (some v) ∧ Q v H2
/-- y in d, y not in d -/
def tDIn (ty td : TE) : TE := fun σ H Q => ty σ H fun y H1 => td σ H1 fun x H2 => ∃ a o, x = .ref a ∧ DGet H2 a y o ∧ Q (.bl o.isSome) H2
def tDNotIn (ty td : TE) : TE := fun σ H Q => ty σ H fun y H1 => td σ H1 fun x H2 => ∃ a o, x = .ref a ∧ DGet H2 a y o ∧ Q (.bl (!o.isSome)) H2
/-- d[y] = v -/
def sDPut (td ty tv : TE) : TS := fun D σ H => tv σ H fun v H1 => td σ H1 fun x H2 => ty σ H2 fun y H3 => ∃ a H4, x = .ref a ∧ DPut H3 a y v H4 ∧ D.nx σ H4
section
variable {X : Cx} {o i e value : Expr} {pos pos' tpos : Pos} {td ty tv : TE}
theorem pe_dget (hu : X.A.units + 1 < cLine) (ho : PE X o td) (hi : PE X i ty) (hs : NoSl i) : PE X (.Subscript o i pos) (tDGet td ty) := by
  intro pins s σ H Q I h
  refine subD_of PySem.F.slot_dict_getitem.lookup hs (thn (ho pins s σ H _ I h) fun u s1 ⟨x, H1, I1, rx, q1⟩ => thn (hi pins s1 σ H1 _ I1 q1) fun iv s2 ⟨y, H2, I2, ry, a, v, ex, g, q2⟩ => ?_)
  subst ex
  obtain rfl : u = Value.ref a := rx
  exact ⟨dict_typeIs I2 g, d_getItem hu I2 g ry fun w' s3 I3 rw' => ⟨v, H2, I3, rw', q2⟩⟩
theorem pc_din (hu : X.A.units + 1 < cLine) (hi : PE X i ty) (ho : PE X o td) : PC X .In i o (tDIn ty td) := by
  intro pins s σ H Q I h
  refine thn (hi pins s σ H _ I h) fun iv s1 ⟨y, H1, I1, ry, q1⟩ => thn (ho pins s1 σ H1 _ I1 q1) fun u s2 ⟨x, H2, I2, rx, a, ov, ex, g, q2⟩ => ?_
  subst ex
  obtain rfl : u = Value.ref a := rx
  exact d_in hu I2 g ry fun s3 I3 => ⟨.bl ov.isSome, H2, I3, rfl, q2⟩
theorem pc_dnotin (hu : X.A.units + 1 < cLine) (hi : PE X i ty) (ho : PE X o td) : PC X .NotIn i o (tDNotIn ty td) := by
  intro pins s σ H Q I h
  refine thn (hi pins s σ H _ I h) fun iv s1 ⟨y, H1, I1, ry, q1⟩ => thn (ho pins s1 σ H1 _ I1 q1) fun u s2 ⟨x, H2, I2, rx, a, ov, ex, g, q2⟩ => ?_
  subst ex
  obtain rfl : u = Value.ref a := rx
  exact d_notIn hu I2 g ry fun s3 I3 => ⟨.bl (!ov.isSome), H2, I3, rfl, q2⟩
theorem ps_dput (hu : X.A.units + 1 < cLine) (ho : PE X o td) (hi : PE X i ty) (hv : PE X value tv) (hs : swapsWith value (some (.Subscript o i pos')) pos.line X.env = pure false) :
    PS X (.Assign [.Subscript o i pos'] value pos) (sDPut td ty tv) := by
  intro pins s σ H D I h
  refine wpAny_Assign_Subscript (thn (hv pins s σ H _ I h) fun r s1 ⟨v, H1, I1, rv, q1⟩ => thn (ho pins s1 σ H1 _ I1 q1) fun u s2 ⟨x, H2, I2, rx, q2⟩ => thn (hi pins s2 σ H2 _ I2 q2) fun iv s3 ⟨y, H3, I3, ry, a, H4, ex, g, q3⟩ => ?_) hs
  subst ex
  obtain rfl : u = Value.ref a := rx
  exact d_setItem hu I3 g ry rv fun s4 I4 => ⟨σ, H4, I4, q3⟩
end


/-! ### displays -/
theorem dk_empty {P : Program} {w : World} {H : Hp} (h : Heap) (hb : sysModules < h.objs.size) : ObjOk P w H (h.push { cls := .type "dict", data := .dict #[] }) h.objs.size (.dK []) :=
  ⟨Nat.zero_le _, beq_eq_false_iff_ne.mpr (Ne.symm (Nat.ne_of_lt hb)), [], .nil, Heap.DictOf.new h⟩
theorem dt_empty {P : Program} {w : World} {H : Hp} (h : Heap) (hb : sysModules < h.objs.size) : ObjOk P w H (h.push { cls := .type "dict", data := .dict #[] }) h.objs.size (.dT []) :=
  ⟨Nat.zero_le _, beq_eq_false_iff_ne.mpr (Ne.symm (Nat.ne_of_lt hb)), [], .nil, _, #[], 0, Heap.get?_push_size _ rfl, ⟨rfl, rfl, rfl⟩, rfl, rfl, List.nodup_nil⟩
/-- {}, to be a dict of the kind that is wanted -/
def tDNewK : TE := fun _ H Q => ∀ p, H p = none → Q (.ref p) (upd H p (.dK []))
def tDNewT : TE := fun _ H Q => ∀ p, H p = none → Q (.ref p) (upd H p (.dT []))
section
variable {X : Cx} {pos : Pos}
theorem pe_dnewK : PE X (.Dict [] [] pos) tDNewK := fun pins s σ H Q I h =>
  wpAny_Dict_empty ⟨.ref s.heap.objs.size, _, I.laid (a := s.heap.objs.size) (o := .dK []) (t' := s.toks) (fun _ _ q => Heap.get?_push_of_some _ q) (Nat.le_refl _) (dk_empty s.heap I.big), rfl, h _ (I.hok.fresh (Nat.le_refl _))⟩
theorem pe_dnewT : PE X (.Dict [] [] pos) tDNewT := fun pins s σ H Q I h =>
  wpAny_Dict_empty ⟨.ref s.heap.objs.size, _, I.laid (a := s.heap.objs.size) (o := .dT []) (t' := s.toks) (fun _ _ q => Heap.get?_push_of_some _ q) (Nat.le_refl _) (dt_empty s.heap I.big), rfl, h _ (I.hok.fresh (Nat.le_refl _))⟩
end

/-! ### methods -/
structure M2 (X : Cx) (o : Expr) (m : Str) (apos : Pos) (e f : Expr) (cpos : Pos) : Prop where
  base : attributeBase o m X.env (eval o X.env) = eval o X.env
  few : ((backTo cpos (starEach [e, f] X.env)).all (fun x => !x.1) && (backToKw cpos (keywordEach [] X.env)).all (fun x => x.1.isSome)
    && decide (([e, f] : List Expr).length + ([] : List Keyword).length + (if ([] : List Keyword).isEmpty then 0 else 1) < 30)) = true
  line : (apos.endLine == cpos.line) = true
  trees : backTo cpos (starEach [e, f] X.env) = [(false, eval e X.env), (false, eval f X.env)]

/-- a is a dict, whatever its keys -/
def IsD (H : Hp) (a : Addr) : Prop := (∃ kvs, Rd H a (.dK kvs)) ∨ ∃ kvs, Rd H a (.dT kvs)
theorem isD_at {X : Cx} {pins : List (Addr × Obj)} {σ : St} {H : Hp} {s : Shared} {a : Addr} (I : Inv X pins σ H s) (d : IsD H a) :
    s.TypeIs (.ref a) "dict" ∧ (∀ b, Value.ref a = .ref b → ∃ ob, s.heap.get? b = some ob ∧ ob.dict = none) ∧ (a == sysModules) = false := by
  rcases d with ⟨kvs, e⟩ | ⟨kvs, e⟩
  · obtain ⟨_, hd, vs, _, dd⟩ := dk_rd I.hok e
    refine ⟨dd.typeIs, fun b q => ?_, hd⟩
    cases q
    obtain ⟨ob, _, _, h1, h2, _⟩ := dd
    exact ⟨ob, h1, h2.2.1⟩
  · obtain ⟨_, hd, xs, _, dd⟩ := dt_rd I.hok e
    refine ⟨dd.typeIs, fun b q => ?_, hd⟩
    cases q
    obtain ⟨ob, _, _, h1, h2, _⟩ := dd
    exact ⟨ob, h1, h2.2.1⟩



/-! ### dict(d): a copy -/


end L2
namespace L2
open PySem PySem.Spec PyProof.Rows
/-! ### a dict's pairs: keys that differ -/
end L2
/-! own classes: their methods and their making, as Has; a statement that is never come to; int(truth) -/
namespace L2
open PySem PySem.Spec PyProof.Rows
structure HasC (P : Program) (w : World) (K : PySem.W.Frag) (mg : Str → Option Value) (base : Heap) (C : Addr) (x : Str) (ps : List Str) (j : Nat) (sp : Sp) : Prop where
  ex : ∃ f fd, FnOk P w K mg base CX0 j f fd ps sp ∧ Binds K fd ps [] ∧ Mk K C f ∧ mg x = some (.ref C)
end L2
namespace L2
open PySem PySem.Spec PyProof.Rows
end L2

/-! for i, c in enumerate(text) -/
namespace L2
open PySem PySem.Spec PyProof.Rows
end L2

/-! t + u of tuples, == of lists of texts, groves behind one another -/
namespace L2
open PySem PySem.Spec PyProof.Rows
end L2
namespace Fg
open PySem L2 FgM
end Fg
namespace FgM
end FgM
namespace Fg
open PySem L2 FgM
end Fg

/-! recursion's ground, constants of the module, == of tuples by their lengths, blocks with captured names -/
namespace L2
open PySem PySem.Spec PyProof.Rows
theorem FnOk.none {P : Program} {w : World} {K : PySem.W.Frag} {mg : Str → Option Value} {base : Heap} {CX : CXT} {k : Nat} {f : Addr} {fd : FuncData} {ps : List Str} {sp : Sp} (h : ∀ vs H Q E, ¬ sp vs H Q E) : FnOk P w K mg base CX k f fd ps sp :=
  ⟨fun vs H Q E z => absurd z (h vs H Q E), fun A outer s H args us vs Q E hr e0 hb r z => absurd z (h vs H Q E)⟩
/-! captured names -/
theorem lookup_mem {β : Type} {x : Str} {c : β} : ∀ {l : List (Str × β)}, l.lookup x = some c → (x, c) ∈ l
  | [], h => by cases h
  | (y, d) :: l, h => by
    rw [List.lookup_cons] at h
    cases e : x == y with
    | true =>
      rw [e] at h
      cases h
      rw [beq_iff_eq.mp e]
      exact List.mem_cons_self ..
    | false =>
      rw [e] at h
      exact List.mem_cons_of_mem _ (lookup_mem h)
theorem cap_cl {env : Env} {cl : List (Str × Addr)} (h : ∀ p ∈ cl, env.cells.lookup p.1 = some p.2) : ∀ x c, cl.lookup x = some c → env.cells.lookup x = some c := fun x c e => h (x, c) (lookup_mem e)
theorem cap_has {scope : Scope} {env : Env} {cl : List (Str × Addr)} (h : ∀ y ∈ scope.names, (y.2 = .cell ∨ y.2 = .free) → ∃ c, cl.lookup y.1 = some c) : ∀ (C : Addr) (x : Str), ((compEnvC scope cl C env).kindOf x = some .cell ∨ (compEnvC scope cl C env).kindOf x = some .free) → ∃ c, cl.lookup x = some c := by
  have key : ∀ (k : NameKind) (x : Str), (k = .cell ∨ k = .free) → (scope.names.map fun (n, k) => if (k == .free && env.scope.kind == .function && env.kindOf n == some .cell) then (n, .cell) else (n, k)).lookup x = some k → ∃ c, cl.lookup x = some c := by
    intro k x hk e
    obtain ⟨⟨n, k0⟩, hy, he⟩ := List.mem_map.mp (lookup_mem e)
    by_cases hc : (k0 == .free && env.scope.kind == .function && env.kindOf n == some .cell) = true
    · simp only [hc, if_true] at he
      have h0 : k0 = .free := by
        simp only [Bool.and_eq_true] at hc
        have := hc.1.1
        cases k0 <;> first | rfl | exact absurd this (by decide)
      injection he with e1 e2
      subst e1
      exact h _ hy (.inr h0)
    · simp only [hc] at he
      injection he with e1 e2
      subst e1 e2
      exact h _ hy hk
  intro C x hx
  rcases hx with e | e
  · exact key _ x (.inl rfl) e
  · exact key _ x (.inr rfl) e
end L2
namespace L2
open PySem PySem.Spec PyProof.Rows
theorem ix_tupK {X : Cx} {K : PySem.W.Frag} (h : X.K = K) : IxR X (rIxT K) := by
  subst h
  exact ix_tup
end L2

/-! a block's parts by names of their own (what comes behind a statement is then one word in a proof) -/
namespace L2
open PySem PySem.Spec PyProof.Rows
def sBody : Stmt → List Stmt
  | .For _ _ b _ _ => b
  | .While _ b _ _ => b
  | .If _ b _ _ => b
  | _ => []
def sElse : Stmt → List Stmt
  | .If _ _ b _ => b
  | _ => []
theorem hideI {X : Cx} {b : List Stmt} {D : Ends} {σ : St} {H : Hp} (s : List Stmt) {t : TS} (h : PSs X s t) (k : ∀ u, PSs X s u → u = t → ∃ t, PSs X b t ∧ t D σ H) : ∃ t, PSs X b t ∧ t D σ H := k t h rfl
theorem by_eq {u t : TS} (e : u = t) {D : Ends} {σ : St} {H : Hp} (h : t D σ H) : u D σ H := e ▸ h
theorem len1 {α : Type} : ∀ {us : List α}, us.length = 1 → ∃ a, us = [a]
  | [a], _ => ⟨a, rfl⟩
theorem lenS {α : Type} {n : Nat} : ∀ {us : List α}, us.length = n + 1 → ∃ a vs, us = a :: vs ∧ vs.length = n
  | a :: vs, h => ⟨a, vs, rfl, Nat.succ.inj h⟩
theorem len2 {α : Type} {us : List α} (h : us.length = 2) : ∃ a b, us = [a, b] := by
  obtain ⟨a, vs, rfl, h2⟩ := lenS h
  obtain ⟨b, rfl⟩ := len1 h2
  exact ⟨a, b, rfl⟩
theorem len3 {α : Type} {us : List α} (h : us.length = 3) : ∃ a b c, us = [a, b, c] := by
  obtain ⟨a, vs, rfl, h2⟩ := lenS h
  obtain ⟨b, c, rfl⟩ := len2 h2
  exact ⟨a, b, c, rfl⟩
theorem len4 {α : Type} {us : List α} (h : us.length = 4) : ∃ a b c d, us = [a, b, c, d] := by
  obtain ⟨a, vs, rfl, h2⟩ := lenS h
  obtain ⟨b, c, d, rfl⟩ := len3 h2
  exact ⟨a, b, c, d, rfl⟩
theorem Vals.inv {v : V} {vs : List V} {us : List Value} (h : Vals (v :: vs) us) : ∃ u us', us = u :: us' ∧ RelV v u ∧ Vals vs us' := by
  cases h with
  | cons r t => exact ⟨_, _, rfl, r, t⟩
theorem Vals.end_ {us : List Value} (h : Vals [] us) : us = [] := by
  cases h
  rfl
end L2

/-! exceptions of own classes: raised, passed on, caught -/
namespace L2
open PySem PySem.Spec PyProof.Rows
/-- the exception at e: its class, its own dict -/
def XO (e : Addr) (C : Value) (d : Option Addr) : Heap → Prop := fun h => ∃ oe vs, h.get? e = some oe ∧ oe.cls = C ∧ oe.dict = d ∧ oe.data = .fields vs ∧ 4 < vs.size
theorem XO.ext_ok {P : Program} {w : World} {H : Hp} {h : Heap} {e : Addr} {C : Value} {d : Option Addr} (x : XO e C d h) : ObjOk P w H h e (.ext (XO e C d)) := by
  refine ⟨x, ?_, fun h1 h2 p k => ?_⟩
  · obtain ⟨oe, _, ho, _⟩ := x
    exact ⟨oe, ho⟩
  · obtain ⟨oe, vs, ho, r⟩ := p
    exact ⟨oe, vs, k oe ho, r⟩
theorem upd_self {H : Hp} {a : Addr} {o : HO} (h : H a = some o) : upd H a o = H := by
  funext b
  unfold upd
  by_cases e : b = a
  · subst e; rw [if_pos rfl, h]
  · rw [if_neg e]
section
variable {X : Cx} {pins : List (Addr × Obj)} {σ : St} {H : Hp} {s : Shared} {e T : Addr} {C : Value} {d : Option Addr} {M : Model} {A : Around} {E : Value → Shared → Prop} {Q : Unit → Shared → Prop}
theorem Inv.xo (I : Inv X pins σ H s) (he : H e = some (.ext (XO e C d))) : XO e C d s.heap := (I.hok e _ he).1
/-- the exception's own object is changed -/
theorem Inv.poke {h' : Heap} {t' : Nat} (I : Inv X pins σ H s) (he : H e = some (.ext (XO e C d))) (k : ∀ b u, b ≠ e → s.heap.get? b = some u → h'.get? b = some u) (x : XO e C d h') : Inv X pins σ H { s with heap := h', toks := t' } := by
  have := I.write (x := e) (e := e) (o := .ext (XO e C d)) (h' := h') (t' := t') (by rw [he]; trivial) (.inl rfl) k (by obtain ⟨oe, _, ho, _⟩ := x; exact ⟨oe, ho⟩) x.ext_ok
  rwa [upd_self he] at this
/-- the head of the traceback -/
def XHead (X : Cx) (pins : List (Addr × Obj)) (H : Hp) (h : Heap) (e : Addr) (fl : Value) : Prop :=
  ∃ T oT ts oe vs, h.get? e = some oe ∧ oe.data = .fields vs ∧ vs[1]? = some (.ref T) ∧ FpOk X pins H T ∧ h.get? T = some oT ∧ oT.data = .fields ts ∧ ts[3]? = some fl
def XSt (X : Cx) (pins : List (Addr × Obj)) (H : Hp) (h : Heap) (e : Addr) : Prop := (∃ oe vs, h.get? e = some oe ∧ oe.data = .fields vs ∧ vs[1]? = some .none) ∨ XHead X pins H h e .none
theorem fld_up {h : Heap} {a : Addr} {o : Obj} {vs : Array Value} (i : Nat) (x : Value) (ho : h.get? a = some o) (hd : o.data = .fields vs) :
    (h.update a (Obj.mapFields (·.setIfInBounds i x))).get? a = some (o.mapFields (·.setIfInBounds i x)) := Heap.get?_update_self _ ho (Obj.isFreed_of_fields (Obj.data_mapFields hd _))
theorem dict_map (o : Obj) (f : Array Value → Array Value) : (o.mapFields f).dict = o.dict := by
  obtain ⟨c, d, dt, sl⟩ := o
  cases dt <;> rfl
theorem XO.put {h : Heap} (x : XO e C d h) (i : Nat) (v : Value) : XO e C d (h.update e (Obj.mapFields (·.setIfInBounds i v))) := by
  obtain ⟨oe, vs, ho, hc, hdd, hd, hz⟩ := x
  exact ⟨_, _, fld_up i v ho hd, (Obj.cls_mapFields ..).trans hc, (dict_map ..).trans hdd, Obj.data_mapFields hd _, by simpa using hz⟩
/-- the slots of the frames that run have changed -/
theorem Inv.slots {h' : Heap} (I : Inv X pins σ H s) (hs : Heap.SlotsOnly (frs X.stack) s.heap h') : Inv X pins σ H { s with heap := h' } := by
  refine I.call' (s' := { s with heap := h' }) (ch := []) rfl ⟨fun b o q n hb _ => (hs.2.1 b hb).trans q, fun b o q _ _ _ => hs.2.2 b o q, fun _ _ _ n _ => n, fun b o q _ => let ⟨sl, e⟩ := hs.2.2 b o q; ⟨_, e⟩, fun _ _ q => q, fun _ _ _ q => q, fun _ ps q => ⟨#[], by rw [q]; simp⟩⟩ ?_ I.bare (fun b z => absurd z (by simp))
  intro b o q
  have hfr := I.stkFree
  refine (I.hok b o q).stay (fun c u hc z => ?_) (fun _ z => z) (fun _ _ z => z)
  have hn : c ∉ frs X.stack := by
    intro hm
    rcases hc with rfl | hc
    · rw [hfr _ hm] at q; cases q
    · rw [hfr _ hm] at hc; cases hc
  exact (hs.2.1 c hn).trans z
theorem entry_ok {head : Value} {hadNext : Bool} (hA : A.frames = some (X.env :: X.outer)) (hstk : X.stack = X.env :: X.outer) (hf : X.env.frame = some X.env.locals) (I : Inv X pins σ H s) (he : H e = some (.ext (XO e C d)))
    (h : ∀ h', Inv X pins σ H { s with heap := h' } → XHead X pins H h' e (rawInt X.env.locals) → Q () { s with heap := h' }) :
    wpAny M A (frameOf X.env >>= fun a => entryPlaceOf X.env.locals hadNext >>= fun pl => EntryCells.newEntry head a .none (rawInt X.env.locals) .none pl >>= fun b => setField (.ref e) 1 b) Q E s := by
  have hl : s.heap.FunFrames X.base (X.env :: X.outer) := hstk ▸ I.stack
  refine wpAny_bind (wpAny_frameOf_fun hA hl hf fun h1 hs1 => ?_)
  have I1 : Inv X pins σ H { s with heap := h1 } := I.slots (by rw [hstk]; exact hs1)
  refine wpAny_bind (wpAny_entryPlaceOf fun pl hpl => ?_)
  unfold EntryCells.newEntry newFields
  refine wpAny_bind (wpAny_newObj_type ?_ (hpl.sizeOk5 _ _ _ _ _))
  generalize hob : ({ cls := Value.type "traceback", dict := none, data := Data.fields ([head, Value.ref X.env.locals, Value.none, rawInt X.env.locals, Value.none] ++ (if pl.isEmpty then List.replicate 6 Value.none else pl)).toArray } : Obj) = ob
  have I2 : Inv X pins σ H { s with heap := h1.push ob } := I1.kept (h' := h1.push ob) (t' := s.toks) fun b u q => Heap.get?_push_of_some _ q
  obtain ⟨oe, vs, ho, hc, hdd, hd, hz⟩ := I2.xo he
  refine wpAny_setField ho hd (by (first | lia | omega)) (h _ (I2.poke (t' := s.toks) he (fun b u hb q => (Heap.get?_update_other _ _ (Ne.symm hb)).trans q) ((I2.xo he).put 1 _)) ?_)
  have hT : (h1.push ob).get? h1.objs.size = some ob := Heap.get?_push_size _ (by rw [← hob]; rfl)
  have hne : e ≠ h1.objs.size := fun z => by
    have := I1.hok.lt he
    rw [z] at this
    exact absurd this (Nat.lt_irrefl _)
  refine ⟨h1.objs.size, ob, ([head, Value.ref X.env.locals, Value.none, rawInt X.env.locals, Value.none] ++ (if pl.isEmpty then List.replicate 6 Value.none else pl)).toArray, _, _, fld_up 1 _ ho hd, Obj.data_mapFields hd _, ?_, I1.fpOk (Nat.le_refl _) (I1.hok.fresh (Nat.le_refl _)), (Heap.get?_update_other _ _ hne).trans hT, ?_, ?_⟩
  · rw [Array.getElem?_setIfInBounds_self_of_lt (by (first | lia | omega))]
  · rw [← hob]
  · simp
theorem note_ok (hA : A.frames = some (X.env :: X.outer)) (hstk : X.stack = X.env :: X.outer) (hf : X.env.frame = some X.env.locals) (I : Inv X pins σ H s) (he : H e = some (.ext (XO e C d))) (x : XSt X pins H s.heap e)
    (h : ∀ h', Inv X pins σ H { s with heap := h' } → XHead X pins H h' e (rawInt X.env.locals) → Q () { s with heap := h' }) : wpAny M A (noteFrame (.ref e) X.env) Q E s := by
  unfold noteFrame
  simp only [hf]
  rcases x with ⟨oe, vs, ho, hd, h1⟩ | ⟨T, oT, ts, oe, vs, ho, hd, h1, fT, hT, hdT, h3⟩
  · refine wpAny_bind (wpAny_field ho hd h1 ?_)
    rw [if_neg (by decide)]
    exact entry_ok hA hstk hf I he h
  · refine wpAny_bind (wpAny_field ho hd h1 ?_)
    rw [if_pos (show (Value.ref T != Value.none) = true by simp)]
    refine wpAny_bind (wpAny_field hT hdT h3 ?_)
    rw [if_neg (show ¬ ((Value.none == rawInt X.env.locals) = true) by simp [rawInt])]
    refine wpAny_bind (wpAny_setField hT hdT (Array.getElem?_eq_some_iff.mp h3).1 ?_)
    obtain ⟨f0, f1, f2, f3, f4, f5⟩ := fT
    have I1 := I.turned (t' := s.toks) (h' := s.heap.update T (Obj.mapFields (·.setIfInBounds 3 Value.none))) (fun b u hb q => (Heap.get?_update_other _ _ (Ne.symm hb)).trans q) f0 f1 f3 f4 f5
    exact entry_ok hA hstk hf I1 he h
theorem land_ok {fl : Value} (I : Inv X pins σ H s) (he : H e = some (.ext (XO e C d))) (x : XHead X pins H s.heap e fl)
    (h : ∀ h', Inv X pins σ H { s with heap := h' } → XHead X pins H h' e .none → Q () { s with heap := h' }) : wpAny M A (setFlight (.ref e) none) Q E s := by
  obtain ⟨T, oT, ts, oe, vs, ho, hd, h1, fT, hT, hdT, h3⟩ := x
  unfold setFlight
  refine wpAny_bind (wpAny_field ho hd h1 ?_)
  rw [if_pos (show (Value.ref T != Value.none) = true by simp)]
  refine wpAny_setField hT hdT (Array.getElem?_eq_some_iff.mp h3).1 ?_
  obtain ⟨f0, f1, f2, f3, f4, f5⟩ := id fT
  have hne : T ≠ e := fun z => by subst z; rw [f0] at he; cases he
  refine h _ (I.turned (t' := s.toks) (fun b u hb q => (Heap.get?_update_other _ _ (Ne.symm hb)).trans q) f0 f1 f3 f4 f5) ⟨T, _, _, oe, vs, (Heap.get?_update_other _ _ hne).trans ho, hd, h1, fT, fld_up 3 _ hT hdT, Obj.data_mapFields hdT _, ?_⟩
  rw [Array.getElem?_setIfInBounds_self_of_lt (Array.getElem?_eq_some_iff.mp h3).1]
  rfl
end
/-- what a body wants of an exception, by its names' values -/
abbrev XKS := St → XK
/-- how an exception lies behind a call -/
def CXE (P : Program) (w : World) : CXT := fun outer H s E ev s' => ∃ (e : Addr) (C : Value) (d : Option Addr) (H' : Hp), ev = .ref e ∧ s'.os = s.os ∧ AllBare s'.gens ∧ Un (frs outer) [] H H' s.heap s'.heap ∧ HOk P w H' s'.heap ∧
  H' e = some (.ext (XO e C d)) ∧ s.heap.objs.size ≤ e ∧ (∃ T oT ts oe vs, s'.heap.get? e = some oe ∧ oe.data = .fields vs ∧ vs[1]? = some (.ref T) ∧ H' T = none ∧ s.heap.objs.size ≤ T ∧ s'.heap.get? T = some oT ∧ oT.data = .fields ts ∧ ts[3]? = some .none) ∧ E C d H'
def Takes (X : Cx) (E : XKS) : Prop := ∀ (pins : List (Addr × Obj)) (σ : St) (H : Hp) (s : Shared) (e : Addr) (C : Value) (d : Option Addr), Inv X pins σ H s → H e = some (.ext (XO e C d)) → (X.ex = [] → X.s₀.heap.objs.size ≤ e) → XSt X pins H s.heap e → E σ C d H → X.xe (.ref e) s
theorem takes_def {P : Program} {w : World} {K : PySem.W.Frag} {mg : Str → Option Value} {base : Heap} {N : List Str} {qual : Str} {scope : Scope} {f : Addr} {cd : Value} {A : Around} {outer : List Env} {s : Shared} {H : Hp} {E : XK} :
    Takes (cxOf (CXE P w) P w K mg base N qual scope f cd A outer s H E) (fun _ => E) := by
  intro pins σ H1 s1 e C d I he hy x hE
  show wpAny _ _ (leaving _ _) _ _ s1
  unfold leaving
  refine wpAny_bind (note_ok (X := cxOf (CXE P w) P w K mg base N qual scope f cd A outer s H E) I.ok.frames rfl rfl I he x fun h2 I2 x2 => land_ok I2 he x2 fun h3 I3 x3 => ?_)
  obtain ⟨T, oT, ts, oe, vs, ho, hd, h1, fT, hT, hdT, h3'⟩ := x3
  refine ⟨e, C, d, H1, rfl, I3.os, I3.bare, I3.base, I3.hok, he, hy rfl, ⟨T, oT, ts, oe, vs, ho, hd, h1, fT.1, ?_, hT, hdT, h3'⟩, hE⟩
  rcases fT.2.2.2.1 with z | z
  · exact absurd z (by show T ∉ ([] : List Addr); simp)
  · exact z
/-- a callee's exception comes to a body that takes it -/
theorem takes_pass {X : Cx} {E : XKS} (hT : Takes X E) {pins : List (Addr × Obj)} {σ : St} {H : Hp} {s s' : Shared} {ev : Value} (I : Inv X pins σ H s) (h : CXE X.prog X.w X.stack H s (E σ) ev s') : X.xe ev s' := by
  obtain ⟨e, C, d, H', rfl, os, bare, un, hok, he, hes, ⟨T, oT, ts, oe, vs, ho, hd, h1, hTn, hTs, hT', hdT, h3⟩, hE⟩ := h
  have I1 := I.call' (ch := []) os un hok bare (fun b z => absurd z (by simp))
  exact hT pins σ H' s' e C d I1 he (fun _ => Nat.le_trans I.sz hes) (.inr ⟨T, oT, ts, oe, vs, ho, hd, h1, I.fpOk hTs hTn, hT', hdT, h3⟩) hE
end L2

namespace L2
open PySem PySem.Spec PyProof.Rows
/-! ### callees that may raise -/
/-- a def of the text that may raise -/
theorem Fun.okX {P : Program} {w : World} {K : PySem.W.Frag} {mg : Str → Option Value} {base : Heap} {x qual : Str} {st : Stmt} {f : Addr} {fd : FuncData} {N ps : List Str} {k : Nat} {sp : Sp} (F : Fun K x qual st f fd) (S : FnScope N ps (defScope st)) (len : ∀ vs H Q E, sp vs H Q E → vs.length = ps.length)
    (hbody : ∀ (cdv : Value) (A : Around) (outer : List Env) (s : Shared) (H : Hp) (vs : List V) (Q : VK) (E : XK), Room k (A.deeper (envOfC qual (defScope st) s.heap.objs.size f cdv)) → sp vs H Q E →
      ∃ t, PSs (cxOf (CXE P w) P w K mg base N qual (defScope st) f cdv A outer s H E) (defBody st) t ∧ t { nx := fun _ H' => Q .non H', rt := Q } (start N vs) H) : FnOk P w K mg base (CXE P w) (k + 1) f fd ps sp := by
  obtain ⟨oc, od, kV, doc, pm, an, cdv, ct, osl, rfl, lk, hcd⟩ := F.ex
  exact fn_of lk hcd S len fun A outer s H vs Q E hr hsp => hbody cdv A outer s H vs Q E hr hsp
/-! ### which classes an except names -/
structure XCl (K : PySem.W.Frag) (D : Addr) : Prop where
  cl : PySem.W.isClsIn K D = true
  exc : PySem.W.mroIn K D (.type "BaseException") = some true
  nt : PySem.W.instIn K (.ref D) (.type "tuple") = some false
inductive Spec (K : PySem.W.Frag) (H : Hp) : V → List Addr → Prop
  | one {D : Addr} : XCl K D → Spec K H (.ref D) [D]
  | many {p : Addr} {Ds : List Addr} : SqT K H p (Ds.map V.ref) → (∀ D ∈ Ds, XCl K D) → Spec K H (.ref p) Ds
theorem vals_refs : ∀ {Ds : List Addr} {us : List Value}, Vals (Ds.map V.ref) us → us = Ds.map Value.ref
  | [], _, .nil => rfl
  | D :: Ds, _, .cons r t => by
    rw [vals_refs t]
    obtain rfl : _ = Value.ref D := r
    rfl
section
variable {M : Model} {A : Around} {E : Value → Shared → Prop} {s : Shared} {K : PySem.W.Frag} {D : Addr}
theorem XCl.isExc (x : XCl K D) (X : K.In s.heap) {Q : Bool → Shared → Prop} (h : Q true s) : wpAny M A (isExcClass (.ref D)) Q E s := by
  have hc := x.cl
  unfold PySem.W.isClsIn PySem.W.clsIn at hc
  split at hc
  · rename_i ho
    unfold isExcClass
    refine wpAny_bind ?_
    show wpAny M A (loadHead D >>= _) _ _ s
    refine wpAny_bind (wpAny_loadPart (X _ _ ho) (wpAny_pure ?_))
    dsimp only
    rw [if_pos rfl]
    exact (PySem.W.looks_mroIn X x.exc).here h
  · cases hc
theorem each_ok {g : Value → PUnit → Sem (ForInStep PUnit)} : ∀ (Ls : List Addr), (∀ D ∈ Ls, ∀ {Q : ForInStep PUnit → Shared → Prop}, Q (.yield PUnit.unit) s → wpAny M A (g (.ref D) PUnit.unit) Q E s) → ∀ {Q : PUnit → Shared → Prop}, Q PUnit.unit s → wpAny M A (forIn (Ls.map Value.ref) PUnit.unit g) Q E s
  | [], _, _, h => wpAny_pure h
  | D :: Ls, hg, _, h => by
    rw [List.map_cons, List.forIn_cons]
    exact wpAny_bind (hg D (List.mem_cons_self ..) (each_ok Ls (fun y hy => hg y (List.mem_cons_of_mem _ hy)) h))
theorem any_ok {f : Addr → Bool} {g : Value → Option Bool × Unit → Sem (ForInStep (Option Bool × Unit))} : ∀ (Ls : List Addr), (∀ D ∈ Ls, ∀ {Q : ForInStep (Option Bool × Unit) → Shared → Prop}, Q (if f D = true then .done (some true, ()) else .yield (none, ())) s → wpAny M A (g (.ref D) (none, ())) Q E s) →
    ∀ {Q : Option Bool × Unit → Shared → Prop}, Q (if Ls.any f = true then some true else none, ()) s → wpAny M A (forIn (Ls.map Value.ref) ((none, ()) : Option Bool × Unit) g) Q E s
  | [], _, _, h => wpAny_pure h
  | D :: Ls, hg, _, h => by
    rw [List.map_cons, List.forIn_cons]
    rw [List.any_cons] at h
    refine wpAny_bind (hg D (List.mem_cons_self ..) ?_)
    cases hf : f D with
    | true =>
      rw [hf] at h
      exact wpAny_pure h
    | false =>
      rw [hf] at h
      exact any_ok Ls (fun y hy => hg y (List.mem_cons_of_mem _ hy)) h
theorem em_ok {X : Cx} {pins : List (Addr × Obj)} {σ : St} {H : Hp} {f : Addr → Bool} {C e : Addr} {oe : Obj} {Q : Bool → Shared → Prop} {v : V} {u : Value} {Ds : List Addr} (I : Inv X pins σ H s) (hv : Spec X.K H v Ds) (r : RelV v u) (he : s.heap.get? e = some oe) (hc : oe.cls = .ref C)
    (hb : ∀ D ∈ Ds, PySem.W.mroIn X.K C (.ref D) = some (f D)) (h : Q (Ds.any f) s) : wpAny M A (excMatches (.ref e) u) Q E s := by
  cases hv with
  | @one D hD =>
    obtain rfl : u = Value.ref D := r
    unfold excMatches
    refine wpAny_bind ((PySem.W.looks_instIn I.kIn hD.nt).here ?_)
    dsimp only
    rw [if_neg Bool.false_ne_true]
    refine wpAny_bind (wpAny_pure ?_)
    refine wpAny_bind (each_ok [D] (fun y hy {Q} q => ?_) (wpAny_bind (wpAny_typeOf_ref he (wpAny_bind (any_ok (f := f) [D] (fun y hy {Q} q => ?_) ?_)))))
    · obtain rfl := List.mem_singleton.mp hy
      exact wpAny_bind (hD.isExc I.kIn (wpAny_pure q))
    · rw [hc]
      refine wpAny_bind ((PySem.W.looks_mroIn I.kIn (hb y hy)).here ?_)
      cases hf : f y with
      | true => rw [hf] at q; exact wpAny_pure q
      | false => rw [hf] at q; exact wpAny_pure q
    · cases hf : [D].any f with
      | true => rw [hf] at h; exact wpAny_pure h
      | false => rw [hf] at h; exact wpAny_pure h
  | @many p _ hp hD =>
    obtain rfl : u = Value.ref p := r
    obtain ⟨its, rv, ⟨o, ho, hcl, n, hd⟩, _⟩ := I.tuple hp
    unfold excMatches
    refine wpAny_bind (wpAny_isInstance (T := "tuple") ⟨o, ho, hcl⟩ (show isSubtype (.type "tuple") (.type "tuple") = pure true by rw [isSubtype_type]; kernel_rfl) ?_)
    dsimp only
    rw [if_pos rfl]
    refine wpAny_bind (wpAny_seqItems ho hd (wpAny_bind (wpAny_pure ?_)))
    have e1 : ((some its.toArray).getD #[]).toList = Ds.map Value.ref := by
      rw [← vals_refs rv]; rfl
    rw [e1]
    refine wpAny_bind (each_ok Ds (fun y hy {Q} q => ?_) (wpAny_bind (wpAny_typeOf_ref he (wpAny_bind (any_ok (f := f) Ds (fun y hy {Q} q => ?_) ?_)))))
    · exact wpAny_bind ((hD y hy).isExc I.kIn (wpAny_pure q))
    · rw [hc]
      refine wpAny_bind ((PySem.W.looks_mroIn I.kIn (hb y hy)).here ?_)
      cases hf : f y with
      | true => rw [hf] at q; exact wpAny_pure q
      | false => rw [hf] at q; exact wpAny_pure q
    · cases hf : Ds.any f with
      | true => rw [hf] at h; exact wpAny_pure h
      | false => rw [hf] at h; exact wpAny_pure h
end
end L2

namespace L2
open PySem PySem.Spec PyProof.Rows
/-! ### try -/
/-- the body of a try: the pins are borne by every state -/
abbrev Cx.tr (X : Cx) (pins : List (Addr × Obj)) (E : Value → Shared → Prop) : Cx := { X with pn := X.pn ++ pins, xe := E }
/-- an except's test or suite -/
abbrev Cx.hd (X : Cx) (e : Addr) : Cx := { X with A := X.A.mark (some (.ref e)), calm := false, xe := fun _ _ => False }
section
variable {X : Cx} {pins pins' : List (Addr × Obj)} {σ : St} {H : Hp} {s : Shared} {e : Addr} {E : Value → Shared → Prop}
theorem Inv.tr (I : Inv X pins σ H s) (E : Value → Shared → Prop) : Inv (X.tr pins E) [] σ H s :=
  ⟨⟨I.ok.mod, I.ok.kind, I.ok.glob, I.ok.blt, I.ok.above, I.ok.inj, I.ok.has, I.ok.cab, I.ok.hd, I.ok.frames, I.ok.stk, I.ok.exf, I.ok.bs, I.ok.bsz, I.ok.noex, I.ok.exfs, I.ok.funs, I.ok.frf⟩, I.os, I.bare, I.base, I.loc, I.cell, I.free, I.freeC, fun p hp => I.pin p (by simpa using hp), I.hok, I.len⟩
theorem Inv.untr (I : Inv (X.tr pins E) pins' σ H s) : Inv X pins σ H s :=
  ⟨⟨I.ok.mod, I.ok.kind, I.ok.glob, I.ok.blt, I.ok.above, I.ok.inj, I.ok.has, I.ok.cab, I.ok.hd, I.ok.frames, I.ok.stk, I.ok.exf, I.ok.bs, I.ok.bsz, I.ok.noex, I.ok.exfs, I.ok.funs, I.ok.frf⟩, I.os, I.bare, I.base, I.loc, I.cell, I.free, I.freeC, fun p hp => I.pin p (List.mem_append_left _ hp), I.hok, I.len⟩
theorem FpOk.untr {T : Addr} (f : FpOk (X.tr pins E) pins' H T) : FpOk X pins H T := ⟨f.1, f.2.1, f.2.2.1, f.2.2.2.1, f.2.2.2.2.1, fun p hp => f.2.2.2.2.2 p (List.mem_append_left _ hp)⟩
theorem Inv.hd (I : Inv X pins σ H s) (e : Addr) : Inv (X.hd e) pins σ H s :=
  ⟨⟨I.ok.mod, I.ok.kind, I.ok.glob, I.ok.blt, I.ok.above, I.ok.inj, I.ok.has, I.ok.cab, (fun z => nomatch z), I.ok.frames, I.ok.stk, I.ok.exf, I.ok.bs, I.ok.bsz, I.ok.noex, I.ok.exfs, I.ok.funs, I.ok.frf⟩, I.os, I.bare, I.base, I.loc, I.cell, I.free, I.freeC, I.pin, I.hok, I.len⟩
theorem Inv.unhd (I : Inv (X.hd e) pins σ H s) (ok : X.Ok) : Inv X pins σ H s := ⟨ok, I.os, I.bare, I.base, I.loc, I.cell, I.free, I.freeC, I.pin, I.hok, I.len⟩
theorem Inv.drop1 {p : Addr × Obj} (I : Inv X (p :: pins) σ H s) : Inv X pins σ H s := I.pins_of fun q hq => I.pin q (List.mem_append_right _ (List.mem_cons_of_mem _ hq))
theorem SP.untr {D : Ends} {f : Flow} {s' : Shared} (h : SP (X.tr pins E) pins' D f s') : SP X pins D f s' := by
  cases f with
  | next => obtain ⟨σ', H', I, q⟩ := h; exact ⟨σ', H', I.untr, q⟩
  | brk => obtain ⟨σ', H', I, q⟩ := h; exact ⟨σ', H', I.untr, q⟩
  | cont => obtain ⟨σ', H', I, q⟩ := h; exact ⟨σ', H', I.untr, q⟩
  | ret u => obtain ⟨v, σ', H', I, r, q⟩ := h; exact ⟨v, σ', H', I.untr, r, q⟩
end
/-- an object that is known -/
def Known (e : Addr) (oe : Obj) : HO := .ext fun h => h.get? e = some oe
theorem known_ok {P : Program} {w : World} {H : Hp} {h : Heap} {e : Addr} {oe : Obj} (x : h.get? e = some oe) : ObjOk P w H h e (Known e oe) := ⟨x, ⟨oe, x⟩, fun _ _ p k => k _ p⟩
abbrev THS := Ends → St → Hp → Addr → Obj → Prop
def PH (X : Cx) (hs : List ExceptHandler) (t : THS) : Prop := ∀ (pins : List (Addr × Obj)) (s : Shared) (σ : St) (H : Hp) (D : Ends) (e : Addr) (oe : Obj) (T : Addr) (oT : Obj) (ts vs : Array Value),
  Inv X ((T, oT) :: pins) σ H s → FpOk X pins H T → oe.data = .fields vs → vs[1]? = some (.ref T) → oT.data = .fields ts → ts[3]? = some .none → H e = some (Known e oe) → t D σ H e oe →
  wpAny (model X.prog X.w) X.A (handleBy (.ref e) X.env hs) (SP X pins D) X.xe s
def tTry (tb : XKS → TS) (th : THS) : TS := fun D σ H => ∃ E : XKS, tb E D σ H ∧ ∀ (σ' : St) (C : Value) (d : Option Addr) (H' : Hp) (e : Addr) (oe : Obj), E σ' C d H' → H' e = some (.ext (XO e C d)) → oe.cls = C → oe.dict = d → (∃ vs, oe.data = .fields vs) → th D σ' (upd H' e (Known e oe)) e oe
section
variable {X : Cx} {body : List Stmt} {h₀ : ExceptHandler} {hs rest : List ExceptHandler} {tb : XKS → TS} {th tr : THS} {pos : Pos}
theorem ps_try (hstk : X.stack = X.env :: X.outer) (hf : X.env.frame = some X.env.locals)
    (hb : ∀ (E : XKS) (pins : List (Addr × Obj)) (E₁ : Value → Shared → Prop), Takes (X.tr pins E₁) E → PassesOwn (model X.prog X.w) X.A X.env E₁ → PSs (X.tr pins E₁) body (tb E)) (hh : PH X (h₀ :: hs) th) : PS X (.Try body (h₀ :: hs) [] [] pos) (tTry tb th) := by
  intro pins s σ H D I h
  obtain ⟨E, h1, h2⟩ := h
  refine wpAny_Try_except ?_
  refine wpAny_mono (hb E pins _ ?_ PassesOwn.looking [] s σ H D (I.tr _) h1) (fun f s1 q => ?_) fun e s1 q => q
  · intro pins' σ' H' s1 e C d I1 he hy x hE
    refine note_ok (X := X.tr pins _) (by rw [I.ok.frames, hstk]) hstk hf I1 he x fun h2' I2 x2 => land_ok I2 he x2 fun h3 I3 x3 => ?_
    obtain ⟨T, oT, ts, oe, vs, ho, hd, hv1, fT, hT, hdT, h3'⟩ := x3
    obtain ⟨oe', vs', ho', hc, hdd, _⟩ := I3.xo he
    rw [ho] at ho'
    cases ho'
    have I4 := I3.untr
    have I5 := I4.write (x := e) (e := e) (o := Known e oe) (t' := s1.toks) (h' := h3) (by rw [he]; trivial) (.inl rfl) (fun b u _ z => z) ⟨oe, ho⟩ (known_ok ho)
    have fT' := fT.untr
    have hne : T ≠ e := fun z => by subst z; rw [fT'.1] at he; cases he
    have fT2 : FpOk X pins (upd H' e (Known e oe)) T := ⟨by rw [upd_ne hne]; exact fT'.1, fT'.2⟩
    have I6 : Inv X ((T, oT) :: pins) σ' (upd H' e (Known e oe)) { s1 with heap := h3 } := I5.pins_of fun p hp => by
      rcases List.mem_cons.mp hp with rfl | hp
      · exact ⟨hT, fT2.1, fT2.2.1, fT2.2.2.1, fun v z => by rw [hdT] at z; cases z⟩
      · exact I5.pin p (List.mem_append_right _ hp)
    exact hh pins _ σ' _ D e oe T oT ts vs I6 fT2 hd hv1 hdT h3' upd_same (h2 σ' C d H' e oe hE he hc hdd ⟨vs, hd⟩)
  · cases f with
    | next =>
      obtain ⟨σ', H', I', q⟩ := q
      exact wpAny_execs_nil ⟨σ', H', I'.untr, q⟩
    | brk => exact SP.untr q
    | cont => exact SP.untr q
    | ret u => exact SP.untr q
/-- a name goes -/
theorem unbind_ok {M : Model} {A : Around} {E : Value → Shared → Prop} {pins : List (Addr × Obj)} {σ : St} {H : Hp} {s : Shared} {i : Nat} {n : Str} {Q : Unit → Shared → Prop} (I : Inv X pins σ H s) (hN : X.N.Nodup) (hi : X.N[i]? = some n) (hk : X.env.scope.names.lookup n = some .local)
    (h : ∀ s', Inv X pins (σ.set i none) H s' → Q () s') : wpAny M A (bindName X.env n .none >>= fun _ => unbindBehindTheSuite X.env n pos) Q E s := by
  obtain ⟨m, hn, hl⟩ := id I.loc
  have hcls : (X.env.scope.kind == .class || (X.env.scope.kind == .module && X.env.locals != X.env.globals)) = false := by rw [I.ok.kind]; rfl
  have hl0 : X.env.kindOf n = some .local := hk
  refine wpAny_bind (wpAny_bindName (wpAny_storeName_local hl0 hn (fun ha hna hsa => ?_) hcls))
  unfold unbindBehindTheSuite
  refine wpAny_onRaise ?_
  unfold unbindName deleteName
  refine wpAny_bind (wpAny_point (wpAny_bind ?_)); simp only [hl0, hcls]
  rw [if_neg (by decide)]
  refine wpAny_bind (wpAny_nsDel_keeps hna fun hb v hnb hsb => ?_)
  simp only [if_true, Option.isSome_some, Bool.not_true, Bool.false_eq_true, if_false]
  refine wpAny_pure (wpAny_point (h _ ?_))
  have hs := hsa.trans hsb
  obtain ⟨oL, _, _, hoL, _⟩ := id hn
  have cne := I.cne
  refine ⟨I.ok, I.os, I.bare, ⟨fun b o e n hb hx => ?_, fun b o e n hb hx => ?_, I.base.free, fun b o e hx => ?_, I.base.tups, I.base.frzs, I.base.tbls⟩, ⟨_, hnb, fun j y v' e1 e2 e3 => ?_⟩, fun y c e => ?_, I.free, I.freeC, fun p hp => ?_, fun b ob e => ?_, by simpa using I.len⟩
  · exact (hs.2 b (Nat.ne_of_lt (Nat.lt_of_lt_of_le (Heap.lt_size e) I.ok.above))).trans (I.base.keep b o e n hb hx)
  · obtain ⟨sl, e1⟩ := I.base.slot b o e n hb hx
    exact ⟨sl, (hs.2 b (Nat.ne_of_lt (Nat.lt_of_lt_of_le (Heap.lt_size e) I.ok.above))).trans e1⟩
  · obtain ⟨o', e1⟩ := I.base.there b o e hx
    exact ⟨o', (hs.2 b (Nat.ne_of_lt (Nat.lt_of_lt_of_le (Heap.lt_size e) I.ok.above))).trans e1⟩
  · by_cases hj : j = i
    · subst hj
      by_cases hlt : j < σ.length
      · rw [List.getElem?_set_self hlt] at e2; cases e2
      · rw [List.getElem?_eq_none (by rw [List.length_set]; (first | lia | omega))] at e2; cases e2
    · rw [List.getElem?_set_ne (Ne.symm hj)] at e2
      obtain ⟨u', r', q⟩ := hl j y v' e1 e2 e3
      refine ⟨u', r', ?_⟩
      rcases q with ⟨k, e⟩ | ⟨k, c, e, z⟩
      · refine .inl ⟨k, ?_⟩
        have : y ≠ n := fun e => hj (nodup_ix hN e1 (e ▸ hi))
        simp [this, e]
      · exact .inr ⟨k, c, e, z.sameBut hs (cne y c e)⟩
  · obtain ⟨w', z⟩ := I.cell y c e
    exact ⟨w', z.sameBut hs (cne y c e)⟩
  · obtain ⟨e, n, ne, nf, d⟩ := I.pin p hp
    exact ⟨(hs.2 p.1 ne).trans e, n, ne, nf, d⟩
  · refine (I.hok b ob e).stay (fun c w' hc q => (hs.2 c ?_).trans q) (fun _ q => q) fun _ _ q => q
    rintro rfl
    rcases hc with rfl | hc
    · rw [I.free] at e; cases e
    · rw [I.free] at hc; cases hc
def unb (D : Ends) (i : Nat) : Ends := { nx := fun σ H => D.nx (σ.set i none) H, rt := D.rt, bk := fun σ H => D.bk (σ.set i none) H, ct := fun σ H => D.ct (σ.set i none) H }
theorem flight_same {M : Model} {A : Around} {E : Value → Shared → Prop} {s : Shared} {e T : Addr} {oe oT : Obj} {vs ts : Array Value} {Q : Unit → Shared → Prop} (ho : s.heap.get? e = some oe) (hd : oe.data = .fields vs) (h1 : vs[1]? = some (.ref T)) (hT : s.heap.get? T = some oT) (hdT : oT.data = .fields ts) (h3 : ts[3]? = some .none) (h : Q () s) :
    wpAny M A (setFlight (.ref e) none) Q E s := by
  unfold setFlight
  refine wpAny_bind (wpAny_field ho hd h1 ?_)
  rw [if_pos (show (Value.ref T != Value.none) = true by simp)]
  refine wpAny_setField hT hdT (Array.getElem?_eq_some_iff.mp h3).1 ?_
  show Q () { s with heap := s.heap.update T (Obj.mapFields (·.setIfInBounds 3 Value.none)) }
  rw [Heap.update_setField_same s.heap T oT ts 3 .none hT hdT h3]
  exact h
theorem ph_as {t : Expr} {n : Str} {b₀ : Stmt} {sb : List Stmt} {tt : TE} {tu : TS} {i : Nat} (ht : ∀ e, PE (X.hd e) t tt) (hN : X.N.Nodup) (hi : X.N[i]? = some n) (hk : X.env.scope.names.lookup n = some .local) (hs : ∀ e, PSs (X.hd e) (b₀ :: sb) tu) : PH X (.ExceptHandler (some t) (some n) (b₀ :: sb) pos :: rest)
    (fun D σ H e oe => tt σ H fun v H1 => ∃ Ds C f, Spec X.K H1 v Ds ∧ oe.cls = .ref C ∧ (∀ D ∈ Ds, PySem.W.mroIn X.K C (.ref D) = some (f D)) ∧ Ds.any f = true ∧ H1 e = some (Known e oe) ∧ tu (unb D i) (σ.set i (some (.ref e))) H1) := by
  intro pins s σ H D e oe T oT ts vs I fT hd h1 hdT h3 he h
  refine wpAny_handleBy_cons (codeAny_handlers_test (wpAny_mono ((ht e) ((T, oT) :: pins) s σ H _ (I.hd e) h) (fun u s1 q => ?_) fun _ _ z => z.elim)) (by intro z; cases z)
  obtain ⟨v, H1, I1, r, Ds, C, f, hsp, hc, hb, hany, hkn, q⟩ := q
  have I1' := I1.unhd I.ok
  have hoe := (I1'.hok e _ hkn).1
  refine em_ok (f := f) I1' hsp r hoe hc hb ?_
  rw [hany]
  refine codeAny_handlers_suite_as ?_
  have hTo := (I1'.pin (T, oT) (List.mem_append_right _ (List.mem_cons_self ..))).1
  refine flight_same hoe hd h1 hTo hdT h3 ?_
  refine store_ok I1'.drop1 hN hi (.inl hk) (show RelV (.ref e) (.ref e) from rfl) (fun s2 I2 => ?_) (.inr hk)
  refine wpAny_mono ((hs e) pins s2 _ H1 (unb D i) (I2.hd e) q) (fun fl s3 q3 => ?_) fun _ _ z => z.elim
  show wpAny _ X.A (bindName X.env n .none >>= fun _ => unbindBehindTheSuite X.env n pos) _ _ s3
  cases fl with
  | next =>
    obtain ⟨σ', H', I3, q3⟩ := q3
    exact unbind_ok (I3.unhd I.ok) hN hi hk fun s' I' => ⟨_, _, I', q3⟩
  | brk =>
    obtain ⟨σ', H', I3, q3⟩ := q3
    exact unbind_ok (I3.unhd I.ok) hN hi hk fun s' I' => ⟨_, _, I', q3⟩
  | cont =>
    obtain ⟨σ', H', I3, q3⟩ := q3
    exact unbind_ok (I3.unhd I.ok) hN hi hk fun s' I' => ⟨_, _, I', q3⟩
  | ret u =>
    obtain ⟨v3, σ', H', I3, r3, q3⟩ := q3
    exact unbind_ok (I3.unhd I.ok) hN hi hk fun s' I' => ⟨v3, _, _, I', r3, q3⟩
theorem ph_hit {t : Expr} {b₀ : Stmt} {sb : List Stmt} {tt : TE} {tu : TS} (ht : ∀ e, PE (X.hd e) t tt) (hs : ∀ e, PSs (X.hd e) (b₀ :: sb) tu) : PH X (.ExceptHandler (some t) none (b₀ :: sb) pos :: rest)
    (fun D σ H e oe => tt σ H fun v H1 => ∃ Ds C f, Spec X.K H1 v Ds ∧ oe.cls = .ref C ∧ (∀ D ∈ Ds, PySem.W.mroIn X.K C (.ref D) = some (f D)) ∧ Ds.any f = true ∧ H1 e = some (Known e oe) ∧ tu D σ H1) := by
  intro pins s σ H D e oe T oT ts vs I fT hd h1 hdT h3 he h
  refine wpAny_handleBy_cons (codeAny_handlers_test (wpAny_mono ((ht e) ((T, oT) :: pins) s σ H _ (I.hd e) h) (fun u s1 q => ?_) fun _ _ z => z.elim)) (by intro z; cases z)
  obtain ⟨v, H1, I1, r, Ds, C, f, hsp, hc, hb, hany, hkn, q⟩ := q
  have I1' := I1.unhd I.ok
  have hoe := (I1'.hok e _ hkn).1
  refine em_ok (f := f) I1' hsp r hoe hc hb ?_
  rw [hany]
  refine codeAny_handlers_suite ?_
  have hTo := (I1'.pin (T, oT) (List.mem_append_right _ (List.mem_cons_self ..))).1
  refine flight_same hoe hd h1 hTo hdT h3 ?_
  refine wpAny_mono ((hs e) pins s1 _ H1 D (I1'.drop1.hd e) q) (fun fl s3 q3 => ?_) fun _ _ z => z.elim
  cases fl with
  | next => obtain ⟨σ', H', I3, q3⟩ := q3; exact ⟨σ', H', I3.unhd I.ok, q3⟩
  | brk => obtain ⟨σ', H', I3, q3⟩ := q3; exact ⟨σ', H', I3.unhd I.ok, q3⟩
  | cont => obtain ⟨σ', H', I3, q3⟩ := q3; exact ⟨σ', H', I3.unhd I.ok, q3⟩
  | ret u => obtain ⟨v3, σ', H', I3, r3, q3⟩ := q3; exact ⟨v3, σ', H', I3.unhd I.ok, r3, q3⟩
end
end L2

namespace L2
open PySem PySem.Spec PyProof.Rows PySem.W
/-! ### an own class of errors, under ValueError by one class more -/
abbrev bmV : List Value := [.type "ValueError", .type "Exception", .type "BaseException", .type "object"]
def keysOk (es : Array DictEntry) : Bool := es.toList.all fun e => match e.key with | .str _ _ => true | _ => false
/-- the class in the middle: it has no __init__ of its own -/
structure XMid (K : Frag) (G : Addr) : Prop where
  ob : ∃ c0 dd cd sl oc od es ep sl', K.lookup G = some ⟨c0, dd, .cls cd, sl⟩ ∧ K.lookup cd.ns = some ⟨oc, od, .dict es ep, sl'⟩ ∧ keysOk es = true ∧ nsIn K cd.ns "__init__" = some none
structure XTop (K : Frag) (C G : Addr) : Prop where
  ob : ∃ nm q N bs hdct sn sub ab col dd k0 k1 k2 k3 k5, K.lookup C = some (excClassObj nm q C N bs (.ref G :: bmV) hdct sn sub ab col dd k0 k1 k2 k3 k5 "ValueError.__new__")
  mid : XMid K G
  call : specialIn K (.ref C) "__call__" = some (some (.builtin "type.__call__"))
  typ : instIn K (.ref C) (.type "type") = some true
  kp : keepIn K (.ref C) = true
theorem XMid.tail {K : Frag} {G : Addr} {h : Heap} (x : XMid K G) (X : K.In h) : OwnTail h bmV (.ref G :: bmV) := by
  obtain ⟨c0, dd, cd, sl, oc, od, es, ep, sl', h1, h2, h3, h4⟩ := x.ob
  have hns : h.isNs cd.ns = true := by
    unfold Heap.isNs
    rw [X _ _ h2]
    have h5 := h3
    unfold keysOk at h5
    rw [Array.all_toList] at h5
    exact h5
  have hN := Heap.Ns.of_isNs hns
  exact .own (X _ _ h1) hN (ns_none_of X hN h4) .base
theorem XTop.mro {K : Frag} {C G : Addr} (x : XTop K C G) : ∃ cd, clsIn K C = some cd ∧ cd.mro = .ref C :: .ref G :: bmV := by
  obtain ⟨nm, q, N, bs, hdct, sn, sub, ab, col, dd, k0, k1, k2, k3, k5, h1⟩ := x.ob
  have e : clsIn K C = some { name := nm, bases := bs, mro := .ref C :: .ref G :: bmV, ns := N, qualname := q, hasDict := hdct, slotNames := sn, subclasses := sub, abstract := ab, collection := col, hasDel := false } := by
    unfold clsIn
    rw [h1]
  exact ⟨_, e, rfl⟩
/-- the new exception -/
abbrev excObj (C t : Addr) : Obj := { cls := .ref C, data := .fields #[.ref t, .none, .none, .none, .bool false, .none] }
abbrev tupObj (vs : List Value) : Obj := { cls := .type "tuple", data := .seq vs.toArray }
section
variable {prog : Program} {w : World} {A : Around} {K : Frag} {C G f : Addr} {R : Result → Shared → Prop} {s : Shared}
/-- C(..) where C has an __init__ of its own -/
theorem xmake_core {us : List Value} {init : Value} (x : XTop K C G) (X : K.In s.heap) (hi : findIn K (.ref C) "__init__" = some (some init)) (b0 : ∀ self, Looks (model prog w) s.heap (bindSpecial init self) (init, [self])) (hl : us.length ≤ sizeLine)
    (hq : codeAny (model prog w) (A.under (.builtin "type.__call__" ⟨.ref C :: us, []⟩)) (.call init ⟨.ref (s.heap.objs.size + 1) :: us, []⟩) (InitBack (s.heap.objs.size + 1) R)
      { s with heap := (s.heap.push (tupObj us)).push (excObj C s.heap.objs.size) }) :
    codeAny (model prog w) A (.call (.ref C) ⟨us, []⟩) R s := by
  obtain ⟨hh, g, d, t, os⟩ := s
  obtain ⟨nm, q, N, bs, hdct, sn, sub, ab, col, dd, k0, k1, k2, k3, k5, hK⟩ := x.ob
  have hC := X _ _ hK
  have T := x.mid.tail X
  have call := looks_specialIn (M := model prog w) X x.call
  have typ := looks_instIn (M := model prog w) X x.typ
  have i0 := looks_findIn (M := model prog w) X hi
  refine codeAny_of_tree ?_
  show wpAny _ _ (callAny (.ref C) _) _ _ _
  refine nd_load hC ?_
  show wpAny _ _ (callAny.viaDunder (.ref C) _) _ _ _
  unfold callAny.viaDunder
  refine wpAny_bind (call.at ?_)
  dsimp only
  rw [tc_bind]
  refine wpAny_bind (wpAny_pure (wpAny_bind (wpAny_pure ?_)))
  refine wpAny_pure (a := Fin.again (.call (.builtin "type.__call__") ⟨.ref C :: us, []⟩)) ⟨rfl, ?_⟩
  refine codeAny_call_builtin_at (Code.quiet_builtin _ (by decide +kernel)) entry_typeCall (check_slot tc_kind tc_split typ (tc_args _ _ _) ?_)
  repeat (first | with_reducible refine wpAny_loadPart_at hC ?_ | with_reducible refine wpAny_madeBy_exc hC ?_ | wp_step)
  refine codeAny_call_builtin_code (Code.quiet_builtin _ F.excBase_ValueError.quiet) (wpAny_check_new_subT F.excBase_ValueError T hC (codeAny_exc_new_subT F.excBase_ValueError T hC ?_ hl))
  show wpAny _ _ _ _ _ _
  have k : ∀ b o, hh.get? b = some o → ((hh.push (tupObj us)).push (excObj C hh.objs.size)).get? b = some o := fun b o e => Heap.get?_push_of_some _ (Heap.get?_push_of_some _ e)
  have hx : ((hh.push (tupObj us)).push (excObj C hh.objs.size)).get? (hh.objs.size + 1) = some (excObj C hh.objs.size) := by heap_get
  have t1 : Looks (model prog w) ((hh.push (tupObj us)).push (excObj C hh.objs.size)) (typeOf (.ref (hh.objs.size + 1))) (.ref C) := (Looks.ld hx).andThen .now
  have s1 : Looks (model prog w) ((hh.push (tupObj us)).push (excObj C hh.objs.size)) (isSubtype (.ref C) (.ref C)) true := by
    obtain ⟨cd, hc, hm⟩ := x.mro
    refine (looks_mroIn X ?_).keeps k
    unfold mroIn
    rw [hc, Option.bind_some, hm]
    simp
  have i1 := i0.keeps k
  have b1 := (b0 (.ref (hh.objs.size + 1))).keeps k
  unfold isInstance callSpecial? specialOf
  repeat (first | with_reducible refine wpAny_call ?_ | lk)
  refine codeAny_mono hq fun r s' z => ?_
  rcases r with e | (v | _ | _ | _) <;> first | exact z | exact z.elim | skip
  obtain ⟨rfl, z⟩ := z
  exact wpAny_pure (wpAny_pure z)
end
end L2

namespace L2
open PySem PySem.Spec PyProof.Rows PySem.W Builtin Builtin.ObjectAttr
section
variable {prog : Program} {w : World} {A : Around} {E : Value → Shared → Prop} {K : Frag} {C G x : Addr} {s : Shared}
theorem bga_args (a b : Value) : argsOk "BaseException.__getattribute__" ⟨[a, b], []⟩ := F.args_bexc_ga a b
end
end L2

namespace L2
open PySem PySem.Spec PyProof.Rows PySem.W Builtin Builtin.ObjectAttr
end L2

namespace L2
open PySem PySem.Spec PyProof.Rows PySem.W
/-- an exception that is being made -/
def XNew (x : Addr) (C : Value) (d : Option Addr) : Heap → Prop := fun h => ∃ ox vs t, h.get? x = some ox ∧ ox.cls = C ∧ ox.dict = d ∧ ox.data = .fields vs ∧ 4 < vs.size ∧ vs[0]? = some (.ref t) ∧ vs[1]? = some .none
/-- what is raised -/
theorem raise_ok {M : Model} {A : Around} {E : Value → Shared → Prop} {s : Shared} {env : Env} {K : Frag} {C G : Addr} {x0 : Sem Value} {Q : Flow → Shared → Prop} (hh : A.handled = none) (y : XTop K C G)
    (h : wpAny M A x0 (fun v s1 => ∃ x d, v = .ref x ∧ K.In s1.heap ∧ XNew x (.ref C) d s1.heap ∧ E (.ref x) s1) E s) : wpAny M A (raiseStmt env (some x0) none) Q E s := by
  unfold raiseStmt
  refine wpAny_bind (wpAny_mono h (fun v s1 q => ?_) fun _ _ z => z)
  obtain ⟨x, d, rfl, X, ⟨ox, vs, t, ho, hc, hd, hf, hz, h0, h1⟩, hE⟩ := q
  obtain ⟨cd, hcd, hmro⟩ := y.mro
  have ty : Looks M s1.heap (typeOf (.ref x)) (.ref C) := hc ▸ (Looks.ld ho).andThen .now
  have isb : Looks M s1.heap (isInstance (.ref x) (.type "BaseException")) true := ty.andThen (looks_mroIn X (by unfold mroIn; rw [hcd, Option.bind_some, hmro]; rfl))
  have nt : Looks M s1.heap (isType (.ref x)) false := by
    intro A' Q' E' s' k q
    unfold isType loadHead
    refine wpAny_bind (wpAny_loadPart (k _ _ ho) ?_)
    rw [hf]
    exact wpAny_pure q
  obtain ⟨nm, q, N, bs, hdct, sn, sub, ab, col, dd, k0, k1, k2, k3, k5, hK⟩ := y.ob
  have tt : Looks M s1.heap (typeOf (.ref C)) (.type "type") := (Looks.ld (X _ _ hK)).andThen .now
  refine wpAny_bind (wpAny_pure (wpAny_bind (wpAny_holding ?_)))
  unfold excFromValue isExcClass
  refine wpAny_bind (wpAny_bind (nt.here ?_))
  rw [if_neg Bool.false_ne_true]
  refine wpAny_pure ?_
  rw [if_neg Bool.false_ne_true]
  refine wpAny_bind (isb.here ?_)
  rw [if_pos rfl]
  refine wpAny_pure ?_
  refine wpAny_bind (nt.here ?_)
  rw [if_neg Bool.false_ne_true]
  unfold raisedInstance
  refine wpAny_bind (wpAny_bind (ty.here (wpAny_bind (tt.here ?_))))
  rw [if_pos (by decide)]
  refine wpAny_pure ?_
  unfold setFlight
  refine wpAny_bind (wpAny_bind (wpAny_field ho hf h1 ?_))
  rw [if_neg (by decide)]
  exact wpAny_pure (wpAny_raiseNew_none hh hE)
end L2

namespace L2
open PySem PySem.Spec PyProof.Rows PySem.W
/-- the class G that is named in G.__init__(..) -/
structure XBas (K : Frag) (G : Addr) : Prop where
  ga : specialIn K (.ref G) "__getattribute__" = some (some (.builtin "type.__getattribute__"))
  rd : readsIn K G (.type "type") = true
  fi : findCls K (.ref G) (.type "type") "__init__" = some (.val (.builtin "ValueError.__init__"))
section
variable {X : Cx} {C G : Addr} {g : Str} {p pos apos : Pos} {e : Expr} {es : List Expr} {t : TA}
/-- a field of an exception -/
structure XFld (K : Frag) (C : Addr) (f : Str) : Prop where
  sa : findIn K (.ref C) "__setattr__" = some (some (.builtin "object.__setattr__"))
  no : findIn K (.ref C) f = some none
  hd : hasDictIn K C = true
  ga : findIn K (.ref C) "__getattribute__" = some (some (.builtin "BaseException.__getattribute__"))
  gt : findIn K (.ref C) "__getattr__" = some none
  mb : mroIn K C (.type "BaseException") = some true
end
/-- isinstance of an exception that was caught: of a class that it has -/
theorem xis_true {prog : Program} {w : World} {A : Around} {E : Value → Shared → Prop} {s : Shared} {K : Frag} {x : Addr} {C c : Value} {Q : Value → Shared → Prop} (X : K.In s.heap) (ty : ∀ M, Looks M s.heap (typeOf (.ref x)) C) (hne : (C == c) = false) (e : kitCls K C c = some true)
    (h : Q (.bool true) s) : wpAny (model prog w) A (call (.builtin "isinstance") [.ref x, c]) Q E s := by
  refine call_isinstance (S := fun _ R s => (K.In s.heap ∧ ∀ M, Looks M s.heap (typeOf (.ref x)) C) ∧ R (.ok (.ret (.bool true))) s) (fun prog w A R s hs => isinstance_outer ?_ (fun z => nomatch z)) ⟨⟨X, ty⟩, h⟩
  · obtain ⟨⟨X, LT⟩, hq⟩ := hs
    obtain ⟨h0, g, d, tt, os⟩ := s
    unfold Builtin.«isinstance.nested»
    refine wpAny_bind ((LT _).at ?_)
    rw [if_neg (by rw [hne]; decide)]
    obtain ⟨hty, his, hsub⟩ := kit_cls (M := model prog w) X e
    refine wpAny_bind (hty.at ?_)
    rw [if_pos (by decide)]
    k_delta "plainIsInstance"
    refine wpAny_bind (wpAny_bind (his.at ?_))
    simp only [Bool.not_true, Bool.false_eq_true, if_false]
    refine wpAny_bind (((LT _).andThen hsub).at ?_)
    first | exact wpAny_pure (wpAny_pure hq) | (simp only [if_true]; first | exact wpAny_pure (wpAny_pure hq) | exact wpAny_pure hq)
end L2

namespace L2
open PySem PySem.Spec PyProof.Rows PySem.W
section
variable {prog : Program} {w : World} {A : Around} {K : Frag} {C G : Addr} {R : Result → Shared → Prop} {s : Shared}
/-- C(..) where C has no __init__ of its own -/
theorem xmake0 {us : List Value} (x : XTop K C G) (X : K.In s.heap) (hi : findIn K (.ref C) "__init__" = some (some (.builtin "ValueError.__init__"))) (hl : us.length ≤ sizeLine)
    (hq : R (.ok (.ret (.ref (s.heap.objs.size + 1)))) { s with heap := (((s.heap.push (tupObj us)).push (excObj C s.heap.objs.size)).push (tupObj us)).update (s.heap.objs.size + 1) (Obj.mapFields (·.setIfInBounds 0 (.ref (s.heap.objs.size + 2)))) }) :
    codeAny (model prog w) A (.call (.ref C) ⟨us, []⟩) R s := by
  have F0 := F.excBase_ValueError
  refine xmake_core x X hi (fun self => Looks.of_pure (F0.init.bind self)) hl ?_
  obtain ⟨hh, g, d, tk, os⟩ := s
  obtain ⟨nm, q, N, bs, hdct, sn, sub, ab, col, dd, k0, k1, k2, k3, k5, hK⟩ := x.ob
  have k : ∀ b o, hh.get? b = some o → ((hh.push (tupObj us)).push (excObj C hh.objs.size)).get? b = some o := fun b o e => Heap.get?_push_of_some _ (Heap.get?_push_of_some _ e)
  have hx : ((hh.push (tupObj us)).push (excObj C hh.objs.size)).get? (hh.objs.size + 1) = some (excObj C hh.objs.size) := by heap_get
  have X2 := X.keeps k
  refine codeAny_call_builtin F0.init.plain F0.initEntry (wpAny_check_init_subT F0 (x.mid.tail X2) (X2 _ _ hK) hx rfl ?_)
  have hx2 : (((hh.push (tupObj us)).push (excObj C hh.objs.size)).push (tupObj us)).get? (hh.objs.size + 1) = some (excObj C hh.objs.size) := Heap.get?_push_of_some _ hx
  unfold Builtin.«BaseException.__init__»
  refine wpAny_bind (wpAny_newTuple ?_ hl)
  unfold Builtin.BaseException.bexcPut
  refine wpAny_bind (wpAny_bind (wpAny_field (s := ⟨((hh.push (tupObj us)).push (excObj C hh.objs.size)).push (tupObj us), g, d, tk, os⟩) hx2 rfl (x := .ref hh.objs.size) rfl (wpAny_bind (wpAny_setField (s := ⟨((hh.push (tupObj us)).push (excObj C hh.objs.size)).push (tupObj us), g, d, tk, os⟩) hx2 rfl (by simp) ?_))))
  wp_walk
  refine ⟨rfl, ?_⟩
  have e2 : ((hh.push (tupObj us)).push (excObj C hh.objs.size)).objs.size = hh.objs.size + 2 := by rw [Heap.size_push, Heap.size_push]
  rw [← e2] at hq
  exact hq
end
def tRaise0 (C : Addr) (E : XKS) (t : TA) : TS := fun _ σ H => t σ H fun vs H1 => vs.length ≤ 1000 ∧ ∀ y, H1 y = none → E σ (.ref C) none (upd H1 y (.ext (XO y (.ref C) none)))
section
variable {X : Cx} {j k : Nat} {C G : Addr} {E : XKS} {x : Str} {p pos cpos : Pos} {e : Expr} {es : List Expr} {t : TA}
theorem ps_raise0 (Z : XTop X.K C G) (hi : findIn X.K (.ref C) "__init__" = some (some (.builtin "ValueError.__init__"))) (nm : X.mg x = some (.ref C)) (hT : Takes X E) (hr : Room k X.A) (hg : Gl X x) (ha : PA X (e :: es) t) (hdb : (x == ("__debug__" : Str)) = false := by decide)
    (he : starEach (e :: es) X.env = (false, eval e X.env) :: starEach es X.env := by rfl) (hpl : (backTo cpos (starEach es X.env)).any (·.1) = false := by rfl) :
    PS X (.Raise (some (.Call (.Name x p) (e :: es) [] cpos)) none pos) (tRaise0 C E t) := by
  intro pins s σ H D I h
  show wpAny _ _ (standAt pos >>= fun _ => raiseStmt X.env (some (eval (.Call (.Name x p) (e :: es) [] cpos) X.env >>= fun v => standAt pos >>= fun _ => pure v)) none) _ _ s
  refine wpAny_bind (wpAny_standAt (raise_ok (hr.hd) Z (wpAny_bind ?_)))
  refine wpAny_Call_Name_kw (ld_glob I hg nm ?_ hdb)
  refine PySem.W.callWith_K (h₀ := X.base) I.ok.mod.kin Z.kp (thn (ha cpos pins s σ H _ I h) fun us s1 ⟨vs, H1, I1, r, hl, q⟩ => ⟨I1.kIn, ?_⟩) he hpl
  have hlu : us.length ≤ sizeLine := by rw [← r.length]; exact Nat.le_trans hl (by decide)
  have hy : H1 (s1.heap.objs.size + 1) = none := I1.hok.fresh (Nat.le_succ _)
  have hE := q (s1.heap.objs.size + 1) hy
  refine wpAny_call (xmake0 Z I1.kIn hi hlu ?_)
  have hx : ((s1.heap.push (tupObj us)).push (excObj C s1.heap.objs.size)).get? (s1.heap.objs.size + 1) = some (excObj C s1.heap.objs.size) := by heap_get
  have hx2 : (((s1.heap.push (tupObj us)).push (excObj C s1.heap.objs.size)).push (tupObj us)).get? (s1.heap.objs.size + 1) = some (excObj C s1.heap.objs.size) := Heap.get?_push_of_some _ hx
  have I2 : Inv X pins σ (upd H1 (s1.heap.objs.size + 1) (.ext (XO (s1.heap.objs.size + 1) (.ref C) none))) { s1 with heap := (s1.heap.push (tupObj us)).push (excObj C s1.heap.objs.size) } := by
    have a := I1.kept (t' := s1.toks) (h' := s1.heap.push (tupObj us)) fun b u q => Heap.get?_push_of_some _ q
    exact a.laid (t' := s1.toks) (fun b u q => Heap.get?_push_of_some _ q) (by show (s1.heap.push (tupObj us)).objs.size ≤ _; rw [Heap.size_push]; exact Nat.le_refl _) (XO.ext_ok ⟨_, _, hx, rfl, rfl, rfl, by simp⟩)
  have I3 := I2.kept (t' := s1.toks) (h' := ((s1.heap.push (tupObj us)).push (excObj C s1.heap.objs.size)).push (tupObj us)) fun b u q => Heap.get?_push_of_some _ q
  have I4 := I3.poke (t' := s1.toks) (h' := (((s1.heap.push (tupObj us)).push (excObj C s1.heap.objs.size)).push (tupObj us)).update (s1.heap.objs.size + 1) (Obj.mapFields (·.setIfInBounds 0 (.ref (s1.heap.objs.size + 2))))) upd_same (fun b u hb z => (Heap.get?_update_other _ _ (Ne.symm hb)).trans z) (XO.put ⟨_, _, hx2, rfl, rfl, rfl, by simp⟩ 0 _)
  have hget := fld_up 0 (.ref (s1.heap.objs.size + 2)) hx2 rfl
  refine wpAny_bind (wpAny_standAt (wpAny_pure ⟨_, none, rfl, I4.kIn, ⟨_, _, s1.heap.objs.size + 2, hget, rfl, rfl, rfl, by simp, rfl, rfl⟩, ?_⟩))
  exact hT pins σ _ _ _ (.ref C) none I4 upd_same (fun _ => Nat.le_trans I1.sz (Nat.le_succ _)) (.inl ⟨_, _, hget, rfl, rfl⟩) hE
end
section
variable {X : Cx}
/-- isinstance(e, D) of an exception that was caught, D one of its classes -/
theorem call_xisR : CallR X (.builtin "isinstance") (fun xs H Q => ∃ a oe C D, xs = [.ref a, .ref D] ∧ H a = some (Known a oe) ∧ oe.cls = .ref C ∧ C ≠ D ∧ isClsIn X.K D = true ∧ typeIn X.K (.ref D) = some (.type "type") ∧ mroIn X.K C (.ref D) = some true ∧ Q (.bl true) H) := by
  intro pins s σ H xs us Q I r h
  obtain ⟨a, oe, C, D, rfl, hk, hc, hne, h1, h2, h3, q⟩ := h
  obtain ⟨u, v, rfl, rx, ry⟩ := Vals.two r
  obtain rfl : u = Value.ref a := rx
  obtain rfl : v = Value.ref D := ry
  have ho : s.heap.get? a = some oe := (I.hok a _ hk).1
  refine xis_true I.kIn (C := .ref C) (fun M => hc ▸ (Looks.ld ho).andThen .now) (by simpa using hne) ?_ ⟨.bl true, H, I, rfl, q⟩
  unfold kitCls
  dsimp only
  unfold isClsIn at h1
  rw [h1, h2, if_pos (by decide)]
  exact h3
theorem call_xisT : CallR X (.builtin "isinstance") (fun xs H Q => ∃ a oe C n, xs = [.ref a, .ty n] ∧ H a = some (Known a oe) ∧ oe.cls = .ref C ∧ kitMeta n = true ∧ mroIn X.K C (.type n) = some true ∧ Q (.bl true) H) := by
  intro pins s σ H xs us Q I r h
  obtain ⟨a, oe, C, n, rfl, hk, hc, h1, h3, q⟩ := h
  obtain ⟨u, v, rfl, rx, ry⟩ := Vals.two r
  obtain rfl : u = Value.ref a := rx
  obtain rfl : v = Value.type n := ry
  have ho : s.heap.get? a = some oe := (I.hok a _ hk).1
  refine xis_true I.kIn (C := .ref C) (fun M => hc ▸ (Looks.ld ho).andThen .now) rfl ?_ ⟨.bl true, H, I, rfl, q⟩
  unfold kitCls
  dsimp only
  rw [if_pos h1]
  exact h3
end
end L2

/-! texts with values put in -/
namespace L2
open PySem PySem.Spec PyProof.Rows
end L2

/-! a display of many written texts -/
namespace L2
open PySem PySem.Spec PyProof.Rows
end L2
namespace L2
open PySem PySem.Spec PyProof.Rows
end L2
namespace L2
open PySem PySem.Spec PyProof.Rows PySem.W
variable {X : Cx}
theorem call_xisTK {K : Frag} (hK : X.K = K) : CallR X (.builtin "isinstance") (fun xs H Q => ∃ a oe C n, xs = [.ref a, .ty n] ∧ H a = some (Known a oe) ∧ oe.cls = .ref C ∧ kitMeta n = true ∧ mroIn K C (.type n) = some true ∧ Q (.bl true) H) := by
  subst hK
  exact call_xisT
end L2

/-! sorted: what it gives is what it was given, in some order, at any length -/
namespace Srt
open PySem PyProof.Rows
def gallop' : Bool → Keyed → Array Keyed → Nat → Nat → Nat → StateT SortSt Sem (Option Nat) := sortPriv% PySem.Builtin.gallop
def mergeLo' : Array Keyed → Array Keyed → StateT SortSt Sem (Array Keyed) := sortPriv% PySem.Builtin.mergeLo
def mergeHi' : Array Keyed → Array Keyed → StateT SortSt Sem (Array Keyed) := sortPriv% PySem.Builtin.mergeHi
/-- as another state but for how soon it gallops -/
structure Like (st st' : SortSt) : Prop where
  arr : arrOf st' = arrOf st
  kind : kindOf st' = kindOf st
  fail : failedOf st' = failedOf st
  pend : pendingOf st' = pendingOf st
theorem Like.refl (st : SortSt) : Like st st := ⟨rfl, rfl, rfl, rfl⟩
theorem Like.trans {a b c : SortSt} (x : Like a b) (y : Like b c) : Like a c := ⟨y.arr.trans x.arr, y.kind.trans x.kind, y.fail.trans x.fail, y.pend.trans x.pend⟩
section
variable {prog : Program} {w : World} {A : Around} {E : Value → Shared → Prop} {s : Shared} {κ : SortKind} {Ok : Keyed → Prop} {st : SortSt}
theorem wpS_elem {arr : Array Keyed} {i : Nat} {Q : Keyed → SortSt → Prop} (hi : i < arr.size) (h : ∀ p, p ∈ arr.toList → arr[i]? = some p → Q p st) : wpS (model prog w) A E s (elem' arr i) Q st := by
  have e : arr[i]? = some arr[i] := getElem?_pos arr i hi
  rw [elem'_eq, e]
  exact wpS_pure (h _ (by simp) e)
end
end Srt

namespace Srt
open PySem PyProof.Rows
/-- what is out: these many of the one, these of the other -/
def Out (a b : Array Keyed) (out : Array Keyed) (ia ib : Nat) : Prop := out.toList.Perm (a.toList.take ia ++ b.toList.take ib)
section
variable {a b out : Array Keyed} {ia ib : Nat}
theorem perm4 {α : Type} (x y z w : List α) : (x ++ y ++ (z ++ w)).Perm (x ++ z ++ (y ++ w)) := by
  rw [List.append_assoc, List.append_assoc]
  refine List.Perm.append_left x ?_
  rw [← List.append_assoc, ← List.append_assoc]
  exact List.Perm.append_right w List.perm_append_comm
theorem Out.done (h : Out a b out ia ib) : (out ++ a.extract ia a.size ++ b.extract ib b.size).toList.Perm (a.toList ++ b.toList) := by
  rw [Array.toList_append, Array.toList_append, Array.toList_extract, Array.toList_extract]
  have e1 : a.toList.extract ia a.size = a.toList.drop ia := by rw [List.extract_eq_drop_take]; apply List.take_of_length_le; rw [List.length_drop, Array.length_toList]; exact Nat.le_refl _
  have e2 : b.toList.extract ib b.size = b.toList.drop ib := by rw [List.extract_eq_drop_take]; apply List.take_of_length_le; rw [List.length_drop, Array.length_toList]; exact Nat.le_refl _
  rw [e1, e2, List.append_assoc]
  refine (List.Perm.append_right _ h).trans ((perm4 ..).trans ?_)
  rw [List.take_append_drop, List.take_append_drop]
theorem Out.last (h : Out a b out ia ib) : (out ++ b.extract ib b.size ++ a.extract ia a.size).toList.Perm (a.toList ++ b.toList) := by
  refine List.Perm.trans ?_ h.done
  rw [Array.toList_append, Array.toList_append, Array.toList_append, Array.toList_append, List.append_assoc, List.append_assoc]
  exact List.Perm.append_left _ List.perm_append_comm
theorem Out.extA {k : Nat} (h : Out a b out ia ib) (hk : ia + k ≤ a.size) : Out a b (out ++ a.extract ia (ia + k)) (ia + k) ib := by
  unfold Out
  rw [Array.toList_append, Array.toList_extract, List.extract_eq_drop_take]
  have e : a.toList.take (ia + k) = a.toList.take ia ++ (a.toList.drop ia).take k := List.take_add ..
  rw [e, show ia + k - ia = k by (first | lia | omega)]
  refine (List.Perm.append_right _ h).trans ?_
  rw [List.append_assoc, List.append_assoc]
  exact List.Perm.append_left _ List.perm_append_comm
theorem Out.extB {k : Nat} (h : Out a b out ia ib) (hk : ib + k ≤ b.size) : Out a b (out ++ b.extract ib (ib + k)) ia (ib + k) := by
  unfold Out
  rw [Array.toList_append, Array.toList_extract, List.extract_eq_drop_take]
  have e : b.toList.take (ib + k) = b.toList.take ib ++ (b.toList.drop ib).take k := List.take_add ..
  rw [e, show ib + k - ib = k by (first | lia | omega)]
  refine (List.Perm.append_right _ h).trans ?_
  rw [List.append_assoc]
theorem take_one {α : Type} {xs : List α} {i : Nat} {p : α} (h : xs[i]? = some p) : xs.take (i + 1) = xs.take i ++ [p] := by
  obtain ⟨hi, e⟩ := List.getElem?_eq_some_iff.mp h
  rw [List.take_succ_eq_append_getElem hi, e]
theorem Out.pushA {p : Keyed} (h : Out a b out ia ib) (hp : a[ia]? = some p) : Out a b (out.push p) (ia + 1) ib := by
  have hp' : a.toList[ia]? = some p := by rw [← hp]; simp
  unfold Out
  rw [Array.toList_push, take_one hp']
  refine (List.Perm.append_right _ h).trans ?_
  rw [List.append_assoc, List.append_assoc]
  exact List.Perm.append_left _ List.perm_append_comm
theorem Out.pushB {p : Keyed} (h : Out a b out ia ib) (hp : b[ib]? = some p) : Out a b (out.push p) ia (ib + 1) := by
  have hp' : b.toList[ib]? = some p := by rw [← hp]; simp
  unfold Out
  rw [Array.toList_push, take_one hp']
  refine (List.Perm.append_right _ h).trans ?_
  rw [List.append_assoc]
theorem out0 {p : Keyed} (hp : b[0]? = some p) : Out a b #[p] 0 1 := by
  have h0 : Out a b #[] 0 0 := by
    unfold Out
    rw [List.take_zero, List.take_zero]
    exact List.Perm.refl _
  exact h0.pushB hp
end
end Srt

namespace Srt
open PySem PyProof.Rows
section
variable {prog : Program} {w : World} {A : Around} {E : Value → Shared → Prop} {s : Shared} {κ : SortKind} {Ok : Keyed → Prop} {st : SortSt}
theorem like_gallop (st : SortSt) (g : Nat) : Like st (SortSt.mk' (kindOf st) (arrOf st) (pendingOf st) g (failedOf st)) := ⟨rfl, rfl, rfl, rfl⟩
end
end Srt

namespace Srt
open PySem PyProof.Rows
/-- what is out from the right: all from these places on -/
def OutH (a b : Array Keyed) (out : Array Keyed) (na nb : Nat) : Prop := out.toList.Perm (a.toList.drop na ++ b.toList.drop nb)
section
variable {a b out : Array Keyed} {na nb : Nat}
theorem ex0 (a : Array Keyed) (n : Nat) : (a.extract 0 n).toList = a.toList.take n := by
  rw [Array.toList_extract, List.extract_eq_drop_take, List.drop_zero, Nat.sub_zero]
theorem OutH.done (h : OutH a b out na nb) : (a.extract 0 na ++ b.extract 0 nb ++ out.reverse).toList.Perm (a.toList ++ b.toList) := by
  rw [Array.toList_append, Array.toList_append, ex0, ex0, Array.toList_reverse]
  refine (List.Perm.append_left _ ((List.reverse_perm _).trans h)).trans ((perm4 ..).trans ?_)
  rw [List.take_append_drop, List.take_append_drop]
theorem OutH.first (h : OutH a b out na nb) : (b.extract 0 nb ++ a.extract 0 na ++ out.reverse).toList.Perm (a.toList ++ b.toList) := by
  refine List.Perm.trans ?_ h.done
  rw [Array.toList_append, Array.toList_append, Array.toList_append, Array.toList_append]
  exact List.Perm.append_right _ List.perm_append_comm
theorem drop_one {α : Type} {xs : List α} {i : Nat} {p : α} (h : xs[i]? = some p) : xs.drop i = p :: xs.drop (i + 1) := by
  obtain ⟨hi, e⟩ := List.getElem?_eq_some_iff.mp h
  rw [← e]
  exact List.drop_eq_getElem_cons hi
theorem OutH.pushA {p : Keyed} (h : OutH a b out na nb) (h1 : 1 ≤ na) (hp : a[na - 1]? = some p) : OutH a b (out.push p) (na - 1) nb := by
  have hp' : a.toList[na - 1]? = some p := by rw [← hp]; simp
  unfold OutH
  rw [Array.toList_push, drop_one hp', Nat.sub_add_cancel h1]
  refine (List.Perm.append_right _ h).trans ?_
  exact List.perm_append_comm
theorem OutH.pushB {p : Keyed} (h : OutH a b out na nb) (h1 : 1 ≤ nb) (hp : b[nb - 1]? = some p) : OutH a b (out.push p) na (nb - 1) := by
  have hp' : b.toList[nb - 1]? = some p := by rw [← hp]; simp
  unfold OutH
  rw [Array.toList_push, drop_one hp', Nat.sub_add_cancel h1]
  refine (List.Perm.append_right _ h).trans ?_
  rw [List.append_assoc]
  refine List.Perm.append_left _ ?_
  exact List.perm_append_comm
theorem drop_mid {α : Type} (xs : List α) {i j : Nat} (h : i ≤ j) : xs.drop i = (xs.drop i).take (j - i) ++ xs.drop j := by
  have := List.take_append_drop (j - i) (xs.drop i)
  rw [List.drop_drop, Nat.add_sub_cancel' h] at this
  exact this.symm
theorem OutH.extA {k : Nat} (h : OutH a b out na nb) (hk : k ≤ na) : OutH a b (out ++ (a.extract k na).reverse) k nb := by
  unfold OutH
  rw [Array.toList_append, Array.toList_reverse, Array.toList_extract, List.extract_eq_drop_take]
  refine (List.Perm.append h (List.reverse_perm _)).trans ?_
  refine List.perm_append_comm.trans ?_
  rw [← List.append_assoc, ← drop_mid a.toList hk]
theorem OutH.extB {k : Nat} (h : OutH a b out na nb) (hk : k ≤ nb) : OutH a b (out ++ (b.extract k nb).reverse) na k := by
  unfold OutH
  rw [Array.toList_append, Array.toList_reverse, Array.toList_extract, List.extract_eq_drop_take]
  refine (List.Perm.append h (List.reverse_perm _)).trans ?_
  rw [List.append_assoc]
  refine List.Perm.append_left _ (List.perm_append_comm.trans ?_)
  rw [← drop_mid b.toList hk]
theorem outH0 {p : Keyed} (h1 : 1 ≤ a.size) (hp : a[a.size - 1]? = some p) : OutH a b #[p] (a.size - 1) b.size := by
  have h0 : OutH a b #[] a.size b.size := by
    unfold OutH
    rw [List.drop_eq_nil_of_le (by rw [Array.length_toList]; exact Nat.le_refl _), List.drop_eq_nil_of_le (by rw [Array.length_toList]; exact Nat.le_refl _)]
    exact List.Perm.refl _
  exact h0.pushA h1 hp
end
end Srt

namespace Srt
open PySem PyProof.Rows
/-- the same items in some order, all else as it was -/
structure Pm (st st' : SortSt) : Prop where
  arr : (arrOf st').toList.Perm (arrOf st).toList
  kind : kindOf st' = kindOf st
  fail : failedOf st' = failedOf st
  pend : pendingOf st' = pendingOf st
theorem Pm.refl (st : SortSt) : Pm st st := ⟨List.Perm.refl _, rfl, rfl, rfl⟩
theorem Pm.trans {a b c : SortSt} (x : Pm a b) (y : Pm b c) : Pm a c := ⟨y.arr.trans x.arr, y.kind.trans x.kind, y.fail.trans x.fail, y.pend.trans x.pend⟩
theorem Pm.size {a b : SortSt} (x : Pm a b) : (arrOf b).size = (arrOf a).size := by
  have := x.arr.length_eq
  rw [Array.length_toList, Array.length_toList] at this
  exact this
theorem Pm.ok {a b : SortSt} {Ok : Keyed → Prop} (x : Pm a b) (h : ∀ p ∈ (arrOf a).toList, Ok p) : ∀ p ∈ (arrOf b).toList, Ok p := fun p hp => h p (x.arr.mem_iff.mp hp)
theorem Pm.mirror (st : SortSt) (i j : Nat) : Pm st (setArr st (mirror (arrOf st) i j ((j - i) / 2))) := ⟨Array.perm_iff_toList_perm.mp (mirror_perm _ _ _ _), rfl, rfl, rfl⟩
theorem Pm.bubble (st : SortSt) (i j : Nat) : Pm st (setArr st (bubble (arrOf st) i (i - j))) := ⟨Array.perm_iff_toList_perm.mp (bubble_perm _ _ _), rfl, rfl, rfl⟩
end Srt

namespace Srt
open PySem PyProof.Rows
/-- runs one behind the other, from here to there -/
def Cov : List (Nat × Nat × Nat) → Nat → Nat → Prop
  | [], lo, hi => lo = hi
  | x :: r, lo, hi => x.1 = lo ∧ 1 ≤ x.2.1 ∧ Cov r (lo + x.2.1) hi
theorem Cov.le : ∀ {l : List (Nat × Nat × Nat)} {lo hi : Nat}, Cov l lo hi → lo + l.length ≤ hi
  | [], lo, hi, h => Nat.le_of_eq h
  | x :: r, lo, hi, ⟨_, h1, h2⟩ => by
    have := Cov.le h2
    rw [List.length_cons]
    (first | lia | omega)
theorem Cov.push : ∀ {l : List (Nat × Nat × Nat)} {lo hi n p : Nat}, Cov l lo hi → 1 ≤ n → Cov (l ++ [(hi, n, p)]) lo (hi + n)
  | [], lo, hi, n, p, h, h1 => by
    have e : lo = hi := h
    subst e
    exact ⟨rfl, h1, rfl⟩
  | x :: r, lo, hi, n, p, ⟨a, b, c⟩, h1 => ⟨a, b, c.push h1⟩
theorem Cov.at : ∀ {l : List (Nat × Nat × Nat)} {i lo hi sa na p sb nb q : Nat}, Cov l lo hi → l[i]? = some (sa, na, p) → l[i + 1]? = some (sb, nb, q) →
    sb = sa + na ∧ 1 ≤ na ∧ 1 ≤ nb ∧ sb + nb ≤ hi ∧ Cov ((l.set i (sa, na + nb, p)).eraseIdx (i + 1)) lo hi
  | x :: y :: r, 0, lo, hi, sa, na, p, sb, nb, q, ⟨a, b, c1, c2, c3⟩, h1, h2 => by
    have e1 : x = (sa, na, p) := by simpa using h1
    have e2 : y = (sb, nb, q) := by simpa using h2
    subst e1
    subst e2
    have a' : sa = lo := a
    have c1' : sb = lo + na := c1
    have hle := c3.le
    subst a'
    refine ⟨c1', b, c2, ?_, rfl, ?_, ?_⟩
    · have : sa + na + nb ≤ hi := by
        have h3 : sa + na + nb + r.length ≤ hi := hle
        (first | lia | omega)
      (first | lia | omega)
    · show 1 ≤ na + nb
      have : 1 ≤ na := b
      (first | lia | omega)
    · show Cov r (sa + (na + nb)) hi
      rw [← Nat.add_assoc]
      exact c3
  | x :: r, i + 1, lo, hi, sa, na, p, sb, nb, q, ⟨a, b, c⟩, h1, h2 => by
    obtain ⟨k1, k2, k3, k4, k5⟩ := Cov.at (l := r) (i := i) c (by simpa using h1) (by simpa using h2)
    exact ⟨k1, k2, k3, k4, a, b, k5⟩
  | [x], 0, _, _, _, _, _, _, _, _, _, _, h2 => by simp at h2
  | [], _, _, _, _, _, _, _, _, _, _, h1, _ => by simp at h1
theorem Cov.last : ∀ {l : List (Nat × Nat × Nat)} {lo hi : Nat} (f : Nat × Nat × Nat → Nat × Nat × Nat) (_ : ∀ x, (f x).1 = x.1 ∧ (f x).2.1 = x.2.1) (i : Nat), Cov l lo hi → Cov (l.modify i f) lo hi
  | [], lo, hi, f, hf, i, h => by cases i <;> exact h
  | x :: r, lo, hi, f, hf, 0, ⟨a, b, c⟩ => by
    refine ⟨(hf x).1.trans a, by rw [(hf x).2]; exact b, ?_⟩
    rw [(hf x).2]
    exact c
  | x :: r, lo, hi, f, hf, i + 1, ⟨a, b, c⟩ => ⟨a, b, Cov.last f hf i c⟩
/-- items put in one behind the other -/
theorem splice (base : Nat) : ∀ (m : List Keyed) (n : Nat) (arr : Array Keyed), base + n + m.length ≤ arr.size →
    ((m.zipIdx n).foldl (fun (a : Array Keyed) (x : Keyed × Nat) => match x with | (p, j) => a.setIfInBounds (base + j) p) arr).toList = arr.toList.take (base + n) ++ m ++ arr.toList.drop (base + n + m.length)
  | [], n, arr, _ => by
    show arr.toList = _
    rw [List.append_nil, List.length_nil, Nat.add_zero, List.take_append_drop]
  | p :: m, n, arr, h => by
    rw [List.length_cons] at h
    rw [List.zipIdx_cons, List.foldl_cons]
    have hs : (arr.setIfInBounds (base + n) p).size = arr.size := Array.size_setIfInBounds
    rw [splice base m (n + 1) _ (by rw [hs]; (first | lia | omega)), Array.toList_setIfInBounds]
    have hl : base + n < arr.toList.length := by rw [Array.length_toList]; (first | lia | omega)
    rw [← Nat.add_assoc, List.take_set, List.drop_set_of_lt (by (first | lia | omega))]
    have e1 : (arr.toList.take (base + n + 1)).set (base + n) p = arr.toList.take (base + n) ++ [p] := by
      rw [List.take_succ_eq_append_getElem hl, List.set_append_right _ _ (by rw [List.length_take]; (first | lia | omega))]
      rw [show base + n - (arr.toList.take (base + n)).length = 0 by rw [List.length_take]; (first | lia | omega)]
      rfl
    rw [e1, List.length_cons, show base + n + 1 + m.length = base + n + (m.length + 1) by (first | lia | omega)]
    simp
section
variable {prog : Program} {w : World} {A : Around} {E : Value → Shared → Prop} {s : Shared} {κ : SortKind} {Ok : Keyed → Prop} {st : SortSt}
/-- some order of what was given, and the runs cover it up to here -/
structure SB (a₀ : Array Keyed) (κ : SortKind) (hi : Nat) (st : SortSt) : Prop where
  arr : (arrOf st).toList.Perm a₀.toList
  kind : kindOf st = κ
  fail : failedOf st = none
  cov : Cov (pendingOf st).toList 0 hi
theorem SB.size {a₀ : Array Keyed} {hi : Nat} (x : SB a₀ κ hi st) : (arrOf st).size = a₀.size := by
  have := x.arr.length_eq
  rw [Array.length_toList, Array.length_toList] at this
  exact this
theorem SB.ok {a₀ : Array Keyed} {hi : Nat} (x : SB a₀ κ hi st) (h : ∀ p ∈ a₀.toList, Ok p) : ∀ p ∈ (arrOf st).toList, Ok p := fun p hp => h p (x.arr.mem_iff.mp hp)
theorem SB.pm {a₀ : Array Keyed} {hi : Nat} {st' : SortSt} (x : SB a₀ κ hi st) (p : Pm st st') : SB a₀ κ hi st' := ⟨p.arr.trans x.arr, p.kind.trans x.kind, p.fail.trans x.fail, by rw [p.pend]; exact x.cov⟩
end
end Srt

namespace Srt
open PySem PyProof.Rows
section
variable {prog : Program} {w : World} {A : Around} {E : Value → Shared → Prop} {s : Shared} {κ : SortKind} {Ok : Keyed → Prop} {st : SortSt}
theorem wpS_set {v : SortSt} {Q : PUnit → SortSt → Prop} (h : Q ⟨⟩ v) : wpS (model prog w) A E s (set v : StateT SortSt Sem PUnit) Q st := by
  unfold wpS
  rw [StateT.run_set]
  exact wpAny_pure ⟨rfl, h⟩
theorem splice2 (base : Nat) (m : List Keyed) (arr : Array Keyed) (h : base + m.length ≤ arr.size) :
    (m.zipIdx.foldl (fun (a : Array Keyed) (x : Keyed × Nat) => a.setIfInBounds (base + x.2) x.1) arr).toList = arr.toList.take base ++ m ++ arr.toList.drop (base + m.length) := splice base m 0 arr h
theorem ex_mid (L : List Keyed) {m b e : Nat} (h1 : m ≤ b) (h2 : b ≤ e) : L.extract m b ++ L.extract b e = (L.drop m).take (e - m) := by
  rw [List.extract_eq_drop_take, List.extract_eq_drop_take, show e - m = (b - m) + (e - b) by (first | lia | omega), List.take_add, List.drop_drop, Nat.add_sub_cancel' h1]
theorem perm_mid {L r : List Keyed} {m c : Nat} (h : r.Perm ((L.drop m).take c)) (hc : r.length = c) : (L.take m ++ r ++ L.drop (m + r.length)).Perm L := by
  subst hc
  have e : L = L.take m ++ (L.drop m).take r.length ++ L.drop (m + r.length) := by
    rw [List.append_assoc, ← List.drop_drop, List.take_append_drop, List.take_append_drop]
  refine List.Perm.trans ?_ (List.Perm.of_eq e.symm)
  exact List.Perm.append_right _ (List.Perm.append_left _ h)
end
end Srt

namespace Srt
open PySem PyProof.Rows
end Srt

namespace Srt
open PySem PyProof.Rows
section
variable {prog : Program} {w : World} {A : Around} {E : Value → Shared → Prop} {s : Shared}
theorem snds_perm {vs : List Value} {xs : Array Keyed} (h : xs.toList.Perm (pairsOf vs).toList) : (xs.map (·.2)).toList.Perm vs := by
  rw [Array.toList_map]
  refine (h.map (·.2)).trans (List.Perm.of_eq ?_)
  rw [pairsOf_toList, show (fun p : Keyed => p.2) = Prod.snd from rfl, List.map_snd_zip (Nat.le_refl _)]
end
end Srt

namespace Srt
open PySem PyProof.Rows
end Srt

namespace Srt
open PySem PyProof.Rows PySem.W
end Srt

namespace L2
open PySem PySem.Spec PyProof.Rows
theorem vals_mem : ∀ {vs : List V} {us : List Value}, Vals vs us → ∀ u ∈ us, ∃ v ∈ vs, RelV v u
  | _, _, .cons a t, u, hu => by
    rcases List.mem_cons.mp hu with rfl | hu
    · exact ⟨_, List.mem_cons_self .., a⟩
    · obtain ⟨v, hv, r⟩ := vals_mem t u hu
      exact ⟨v, List.mem_cons_of_mem _ hv, r⟩
end L2

namespace L2
open PySem PySem.Spec PyProof.Rows PySem.W
/-- a dict as it stands, whatever its keys -/
def RawD (h : Heap) (d : Addr) (es : Array DictEntry) (ep : Nat) : Prop := ∃ o, h.get? d = some o ∧ o.ExactDict ∧ o.data = .dict es ep
theorem RawD.tyIs {s : Shared} {d : Addr} {es : Array DictEntry} {ep : Nat} (x : RawD s.heap d es ep) : s.TypeIs (.ref d) "dict" := let ⟨o, ho, hc, _⟩ := x; ⟨o, ho, hc.1⟩
theorem RawD.to {h h' : Heap} {d : Addr} {es : Array DictEntry} {ep : Nat} (x : RawD h d es ep) (e : ∀ o, h.get? d = some o → h'.get? d = some o) : RawD h' d es ep := let ⟨o, ho, r⟩ := x; ⟨o, e _ ho, r⟩
section
variable {prog : Program} {w : World} {A : Around} {E : Value → Shared → Prop} {s : Shared} {it d : Addr} {es : Array DictEntry} {i ep : Nat}
theorem raw_iter {Q : Value → Shared → Prop} (lo : (d == sysModules) = false) (x : RawD s.heap d es ep)
    (q : Q (.ref s.heap.objs.size) { s with heap := s.heap.push { cls := .type "dict_keyiterator", data := .fields #[.ref d, .int 0 0, .int es.size 0, .int ep 0] } }) : wpAny (model prog w) A (pyIter (.ref d)) Q E s := by
  obtain ⟨o, ho, hx, hdat⟩ := id x
  have hT := x.tyIs
  refine wpAny_pyIter_slot hT PySem.F.slot_dict_iter (wpAny_call_entry PySem.F.slot_dict_iter hT PySem.F.entry_dict_iter ?_ (PySem.F.args_dict_iter_1 _))
  unfold Builtin.«dict.__iter__»; refine wpAny_bind ?_
  unfold Builtin.Dict.dictSlotNone; refine wpAny_bind (wpAny_notOrdered_dict hT ?_)
  refine wpAny_pure (?_ : wpAny _ _ (Builtin.Dict.showsAll d >>= _) _ _ s)
  unfold Builtin.Dict.showsAll; rw [if_neg (by rw [lo]; exact Bool.false_ne_true)]
  refine wpAny_bind (wpAny_pure (wpAny_bind (wpAny_dictEntries ho hdat (wpAny_bind (wpAny_dictEpoch ho hdat ?_)))))
  exact wpAny_bind (wpAny_newObj_type (wpAny_pure ⟨_, rfl, "dict_keyiterator", _, ⟨_, Heap.get?_push_size _ rfl, rfl⟩, PySem.F.slot_dict_keyiterator_next.lookup, q⟩))
theorem raw_item {Q : Option Value → Shared → Prop} (st : s.heap.IsKeyIter it d i es.size ep) (x : RawD s.heap d es ep) (hi : i < es.size)
    (q : ∀ h', h'.IsKeyIter it d (i + 1) es.size ep → Heap.SameBut it s.heap h' → Q (some es[i].key) { s with heap := h' }) : wpAny (model prog w) A (pyNext (.ref it)) Q E s := by
  obtain ⟨o, ho, hc, hd⟩ := id st
  obtain ⟨od, hod, hxd, hdd⟩ := id x
  unfold pyNext; refine wpAny_bind (wpAny_attempt (wpAny_callSpecial?_slot (name := Str.ofString "__next__") st.typeIs PySem.F.slot_dict_keyiterator_next (wpAny_call_entry PySem.F.slot_dict_keyiterator_next st.typeIs PySem.F.entry_dict_keyiterator_next ?_ (PySem.F.args_dict_keyiterator_next_1 _))))
  refine wpAny_bind (wpAny_pure (wpAny_bind (wpAny_bind ?_)))
  first | refine wpAny_bind (wpAny_typeNameOfWhole_keyiter st.typeIs (wpAny_pure (wpAny_bind (wpAny_fieldsOf ho hd ?_)))) | refine wpAny_bind (wpAny_typeNameOf_keyiter st.typeIs (wpAny_pure (wpAny_bind (wpAny_fieldsOf ho hd ?_))))
  have own : Builtin.Dict_items.ownsTuple "dict_keyiterator" = false := by decide
  simp only [own, Bool.false_eq_true, if_false]; change wpAny _ _ (if (Value.ref d == Value.none) = true then _ else _) _ _ s
  rw [if_neg (fun z : (Value.ref d == Value.none) = true => Bool.false_ne_true z)]
  refine wpAny_bind (wpAny_pure (wpAny_bind (wpAny_dictEntries hod hdd ?_)))
  rw [if_neg (by simp)]; refine wpAny_bind (wpAny_pure (wpAny_bind (wpAny_dictEpoch hod hdd ?_)))
  rw [if_neg (by simp)]; refine wpAny_pure ?_
  simp only [show ¬ ((i : Int) < 0) by (first | lia | omega), if_false, Int.toNat_natCast, Array.getElem?_eq_getElem hi]
  refine wpAny_bind ?_; first | refine wpAny_bind (wpAny_typeNameOfWhole_keyiter st.typeIs (wpAny_pure (wpAny_bind (wpAny_isOneOf_keyiter st.typeIs ?_)))) | refine wpAny_bind (wpAny_typeNameOf_keyiter st.typeIs (wpAny_pure (wpAny_bind (wpAny_isOneOf_keyiter st.typeIs ?_))))
  change wpAny _ _ (setField (.ref it) 1 (rawInt ((i : Int) + 1)) >>= _) _ _ s
  refine wpAny_bind (wpAny_setField ho hd (by simp) ?_)
  have st2 : (s.heap.update it (Obj.mapFields (·.setIfInBounds 1 (rawInt ((i : Int) + 1))))).IsKeyIter it d (i + 1) es.size ep := ⟨_, Heap.get?_update_self _ ho (Obj.isFreed_of_fields (Obj.data_mapFields hd _)), (Obj.cls_mapFields ..).trans hc, by rw [Obj.data_mapFields hd]; simp [rawInt]⟩
  refine wpAny_bind (wpAny_holding (wpAny_bind (wpAny_isOneOf_keyiter (s := { s with heap := s.heap.update it (Obj.mapFields (·.setIfInBounds 1 (rawInt ((i : Int) + 1)))) }) st2.typeIs ?_)))
  change wpAny _ _ (pure es[i].key) _ _ _
  exact wpAny_pure (wpAny_pure ⟨_, rfl, wpAny_pure (q _ st2 (Heap.SameBut.update ..))⟩)
theorem raw_end {Q : Option Value → Shared → Prop} (hh : A.handled = none) (st : s.heap.IsKeyIter it d i es.size ep) (x : RawD s.heap d es ep) (hi : es.size ≤ i)
    (q : ∀ h', Heap.ExtBut it s.heap h' → Q none { s with heap := h' }) : wpAny (model prog w) A (pyNext (.ref it)) Q E s := by
  obtain ⟨o, ho, hc, hd⟩ := id st
  obtain ⟨od, hod, hxd, hdd⟩ := id x
  unfold pyNext; refine wpAny_bind (wpAny_attempt (wpAny_callSpecial?_slot (name := Str.ofString "__next__") st.typeIs PySem.F.slot_dict_keyiterator_next (wpAny_call_entry PySem.F.slot_dict_keyiterator_next st.typeIs PySem.F.entry_dict_keyiterator_next ?_ (PySem.F.args_dict_keyiterator_next_1 _))))
  refine wpAny_bind (wpAny_pure (wpAny_bind (wpAny_bind ?_)))
  first | refine wpAny_bind (wpAny_typeNameOfWhole_keyiter st.typeIs (wpAny_pure (wpAny_bind (wpAny_fieldsOf ho hd ?_)))) | refine wpAny_bind (wpAny_typeNameOf_keyiter st.typeIs (wpAny_pure (wpAny_bind (wpAny_fieldsOf ho hd ?_))))
  have own : Builtin.Dict_items.ownsTuple "dict_keyiterator" = false := by decide
  simp only [own, Bool.false_eq_true, if_false]; change wpAny _ _ (if (Value.ref d == Value.none) = true then _ else _) _ _ s
  rw [if_neg (fun z : (Value.ref d == Value.none) = true => Bool.false_ne_true z)]
  refine wpAny_bind (wpAny_pure (wpAny_bind (wpAny_dictEntries hod hdd ?_)))
  rw [if_neg (by simp)]; refine wpAny_bind (wpAny_pure (wpAny_bind (wpAny_dictEpoch hod hdd ?_)))
  rw [if_neg (by simp)]; refine wpAny_pure ?_
  simp only [show ¬ ((i : Int) < 0) by (first | lia | omega), if_false, Int.toNat_natCast, Array.getElem?_eq_none hi]
  refine wpAny_bind ?_; first | refine wpAny_bind (wpAny_typeNameOfWhole_keyiter st.typeIs (wpAny_pure ?_)) | refine wpAny_bind (wpAny_typeNameOf_keyiter st.typeIs (wpAny_pure ?_))
  change wpAny _ _ (setField (.ref it) 0 .none >>= _) _ _ s
  refine wpAny_bind (wpAny_setField ho hd (by simp) ?_)
  change wpAny _ _ (newExc (.type "StopIteration") [] >>= _) _ _ _
  refine wpAny_bind ?_; simp only [newExc, newTuple]
  refine wpAny_bind (wpAny_newObj_type (wpAny_bind (m := firstArgMember _ _) (wpAny_of_eq (a := Value.none) (by first | rfl | (simp only [firstArgMember]; rfl)) (wpAny_newObj_type ?_ (by size_fits)))) (by size_fits))
  simp only [raiseNew]; refine wpAny_bind (wpAny_handled ?_)
  rw [show A.in1.handled = none from hh]; refine wpAny_bind (wpAny_pure (wpAny_throw ?_))
  refine wpAny_bind (wpAny_isInstance (T := "StopIteration") (b := true) (v := .ref _) (by exact ⟨_, Heap.get?_push_size _ rfl, rfl⟩) isSubtype_stop ?_)
  exact wpAny_pure (q _ (((Heap.SameBut.update ..).extBut.push _).push _))
theorem raw_walks (hh : A.handled = none) (hne : d ≠ it) : Walks prog w A it [it, d] [it] es.size (fun i v => ∃ e, es[i]? = some e ∧ v = e.key) (fun i h => h.IsKeyIter it d i es.size ep ∧ RawD h d es ep) where
  sub := fun b hb => List.mem_cons.mpr (.inl (List.mem_singleton.mp hb))
  frame := fun _ _ _ st hk => ⟨st.1.at fun o e => hk it (List.mem_cons_self ..) o e, st.2.to fun o e => hk d (List.mem_cons_of_mem _ (List.mem_cons_self ..)) o e⟩
  item := fun j s Q E hj st hQ => raw_item st.1 st.2 hj fun h' st' sb => hQ _ h' s.toks ⟨_, Array.getElem?_eq_getElem hj, rfl⟩ ⟨st', st.2.to fun o e => sb.extBut d o hne e⟩ fun b o hb e => sb.extBut b o (fun z => hb (List.mem_singleton.mpr z)) e
  done := fun s Q E st hQ => raw_end hh st.1 st.2 (Nat.le_refl _) fun h' he => hQ h' s.toks fun b o hb e => he b o (fun z => hb (List.mem_singleton.mpr z)) e
  self := fun _ _ _ _ st hQ => wpAny_pyIter_keyiter st.1 hQ
theorem raw_src (lo : (d == sysModules) = false) : KdlSrc prog w "dict" d d es.size (fun i v => ∃ e, es[i]? = some e ∧ v = e.key) (fun h => RawD h d es ep) where
  type := fun _ x => x.tyIs
  there := fun _ ⟨o, ho, _⟩ => ⟨Heap.lt_size ho, Heap.lt_size ho⟩
  keep := fun _ _ x hk => x.to fun o e => hk d (.inl rfl) o e
  notList := by decide
  notTuple := by decide
  hint := fun _ _ _ _ x hq => kdl_hint_dict x.tyIs hq
  iter := fun _ _ hh x => ⟨_, _, (fun _ _ hq => raw_iter lo x hq), raw_walks hh (let ⟨o, ho, _⟩ := x; Nat.ne_of_lt (Heap.lt_size ho)), ⟨⟨_, Heap.get?_push_size _ rfl, rfl, rfl⟩, x.to fun _ e => Heap.get?_push_of_some _ e⟩⟩
end
end L2

namespace L2
open PySem PySem.Spec PyProof.Rows PySem.W
end L2
namespace Srt
open PySem PyProof.Rows PySem.W
end Srt
namespace L2
open PySem PySem.Spec PyProof.Rows
end L2

namespace L2
open PySem PySem.Spec PyProof.Rows
end L2

/-! the table of a set: a search always ends -/
namespace Sts
open PySem
/-! the steps of a search -/
end Sts

/-! a table laid anew holds all its elements -/
namespace Sts
open PySem
end Sts

/-! places in rising order -/
namespace Sts
open PySem
end Sts

/-! tuples in a set -/
namespace Sts
open PySem
end Sts

/-! a tuple added to a set -/
namespace Sts
open PySem
end Sts

namespace Sts
open PySem
end Sts

/-! set(list of tuples) -/
namespace Sts
open PySem PyProof.Rows
end Sts

namespace Sts
open PySem PyProof.Rows
end Sts

/-! a set walked -/
namespace Sts
open PySem PyProof.Rows
end Sts

namespace Sts
open PySem PyProof.Rows
end Sts

namespace Sts
open PySem PyProof.Rows
end Sts

namespace Sts
open PySem PyProof.Rows PySem.W
end Sts

namespace Srt
open PySem PyProof.Rows PySem.W
end Srt

namespace Sts
open PySem PyProof.Rows PySem.W Srt
end Sts
namespace L2
open PySem PySem.Spec PyProof.Rows PySem.W
section
variable {X : Cx} {e : Expr} {te : TE} {p p' pos pos' : Pos}
theorem Inv.draws {pins : List (Addr × Obj)} {σ : St} {H : Hp} {s : Shared} {d : Drawn} (I : Inv X pins σ H s) : Inv X pins σ H { s with drawn := d } :=
  I.step (g' := s.gens) (d' := d) (t' := s.toks) (ch := []) (fun _ z => nomatch z) (fun _ _ _ _ _ e _ => e) (fun _ o _ _ _ e _ => ⟨o.slots, e⟩) (fun _ _ _ _ n => n) (fun _ o _ e => ⟨o, e⟩) (fun _ _ h => h) (fun _ _ _ h => h) (fun _ ps h => ⟨#[], by simpa using h⟩) (fun _ h => h) I.hok I.bare
end
end L2

/-! sorted: the order too -/
namespace Srd
open PySem PyProof.Rows Srt
/-- a strict weak order -/
structure Swo (lt : Keyed → Keyed → Bool) : Prop where
  asym : ∀ x y, lt x y = true → lt y x = false
  neg : ∀ x y z, lt x y = false → lt y z = false → lt x z = false
def Le (lt : Keyed → Keyed → Bool) (x y : Keyed) : Prop := lt y x = false
section
variable {lt : Keyed → Keyed → Bool} (o : Swo lt) {x y z : Keyed}
include o
theorem Swo.le_trans (h1 : Le lt x y) (h2 : Le lt y z) : Le lt x z := o.neg z y x h2 h1
theorem Swo.le_of (h : lt x y = true) : Le lt x y := o.asym x y h
theorem Swo.lt_le (h1 : lt x y = true) (h2 : Le lt y z) : lt x z = true := by
  cases h : lt x z with
  | true => rfl
  | false => rw [o.neg x z y h h2] at h1; cases h1
theorem Swo.le_lt (h1 : Le lt x y) (h2 : lt y z = true) : lt x z = true := by
  cases h : lt x z with
  | true => rfl
  | false => rw [o.neg y x z h1 h] at h2; cases h2
theorem Swo.le_refl (x : Keyed) : Le lt x x := by
  show lt x x = false
  cases h : lt x x with
  | false => rfl
  | true => have := o.asym x x h; rw [h] at this; exact this
end
/-- which of any two is less, and nothing else happens -/
def CmpL (prog : Program) (w : World) (A : Around) (s : Shared) (κ : SortKind) (Ok : Keyed → Prop) (lt : Keyed → Keyed → Bool) : Prop :=
  ∀ x y, Ok x → Ok y → ∀ E : Value → Shared → Prop, wpAny (model prog w) A (keyLt' κ x.1 y.1) (fun b s' => s' = s ∧ b = lt x y) E s
/-- this piece rises -/
def Up (lt : Keyed → Keyed → Bool) (arr : Array Keyed) (i j : Nat) : Prop := ∀ x y p q, i ≤ x → x < y → y < j → arr[x]? = some p → arr[y]? = some q → Le lt p q
/-- beyond: on the near side of the key -/
def bv (lt : Keyed → Keyed → Bool) (l : Bool) (key p : Keyed) : Bool := if l = true then lt p key else !lt key p
/-- the places that lie on the near side -/
def BV (lt : Keyed → Keyed → Bool) (l : Bool) (key : Keyed) (a : Array Keyed) (base i : Nat) : Bool := match a[base + i]? with | some p => bv lt l key p | none => false
theorem BV.anti {lt : Keyed → Keyed → Bool} (o : Swo lt) {l : Bool} {key : Keyed} {a : Array Keyed} {base n : Nat} (hb : base + n ≤ a.size) (hu : Up lt a base (base + n)) {i j : Nat} (hij : i ≤ j) (hj : j < n) (h : BV lt l key a base j = true) : BV lt l key a base i = true := by
  rcases Nat.eq_or_lt_of_le hij with rfl | hlt
  · exact h
  have ei : a[base + i]? = some a[base + i] := getElem?_pos a _ (by (first | lia | omega))
  have ej : a[base + j]? = some a[base + j] := getElem?_pos a _ (by (first | lia | omega))
  have hle := hu (base + i) (base + j) _ _ (by (first | lia | omega)) (by (first | lia | omega)) (by (first | lia | omega)) ei ej
  unfold BV at h ⊢
  rw [ej] at h
  rw [ei]
  dsimp only at h ⊢
  unfold bv at h ⊢
  cases l with
  | true =>
    rw [if_pos rfl] at h ⊢
    exact o.le_lt hle h
  | false =>
    rw [if_neg (by decide)] at h ⊢
    have h1 : lt key a[base + j] = false := by simpa using h
    have : lt key a[base + i] = false := o.le_trans (lt := lt) hle h1
    rw [this]
    rfl
section
variable {prog : Program} {w : World} {A : Around} {E : Value → Shared → Prop} {s : Shared} {κ : SortKind} {Ok : Keyed → Prop} {st : SortSt} {lt : Keyed → Keyed → Bool}
theorem wpS_ltL {x y : Keyed} {Q : Option Bool → SortSt → Prop} (hc : CmpL prog w A s κ Ok lt) (hk : kindOf st = κ) (hx : Ok x) (hy : Ok y) (h : Q (some (lt x y)) st) : wpS (model prog w) A E s (lt' x y) Q st := by
  rw [lt'_eq]
  refine wpS_bind (wpS_get ?_)
  rw [hk]
  refine wpS_bind (wpS_lift (wpAny_attempt (wpAny_mono (hc x y hx hy _) (fun b s' e => ⟨e.1, ?_⟩) fun _ _ z => z)))
  rw [e.2]
  exact wpS_pure h
theorem beyL {l : Bool} {key : Keyed} {a : Array Keyed} {base n i : Nat} {Q : Option Bool → SortSt → Prop} (hc : CmpL prog w A s κ Ok lt) (hk : kindOf st = κ) (hkey : Ok key) (ha : ∀ p ∈ a.toList, Ok p) (hb : base + n ≤ a.size) (hi : i < n) (h : Q (some (BV lt l key a base i)) st) :
    wpS (model prog w) A E s (elem' a (base + i) >>= fun x => if l = true then lt' x key else (lt' key x >>= fun r => pure (Option.map (fun z => !z) r))) Q st := by
  refine wpS_bind (wpS_elem (by (first | lia | omega)) fun p hp e => ?_)
  unfold BV at h
  rw [e] at h
  dsimp only at h
  unfold bv at h
  cases l with
  | true =>
    rw [if_pos rfl] at h ⊢
    exact wpS_ltL hc hk (ha p hp) hkey h
  | false =>
    rw [if_neg Bool.false_ne_true] at h ⊢
    exact wpS_bind (wpS_ltL hc hk hkey (ha p hp) (wpS_pure h))
set_option maxHeartbeats 1000000 in
theorem wpS_gallopL {l : Bool} {key : Keyed} {a : Array Keyed} {base n hint : Nat} {Q : Option Nat → SortSt → Prop} (o : Swo lt) (hc : CmpL prog w A s κ Ok lt) (hk : kindOf st = κ) (hkey : Ok key) (ha : ∀ p ∈ a.toList, Ok p) (hb : base + n ≤ a.size) (hh : hint < n) (hu : Up lt a base (base + n))
    (h : ∀ k, k ≤ n → (∀ i, i < k → BV lt l key a base i = true) → (∀ i, k ≤ i → i < n → BV lt l key a base i = false) → Q (some k) st) : wpS (model prog w) A E s (gallop' l key a base n hint) Q st := by
  have up : ∀ {i j}, i ≤ j → j < n → BV lt l key a base j = true → BV lt l key a base i = true := fun hij hj h => BV.anti o hb hu hij hj h
  have dn : ∀ {i j}, i ≤ j → j < n → BV lt l key a base i = false → BV lt l key a base j = false := fun {i j} hij hj h => by
    cases e : BV lt l key a base j with
    | false => rfl
    | true => rw [up hij hj e] at h; cases h
  generalize hBB : BV lt l key a base = BB at up dn h
  have bey : ∀ {st' : SortSt} {i : Nat} {Q' : Option Bool → SortSt → Prop}, st' = st → i < n → Q' (some (BB i)) st' → wpS (model prog w) A E s (elem' a (base + i) >>= fun x => if l = true then lt' x key else (lt' key x >>= fun r => pure (Option.map (fun z => !z) r))) Q' st' := fun {st' i Q'} e hi hq => by
    subst e
    exact beyL hc hk hkey ha hb hi (by rw [hBB]; exact hq)
  refine wpS_bind (bey rfl hh ?_)
  cases hright : BB hint with
  | true =>
    dsimp only
    rw [if_pos rfl]
    refine wpS_bind (wpS_mono (wpS_forRange (I := fun x c st' => st' = st ∧ ∃ lo of, c = (none, lo, of) ∧ lo < n - hint ∧ lo < of ∧ BB (hint + lo) = true ∧ x + 1 ≤ of) (Q := fun c st' => st' = st ∧ ∃ lo of, c = (none, lo, of) ∧ lo < n - hint ∧ lo < of ∧ BB (hint + lo) = true ∧ (n - hint ≤ of ∨ BB (hint + of) = false)) ?_ ?_ ⟨rfl, 0, 1, rfl, by (first | lia | omega), by (first | lia | omega), hright, by (first | lia | omega)⟩) ?_)
    · rintro i c st' _ _ ⟨rfl, lo, of, rfl, h1, h2, h3, h4⟩
      dsimp only
      by_cases hlt : of ≥ n - hint
      · rw [if_pos hlt]
        exact wpS_pure ⟨rfl, lo, of, rfl, h1, h2, h3, .inl hlt⟩
      · rw [if_neg hlt]
        refine wpS_bind (bey rfl (by (first | lia | omega)) ?_)
        cases hb2 : BB (hint + of) with
        | true => exact wpS_pure ⟨rfl, _, _, rfl, by (first | lia | omega), by (first | lia | omega), hb2, by (first | lia | omega)⟩
        | false => exact wpS_pure ⟨rfl, lo, of, rfl, h1, h2, h3, .inr hb2⟩
    · rintro c st' ⟨rfl, lo, of, rfl, h1, h2, h3, h4⟩
      exact ⟨rfl, lo, of, rfl, h1, h2, h3, .inl (by (first | lia | omega))⟩
    · rintro c st'' ⟨rfl, lo, of, rfl, h1, h2, h3, h4⟩
      dsimp only
      have g1 : hint + lo + 1 ≤ hint + min of (n - hint) := by (first | lia | omega)
      have g2 : hint + min of (n - hint) ≤ n := by (first | lia | omega)
      have g3 : ∀ i, i < hint + lo + 1 → BB i = true := fun i hi => up (show i ≤ hint + lo by (first | lia | omega)) (by (first | lia | omega)) h3
      have g4 : ∀ i, hint + min of (n - hint) ≤ i → i < n → BB i = false := fun i hi hin => by
        rcases h4 with h4 | h4
        · (first | lia | omega)
        · exact dn (show hint + of ≤ i by (first | lia | omega)) hin h4
      generalize hint + lo + 1 = lo1 at g1 g3
      generalize hint + min of (n - hint) = hi1 at g1 g2 g4
      refine wpS_bind (wpS_mono (wpS_forRange (I := fun x c st' => st' = st'' ∧ ∃ lo hi, c = (none, lo, hi) ∧ lo ≤ hi ∧ hi ≤ n ∧ (∀ i, i < lo → BB i = true) ∧ (∀ i, hi ≤ i → i < n → BB i = false) ∧ hi - lo + x ≤ n) (Q := fun c st' => st' = st'' ∧ ∃ lo hi, c = (none, lo, hi) ∧ lo = hi ∧ hi ≤ n ∧ (∀ i, i < lo → BB i = true) ∧ (∀ i, hi ≤ i → i < n → BB i = false)) ?_ ?_ ⟨rfl, lo1, hi1, rfl, g1, g2, g3, g4, by (first | lia | omega)⟩) ?_)
      · rintro i c st' _ _ ⟨rfl, lo, hi, rfl, h1, h2, h3, h4, h5⟩
        dsimp only
        by_cases hlt : lo ≥ hi
        · rw [if_pos hlt]
          exact wpS_pure ⟨rfl, lo, hi, rfl, by (first | lia | omega), h2, h3, h4⟩
        · rw [if_neg hlt]
          refine wpS_bind (bey rfl (by (first | lia | omega)) ?_)
          cases hb2 : BB (lo + (hi - lo) / 2) with
          | true => exact wpS_pure ⟨rfl, _, _, rfl, by (first | lia | omega), by (first | lia | omega), fun i hi' => up (show i ≤ lo + (hi - lo) / 2 by (first | lia | omega)) (by (first | lia | omega)) hb2, h4, by (first | lia | omega)⟩
          | false => exact wpS_pure ⟨rfl, _, _, rfl, by (first | lia | omega), by (first | lia | omega), h3, fun i hi' hin => dn hi' hin hb2, by (first | lia | omega)⟩
      · rintro c st' ⟨rfl, lo, hi, rfl, h1, h2, h3, h4, h5⟩
        exact ⟨rfl, lo, hi, rfl, by (first | lia | omega), h2, h3, h4⟩
      · rintro c st' ⟨rfl, lo, hi, rfl, h1, h2, h3, h4⟩
        exact wpS_pure (h hi h2 (fun i hi' => h3 i (by (first | lia | omega))) h4)
  | false =>
    dsimp only
    rw [if_neg Bool.false_ne_true]
    refine wpS_bind (wpS_mono (wpS_forRange (I := fun x c st' => st' = st ∧ ∃ lo of, c = (none, lo, of) ∧ lo < hint + 1 ∧ lo < of ∧ BB (hint - lo) = false ∧ x + 1 ≤ of) (Q := fun c st' => st' = st ∧ ∃ lo of, c = (none, lo, of) ∧ lo < hint + 1 ∧ lo < of ∧ BB (hint - lo) = false ∧ (hint + 1 ≤ of ∨ BB (hint - of) = true)) ?_ ?_ ⟨rfl, 0, 1, rfl, by (first | lia | omega), by (first | lia | omega), hright, by (first | lia | omega)⟩) ?_)
    · rintro i c st' _ _ ⟨rfl, lo, of, rfl, h1, h2, h3, h4⟩
      dsimp only
      by_cases hlt : of ≥ hint + 1
      · rw [if_pos hlt]
        exact wpS_pure ⟨rfl, lo, of, rfl, h1, h2, h3, .inl hlt⟩
      · rw [if_neg hlt]
        refine wpS_bind (bey rfl (by (first | lia | omega)) ?_)
        cases hb2 : BB (hint - of) with
        | true => exact wpS_pure ⟨rfl, lo, of, rfl, h1, h2, h3, .inr hb2⟩
        | false => exact wpS_pure ⟨rfl, _, _, rfl, by (first | lia | omega), by (first | lia | omega), hb2, by (first | lia | omega)⟩
    · rintro c st' ⟨rfl, lo, of, rfl, h1, h2, h3, h4⟩
      exact ⟨rfl, lo, of, rfl, h1, h2, h3, .inl (by (first | lia | omega))⟩
    · rintro c st'' ⟨rfl, lo, of, rfl, h1, h2, h3, h4⟩
      dsimp only
      have g1 : hint + 1 - min of (hint + 1) ≤ hint - lo := by (first | lia | omega)
      have g2 : hint - lo ≤ n := by (first | lia | omega)
      have g3 : ∀ i, i < hint + 1 - min of (hint + 1) → BB i = true := fun i hi => by
        rcases h4 with h4 | h4
        · (first | lia | omega)
        · exact up (show i ≤ hint - of by (first | lia | omega)) (by (first | lia | omega)) h4
      have g4 : ∀ i, hint - lo ≤ i → i < n → BB i = false := fun i hi hin => dn hi hin h3
      generalize hint + 1 - min of (hint + 1) = lo1 at g1 g3
      generalize hint - lo = hi1 at g1 g2 g4
      refine wpS_bind (wpS_mono (wpS_forRange (I := fun x c st' => st' = st'' ∧ ∃ lo hi, c = (none, lo, hi) ∧ lo ≤ hi ∧ hi ≤ n ∧ (∀ i, i < lo → BB i = true) ∧ (∀ i, hi ≤ i → i < n → BB i = false) ∧ hi - lo + x ≤ n) (Q := fun c st' => st' = st'' ∧ ∃ lo hi, c = (none, lo, hi) ∧ lo = hi ∧ hi ≤ n ∧ (∀ i, i < lo → BB i = true) ∧ (∀ i, hi ≤ i → i < n → BB i = false)) ?_ ?_ ⟨rfl, lo1, hi1, rfl, g1, g2, g3, g4, by (first | lia | omega)⟩) ?_)
      · rintro i c st' _ _ ⟨rfl, lo, hi, rfl, h1, h2, h3, h4, h5⟩
        dsimp only
        by_cases hlt : lo ≥ hi
        · rw [if_pos hlt]
          exact wpS_pure ⟨rfl, lo, hi, rfl, by (first | lia | omega), h2, h3, h4⟩
        · rw [if_neg hlt]
          refine wpS_bind (bey rfl (by (first | lia | omega)) ?_)
          cases hb2 : BB (lo + (hi - lo) / 2) with
          | true => exact wpS_pure ⟨rfl, _, _, rfl, by (first | lia | omega), by (first | lia | omega), fun i hi' => up (show i ≤ lo + (hi - lo) / 2 by (first | lia | omega)) (by (first | lia | omega)) hb2, h4, by (first | lia | omega)⟩
          | false => exact wpS_pure ⟨rfl, _, _, rfl, by (first | lia | omega), by (first | lia | omega), h3, fun i hi' hin => dn hi' hin hb2, by (first | lia | omega)⟩
      · rintro c st' ⟨rfl, lo, hi, rfl, h1, h2, h3, h4, h5⟩
        exact ⟨rfl, lo, hi, rfl, by (first | lia | omega), h2, h3, h4⟩
      · rintro c st' ⟨rfl, lo, hi, rfl, h1, h2, h3, h4⟩
        exact wpS_pure (h hi h2 (fun i hi' => h3 i (by (first | lia | omega))) h4)
end
end Srd

namespace Srd
open PySem PyProof.Rows Srt
section
variable {lt : Keyed → Keyed → Bool} {a b out : Array Keyed} {ia ib k : Nat} {p q : Keyed}
abbrev So (lt : Keyed → Keyed → Bool) (l : List Keyed) : Prop := l.Pairwise (Le lt)
theorem getD' (h : a[ia]? = some p) : a.toList[ia]? = some p := by rw [← h]; simp
theorem some_inj {i : Nat} {x y : Keyed} (h1 : a[i]? = some x) (h2 : a[i]? = some y) : x = y := by
  rw [h1] at h2
  exact Option.some.inj h2
theorem drop_head (h : a[ia]? = some p) : a.toList.drop ia = p :: a.toList.drop (ia + 1) := by
  obtain ⟨hi, e⟩ := List.getElem?_eq_some_iff.mp (getD' h)
  rw [List.drop_eq_getElem_cons hi, e]
theorem So.drop {l : List Keyed} (h : So lt l) (n : Nat) : So lt (l.drop n) := List.Pairwise.sublist (List.drop_sublist n l) h
theorem So.head (h : So lt a.toList) (hp : a[ia]? = some p) : ∀ y ∈ a.toList.drop (ia + 1), Le lt p y := by
  have := h.drop ia
  rw [drop_head hp] at this
  exact (List.pairwise_cons.mp this).1
theorem headLe (o : Swo lt) (h : So lt a.toList) (hp : a[ia]? = some p) {x : Keyed} (hx : Le lt x p) : ∀ y ∈ a.toList.drop ia, Le lt x y := fun y hy => by
  rw [drop_head hp] at hy
  rcases List.mem_cons.mp hy with rfl | hy
  · exact hx
  · exact o.le_trans hx (h.head hp y hy)
theorem up_of (h : So lt a.toList) (i j : Nat) : Up lt a i j := fun x y p q _ hxy _ ex ey => by
  obtain ⟨hx, rfl⟩ := List.getElem?_eq_some_iff.mp (getD' ex)
  obtain ⟨hy, rfl⟩ := List.getElem?_eq_some_iff.mp (getD' ey)
  exact (List.pairwise_iff_getElem.mp h) x y hx hy hxy
theorem so_of {n : Nat} (h : Up lt a 0 n) (hn : a.size ≤ n) : So lt a.toList := by
  refine List.pairwise_iff_getElem.mpr fun i j hi hj hij => ?_
  have hi' : i < a.size := by rw [← Array.length_toList]; exact hi
  have hj' : j < a.size := by rw [← Array.length_toList]; exact hj
  exact h i j _ _ (Nat.zero_le _) hij (by (first | lia | omega)) (by rw [← Array.getElem?_toList]; exact List.getElem?_eq_getElem hi) (by rw [← Array.getElem?_toList]; exact List.getElem?_eq_getElem hj)
theorem mem_dropI {l : List Keyed} {n : Nat} {y : Keyed} (h : y ∈ l.drop n) : ∃ i, l[n + i]? = some y := by
  obtain ⟨i, hi⟩ := List.mem_iff_getElem?.mp h
  rw [List.getElem?_drop] at hi
  exact ⟨i, hi⟩
/-- behind a leap -/
theorem galA (F : ∀ i, k ≤ i → i < a.size - ia → BV lt false p a ia i = false) (o : Swo lt) : ∀ y ∈ a.toList.drop (ia + k), Le lt p y := fun y hy => by
  obtain ⟨i, hi⟩ := mem_dropI hy
  obtain ⟨hl, _⟩ := List.getElem?_eq_some_iff.mp hi
  rw [Array.length_toList] at hl
  have h1 := F (k + i) (by (first | lia | omega)) (by (first | lia | omega))
  unfold BV at h1
  rw [show ia + (k + i) = ia + k + i by (first | lia | omega), ← Array.getElem?_toList, hi] at h1
  have h2 : (!lt p y) = false := h1
  exact o.le_of (by simpa using h2)
theorem galA1 (F : ∀ i, i < k → BV lt false p a ia i = true) : ∀ x ∈ (a.toList.drop ia).take k, Le lt x p := fun x hx => by
  obtain ⟨i, hi⟩ := List.mem_iff_getElem?.mp hx
  have hik : i < k := by
    have := (List.getElem?_eq_some_iff.mp hi).1
    rw [List.length_take] at this
    (first | lia | omega)
  rw [List.getElem?_take_of_lt hik, List.getElem?_drop] at hi
  have h1 := F i hik
  unfold BV at h1
  rw [← Array.getElem?_toList, hi] at h1
  have h2 : (!lt p x) = true := h1
  show lt p x = false
  simpa using h2
theorem galB (F : ∀ i, k ≤ i → i < b.size - ib → BV lt true q b ib i = false) : ∀ y ∈ b.toList.drop (ib + k), Le lt q y := fun y hy => by
  obtain ⟨i, hi⟩ := mem_dropI hy
  obtain ⟨hl, _⟩ := List.getElem?_eq_some_iff.mp hi
  rw [Array.length_toList] at hl
  have h1 := F (k + i) (by (first | lia | omega)) (by (first | lia | omega))
  unfold BV at h1
  rw [show ib + (k + i) = ib + k + i by (first | lia | omega), ← Array.getElem?_toList, hi] at h1
  exact h1
theorem galB1 (F : ∀ i, i < k → BV lt true q b ib i = true) (o : Swo lt) : ∀ x ∈ (b.toList.drop ib).take k, Le lt x q := fun x hx => by
  obtain ⟨i, hi⟩ := List.mem_iff_getElem?.mp hx
  have hik : i < k := by
    have := (List.getElem?_eq_some_iff.mp hi).1
    rw [List.length_take] at this
    (first | lia | omega)
  rw [List.getElem?_take_of_lt hik, List.getElem?_drop] at hi
  have h1 := F i hik
  unfold BV at h1
  rw [← Array.getElem?_toList, hi] at h1
  exact o.le_of h1
/-- what is out: in order, and all that is left is no less -/
structure OutL (lt : Keyed → Keyed → Bool) (a b out : Array Keyed) (ia ib : Nat) : Prop where
  perm : Out a b out ia ib
  sort : So lt out.toList
  lowA : ∀ x ∈ out.toList, ∀ y ∈ a.toList.drop ia, Le lt x y
  lowB : ∀ x ∈ out.toList, ∀ y ∈ b.toList.drop ib, Le lt x y
/-- both, in order -/
structure Rs (lt : Keyed → Keyed → Bool) (a b r : Array Keyed) : Prop where
  perm : r.toList.Perm (a.toList ++ b.toList)
  sort : So lt r.toList
theorem mem_push {x : Keyed} (h : x ∈ (out.push p).toList) : x ∈ out.toList ∨ x = p := by
  rw [Array.toList_push] at h
  rcases List.mem_append.mp h with h | h
  · exact .inl h
  · exact .inr (List.mem_singleton.mp h)
theorem so_push (h : So lt out.toList) (hp : ∀ x ∈ out.toList, Le lt x p) : So lt (out.push p).toList := by
  rw [Array.toList_push]
  refine List.pairwise_append.mpr ⟨h, List.pairwise_singleton _ _, fun x hx y hy => ?_⟩
  rw [List.mem_singleton.mp hy]
  exact hp x hx
theorem drop_in {l : List Keyed} {i j : Nat} (h : i ≤ j) {y : Keyed} (hy : y ∈ l.drop j) : y ∈ l.drop i := by
  rw [show j = i + (j - i) by (first | lia | omega), ← List.drop_drop] at hy
  exact List.mem_of_mem_drop hy
theorem OutL.pushA (h : OutL lt a b out ia ib) (SA : So lt a.toList) (hp : a[ia]? = some p) (hb : ∀ y ∈ b.toList.drop ib, Le lt p y) : OutL lt a b (out.push p) (ia + 1) ib := by
  have hm : p ∈ a.toList.drop ia := by rw [drop_head hp]; exact List.mem_cons_self ..
  refine ⟨h.perm.pushA hp, so_push h.sort fun x hx => h.lowA x hx p hm, fun x hx y hy => ?_, fun x hx y hy => ?_⟩
  · rcases mem_push hx with hx | rfl
    · exact h.lowA x hx y (drop_in (by (first | lia | omega)) hy)
    · exact SA.head hp y hy
  · rcases mem_push hx with hx | rfl
    · exact h.lowB x hx y hy
    · exact hb y hy
theorem OutL.pushB (h : OutL lt a b out ia ib) (SB : So lt b.toList) (hp : b[ib]? = some p) (ha : ∀ y ∈ a.toList.drop ia, Le lt p y) : OutL lt a b (out.push p) ia (ib + 1) := by
  have hm : p ∈ b.toList.drop ib := by rw [drop_head hp]; exact List.mem_cons_self ..
  refine ⟨h.perm.pushB hp, so_push h.sort fun x hx => h.lowB x hx p hm, fun x hx y hy => ?_, fun x hx y hy => ?_⟩
  · rcases mem_push hx with hx | rfl
    · exact h.lowA x hx y hy
    · exact ha y hy
  · rcases mem_push hx with hx | rfl
    · exact h.lowB x hx y (drop_in (by (first | lia | omega)) hy)
    · exact SB.head hp y hy
theorem ext_list (a : Array Keyed) (i k : Nat) : (a.extract i (i + k)).toList = (a.toList.drop i).take k := by
  rw [Array.toList_extract, List.extract_eq_drop_take, show i + k - i = k by (first | lia | omega)]
theorem ext_all (a : Array Keyed) (i : Nat) : (a.extract i a.size).toList = a.toList.drop i := by
  rw [Array.toList_extract, List.extract_eq_drop_take]
  apply List.take_of_length_le
  rw [List.length_drop, Array.length_toList]
  exact Nat.le_refl _
theorem take_drop_le {l : List Keyed} {i k : Nat} (h : So lt l) {x y : Keyed} (hx : x ∈ (l.drop i).take k) (hy : y ∈ l.drop (i + k)) : Le lt x y := by
  have h1 := h.drop i
  rw [← List.take_append_drop k (l.drop i), List.drop_drop] at h1
  exact (List.pairwise_append.mp h1).2.2 x hx y hy
theorem OutL.extA (h : OutL lt a b out ia ib) (SA : So lt a.toList) (hk : ia + k ≤ a.size) (hb : ∀ x ∈ (a.toList.drop ia).take k, ∀ y ∈ b.toList.drop ib, Le lt x y) : OutL lt a b (out ++ a.extract ia (ia + k)) (ia + k) ib := by
  have hm : ∀ x, x ∈ (out ++ a.extract ia (ia + k)).toList → x ∈ out.toList ∨ x ∈ (a.toList.drop ia).take k := fun x hx => by
    rw [Array.toList_append, ext_list] at hx
    exact List.mem_append.mp hx
  refine ⟨h.perm.extA hk, ?_, fun x hx y hy => ?_, fun x hx y hy => ?_⟩
  · rw [Array.toList_append, ext_list]
    exact List.pairwise_append.mpr ⟨h.sort, List.Pairwise.sublist (List.take_sublist _ _) (SA.drop ia), fun x hx y hy => h.lowA x hx y (List.mem_of_mem_take hy)⟩
  · rcases hm x hx with hx | hx
    · exact h.lowA x hx y (drop_in (by (first | lia | omega)) hy)
    · exact take_drop_le SA hx hy
  · rcases hm x hx with hx | hx
    · exact h.lowB x hx y hy
    · exact hb x hx y hy
theorem OutL.extB (h : OutL lt a b out ia ib) (SB : So lt b.toList) (hk : ib + k ≤ b.size) (ha : ∀ x ∈ (b.toList.drop ib).take k, ∀ y ∈ a.toList.drop ia, Le lt x y) : OutL lt a b (out ++ b.extract ib (ib + k)) ia (ib + k) := by
  have hm : ∀ x, x ∈ (out ++ b.extract ib (ib + k)).toList → x ∈ out.toList ∨ x ∈ (b.toList.drop ib).take k := fun x hx => by
    rw [Array.toList_append, ext_list] at hx
    exact List.mem_append.mp hx
  refine ⟨h.perm.extB hk, ?_, fun x hx y hy => ?_, fun x hx y hy => ?_⟩
  · rw [Array.toList_append, ext_list]
    exact List.pairwise_append.mpr ⟨h.sort, List.Pairwise.sublist (List.take_sublist _ _) (SB.drop ib), fun x hx y hy => h.lowB x hx y (List.mem_of_mem_take hy)⟩
  · rcases hm x hx with hx | hx
    · exact h.lowA x hx y hy
    · exact ha x hx y hy
  · rcases hm x hx with hx | hx
    · exact h.lowB x hx y (drop_in (by (first | lia | omega)) hy)
    · exact take_drop_le SB hx hy
theorem OutL.doneB (h : OutL lt a b out ia ib) (SA : So lt a.toList) (e : (ib == b.size) = true) : Rs lt a b (out ++ a.extract ia a.size ++ b.extract ib b.size) := by
  refine ⟨h.perm.done, ?_⟩
  have e' : b.toList.drop ib = [] := List.drop_eq_nil_of_le (by rw [Array.length_toList, eq_of_beq e]; exact Nat.le_refl _)
  rw [Array.toList_append, Array.toList_append, ext_all, ext_all, e', List.append_nil]
  exact List.pairwise_append.mpr ⟨h.sort, SA.drop ia, fun x hx y hy => h.lowA x hx y hy⟩
theorem OutL.doneA (h : OutL lt a b out ia ib) (SB : So lt b.toList) (e : (ia == a.size) = true) : Rs lt a b (out ++ a.extract ia a.size ++ b.extract ib b.size) := by
  refine ⟨h.perm.done, ?_⟩
  have e' : a.toList.drop ia = [] := List.drop_eq_nil_of_le (by rw [Array.length_toList, eq_of_beq e]; exact Nat.le_refl _)
  rw [Array.toList_append, Array.toList_append, ext_all, ext_all, e', List.append_nil]
  exact List.pairwise_append.mpr ⟨h.sort, SB.drop ib, fun x hx y hy => h.lowB x hx y hy⟩
theorem OutL.lastL (h : OutL lt a b out ia ib) (SA : So lt a.toList) (SB : So lt b.toList) (LA : ∀ x ∈ b.toList, ∀ q, a[a.size - 1]? = some q → Le lt x q) (e : (ia + 1 == a.size) = true) : Rs lt a b (out ++ b.extract ib b.size ++ a.extract ia a.size) := by
  refine ⟨h.perm.last, ?_⟩
  have e1 := eq_of_beq e
  rw [Array.toList_append, Array.toList_append, ext_all, ext_all]
  refine List.pairwise_append.mpr ⟨List.pairwise_append.mpr ⟨h.sort, SB.drop ib, fun x hx y hy => h.lowB x hx y hy⟩, SA.drop ia, fun x hx y hy => ?_⟩
  rcases List.mem_append.mp hx with hx | hx
  · exact h.lowA x hx y hy
  · refine LA x (List.mem_of_mem_drop hx) y ?_
    obtain ⟨i, hi⟩ := mem_dropI hy
    have hl := (List.getElem?_eq_some_iff.mp hi).1
    rw [Array.length_toList] at hl
    rw [show a.size - 1 = ia + i by (first | lia | omega), ← Array.getElem?_toList]
    exact hi
theorem outL0 (SB : So lt b.toList) (hp : b[0]? = some p) (hb0 : ∀ p, b[0]? = some p → ∀ y ∈ a.toList, Le lt p y) : OutL lt a b #[p] 0 1 := by
  refine ⟨out0 hp, List.pairwise_singleton _ _, fun x hx y hy => ?_, fun x hx y hy => ?_⟩
  · obtain rfl : x = p := by simpa using hx
    exact hb0 x hp y hy
  · obtain rfl : x = p := by simpa using hx
    exact SB.head hp y hy
end
end Srd

namespace Srd
open PySem PyProof.Rows Srt
section
variable {prog : Program} {w : World} {A : Around} {E : Value → Shared → Prop} {s : Shared} {κ : SortKind} {Ok : Keyed → Prop} {st : SortSt} {lt : Keyed → Keyed → Bool}
abbrev LoT := Option (Array Keyed) × Array Keyed × Nat × Nat × Nat × Nat × Nat
def lo3 (a b out : Array Keyed) (ia ib g ac bc : Nat) : StateT SortSt Sem (ForInStep LoT) :=
  elem' a ia >>= fun p => if (ia + 1 + 1 == a.size) = true then pure (.done (some (out.push p ++ b.extract ib b.size ++ a.extract (ia + 1) a.size), out.push p, ia + 1, ib, g, ac, bc))
    else if (decide (ac < 7) && decide (bc < 7)) = true then pure (.done (none, out.push p, ia + 1, ib, g, ac, bc)) else pure (.yield (none, out.push p, ia + 1, ib, g, ac, bc))
/-- what holds behind a turn of the galloping -/
def LoP (lt : Keyed → Keyed → Bool) (a b : Array Keyed) (st : SortSt) (x : Nat) : ForInStep LoT → SortSt → Prop := fun r st' => match r with
  | .done c => Like st st' ∧ ((∃ r out ia ib g ac bc, c = (some r, out, ia, ib, g, ac, bc) ∧ Rs lt a b r) ∨ ∃ out ia ib g ac bc, c = (none, out, ia, ib, g, ac, bc) ∧ OutL lt a b out ia ib ∧ ia + 1 < a.size ∧ ib < b.size ∧ x + 2 ≤ ia + ib)
  | .yield c => Like st st' ∧ ∃ out ia ib g ac bc, c = (none, out, ia, ib, g, ac, bc) ∧ OutL lt a b out ia ib ∧ ia + 1 < a.size ∧ ib < b.size ∧ x + 2 ≤ ia + ib
/-- what a step may end in -/
structure LoQ (lt : Keyed → Keyed → Bool) (a b : Array Keyed) (st : SortSt) (N : Nat) (Q : ForInStep LoT → SortSt → Prop) : Prop where
  R : ∀ r out ia ib g ac bc, Rs lt a b r → Q (.done (some r, out, ia, ib, g, ac, bc)) st
  N : ∀ out ia ib g ac bc, OutL lt a b out ia ib → ia + 1 < a.size → ib < b.size → N ≤ ia + ib → Q (.done (none, out, ia, ib, g, ac, bc)) st ∧ Q (.yield (none, out, ia, ib, g, ac, bc)) st
section
variable {a b out : Array Keyed} {ia ib g ac bc N : Nat} {Q : ForInStep LoT → SortSt → Prop}
theorem lo3_ok (SA : So lt a.toList) (SB : So lt b.toList) (LA : ∀ x ∈ b.toList, ∀ q, a[a.size - 1]? = some q → Le lt x q) (q : LoQ lt a b st N Q) (ho : OutL lt a b out ia ib) (h1 : ia + 1 < a.size) (h2 : ib < b.size) (hN : N ≤ ia + ib) (hp : ∀ p, a[ia]? = some p → ∀ y ∈ b.toList.drop ib, Le lt p y) :
    wpS (model prog w) A E s (lo3 a b out ia ib g ac bc) Q st := by
  unfold lo3
  refine wpS_bind (wpS_elem (by (first | lia | omega)) fun p4 h4 e4 => ?_)
  have o4 := ho.pushA SA e4 (hp p4 e4)
  by_cases f1 : (ia + 1 + 1 == a.size) = true
  · rw [if_pos f1]
    exact wpS_pure (q.R _ _ _ _ _ _ _ (o4.lastL SA SB LA f1))
  rw [if_neg f1]
  have n4 : ia + 1 + 1 < a.size := by
    have : ¬ ia + 1 + 1 = a.size := fun e => f1 (by simp [← e])
    (first | lia | omega)
  have z := q.N _ _ _ g ac bc o4 n4 h2 (by (first | lia | omega))
  by_cases f2 : (decide (ac < 7) && decide (bc < 7)) = true
  · rw [if_pos f2]
    exact wpS_pure z.1
  · rw [if_neg f2]
    exact wpS_pure z.2
theorem lo2_ok (o : Swo lt) (hc : CmpL prog w A s κ Ok lt) (hk : kindOf st = κ) (ha : ∀ p ∈ a.toList, Ok p) (hb : ∀ p ∈ b.toList, Ok p) (SA : So lt a.toList) (SB : So lt b.toList) (LA : ∀ x ∈ b.toList, ∀ q, a[a.size - 1]? = some q → Le lt x q) (q : LoQ lt a b st N Q) (ho : OutL lt a b out ia ib) (h1 : ia + 1 < a.size) (h2 : ib < b.size) (hN : N ≤ ia + ib) (hp : ∀ p, b[ib]? = some p → ∀ y ∈ a.toList.drop ia, Le lt p y)
    {T : Keyed → Option Nat → StateT SortSt Sem (ForInStep LoT)} (hT : ∀ p k, T p (some k) = if k > 0 then (if (ib + 1 + k == b.size) = true then pure (.done (some (out.push p ++ b.extract (ib + 1) (ib + 1 + k) ++ a.extract ia a.size ++ b.extract (ib + 1 + k) b.size), out.push p ++ b.extract (ib + 1) (ib + 1 + k), ia, ib + 1 + k, g, ac, k))
          else lo3 a b (out.push p ++ b.extract (ib + 1) (ib + 1 + k)) ia (ib + 1 + k) g ac k)
        else lo3 a b (out.push p) ia (ib + 1) g ac k) :
    wpS (model prog w) A E s (elem' b ib >>= fun p => if (ib + 1 == b.size) = true then pure (.done (some (out.push p ++ a.extract ia a.size ++ b.extract (ib + 1) b.size), out.push p, ia, ib + 1, g, ac, bc))
      else elem' a ia >>= fun q => gallop' true q b (ib + 1) (b.size - (ib + 1)) 0 >>= T p) Q st := by
  refine wpS_bind (wpS_elem (by (first | lia | omega)) fun p3 h3 e3 => ?_)
  have o2 := ho.pushB SB e3 (hp p3 e3)
  by_cases c3 : (ib + 1 == b.size) = true
  · rw [if_pos c3]
    exact wpS_pure (q.R _ _ _ _ _ _ _ (o2.doneB SA c3))
  rw [if_neg c3]
  have n3 : ib + 1 < b.size := by
    have : ¬ ib + 1 = b.size := fun e => c3 (by simp [← e])
    (first | lia | omega)
  refine wpS_bind (wpS_elem (by (first | lia | omega)) fun q3 g3 u3 => ?_)
  refine wpS_bind (wpS_gallopL o hc hk (ha q3 g3) hb (by (first | lia | omega)) (by (first | lia | omega)) (up_of SB _ _) fun k2 hk2 G1 G2 => ?_)
  rw [hT]
  by_cases k20 : k2 > 0
  · rw [if_pos k20]
    have o3 := o2.extB SB (k := k2) (by (first | lia | omega)) (fun x hx => headLe o SA u3 (galB1 G1 o x hx))
    by_cases c4 : (ib + 1 + k2 == b.size) = true
    · rw [if_pos c4]
      exact wpS_pure (q.R _ _ _ _ _ _ _ (o3.doneB SA c4))
    rw [if_neg c4]
    have n5 : ib + 1 + k2 < b.size := by
      have : ¬ ib + 1 + k2 = b.size := fun e => c4 (by simp [← e])
      (first | lia | omega)
    exact lo3_ok SA SB LA q o3 h1 n5 (by (first | lia | omega)) fun p e => by rw [some_inj e u3]; exact galB G2
  · rw [if_neg k20]
    exact lo3_ok SA SB LA q o2 h1 n3 (by (first | lia | omega)) fun p e => by rw [some_inj e u3]; exact galB (k := 0) (fun i _ hi => G2 i (by (first | lia | omega)) hi)
end
set_option maxHeartbeats 2000000 in
theorem wpS_mergeLoL {a b : Array Keyed} {Q : Array Keyed → SortSt → Prop} (o : Swo lt) (hc : CmpL prog w A s κ Ok lt) (hk : kindOf st = κ) (ha : ∀ p ∈ a.toList, Ok p) (hb : ∀ p ∈ b.toList, Ok p) (ha1 : 1 ≤ a.size) (hb1 : 1 ≤ b.size) (SA : So lt a.toList) (SB : So lt b.toList) (hb0 : ∀ p, b[0]? = some p → ∀ y ∈ a.toList, Le lt p y) (LA : ∀ x ∈ b.toList, ∀ q, a[a.size - 1]? = some q → Le lt x q)
    (h : ∀ r st', Like st st' → Rs lt a b r → Q r st') : wpS (model prog w) A E s (mergeLo' a b) Q st := by
  refine wpS_bind (wpS_lift (wpAny_rule ⟨rfl, ?_⟩))
  refine wpS_bind (wpS_elem (by (first | lia | omega)) fun p hp he => ?_)
  try dsimp -zeta only
  have o0 : OutL lt a b #[p] 0 1 := outL0 SB he hb0
  by_cases c1 : (1 == b.size) = true
  · rw [if_pos c1]
    exact wpS_pure (h _ _ (Like.refl _) (o0.doneB SA c1))
  rw [if_neg c1]
  by_cases c2 : (0 + 1 == a.size) = true
  · rw [if_pos c2]
    exact wpS_pure (h _ _ (Like.refl _) (o0.lastL SA SB LA c2))
  rw [if_neg c2]
  have n1 : 1 < b.size := by
    have : ¬ 1 = b.size := fun e => c1 (by simp [← e])
    (first | lia | omega)
  have n2 : 1 < a.size := by
    have : ¬ 1 = a.size := fun e => c2 (by simp [← e])
    (first | lia | omega)
  refine wpS_bind (wpS_get ?_)
  -- the turns
  refine wpS_bind (wpS_mono (wpS_forRange (I := fun x c st' => Like st st' ∧ ∃ out ia ib g, c = (none, out, ia, ib, g) ∧ OutL lt a b out ia ib ∧ ia + 1 < a.size ∧ ib < b.size ∧ x + 1 ≤ ia + ib)
    (Q := fun c st' => Like st st' ∧ ∃ r out ia ib g, c = (some r, out, ia, ib, g) ∧ Rs lt a b r) ?_ ?_ ⟨Like.refl _, _, 0, 1, _, rfl, o0, by (first | lia | omega), by (first | lia | omega), by (first | lia | omega)⟩) ?_)
  · rintro x c st1 _ hx ⟨lk, out, ia, ib, g, rfl, ho, hia, hib, hxx⟩
    try dsimp -zeta only
    -- one by one
    refine wpS_bind (wpS_mono (wpS_forRange (I := fun y c st' => Like st st' ∧ ∃ out ia ib ac bc, c = (none, out, ia, ib, ac, bc) ∧ OutL lt a b out ia ib ∧ ia + 1 < a.size ∧ ib < b.size ∧ x + 1 + (if y = 0 then 0 else 1) ≤ ia + ib)
      (Q := fun c st' => Like st st' ∧ ((∃ r out ia ib ac bc, c = (some r, out, ia, ib, ac, bc) ∧ Rs lt a b r) ∨ ∃ out ia ib ac bc, c = (none, out, ia, ib, ac, bc) ∧ OutL lt a b out ia ib ∧ ia + 1 < a.size ∧ ib < b.size ∧ x + 2 ≤ ia + ib)) ?_ ?_ ⟨lk, out, ia, ib, 0, 0, rfl, ho, hia, hib, by simp; (first | lia | omega)⟩) ?_)
    · rintro y c st2 _ hy ⟨lk2, out, ia, ib, ac, bc, rfl, ho, hia, hib, hxx⟩
      dsimp only
      have hxx2 : x + 1 ≤ ia + ib := by split at hxx <;> (first | lia | omega)
      refine wpS_bind (wpS_elem (by (first | lia | omega)) fun p hp ep => ?_)
      refine wpS_bind (wpS_elem (by (first | lia | omega)) fun q hq eq => ?_)
      refine wpS_bind (wpS_ltL hc (lk2.kind.trans hk) (hb p hp) (ha q hq) ?_)
      cases hbw : lt p q with
      | true =>
        try dsimp -zeta only
        rw [if_pos rfl]
        refine wpS_bind (wpS_elem (by (first | lia | omega)) fun p2 hp2 ep2 => ?_)
        have o1 := ho.pushB SB ep2 (by rw [some_inj ep2 ep]; exact headLe o SA eq (o.le_of hbw))
        by_cases d1 : (ib + 1 == b.size) = true
        · rw [if_pos d1]
          exact wpS_pure ⟨lk2, .inl ⟨_, _, _, _, _, _, rfl, (o1.doneB SA d1)⟩⟩
        rw [if_neg d1]
        have m1 : ib + 1 < b.size := by
          have : ¬ ib + 1 = b.size := fun e => d1 (by simp [← e])
          (first | lia | omega)
        by_cases d2 : bc + 1 ≥ g
        · rw [if_pos d2]
          exact wpS_pure ⟨lk2, .inr ⟨_, _, _, _, _, rfl, o1, hia, m1, by (first | lia | omega)⟩⟩
        · rw [if_neg d2]
          exact wpS_pure ⟨lk2, _, _, _, _, _, rfl, o1, hia, m1, by rw [if_neg (by (first | lia | omega))]; (first | lia | omega)⟩
      | false =>
        try dsimp -zeta only
        rw [if_neg Bool.false_ne_true]
        refine wpS_bind (wpS_elem (by (first | lia | omega)) fun p2 hp2 ep2 => ?_)
        have o1 := ho.pushA SA ep2 (by rw [some_inj ep2 eq]; exact headLe o SB ep hbw)
        by_cases d1 : (ia + 1 + 1 == a.size) = true
        · rw [if_pos d1]
          exact wpS_pure ⟨lk2, .inl ⟨_, _, _, _, _, _, rfl, (o1.lastL SA SB LA d1)⟩⟩
        rw [if_neg d1]
        have m1 : ia + 1 + 1 < a.size := by
          have : ¬ ia + 1 + 1 = a.size := fun e => d1 (by simp [← e])
          (first | lia | omega)
        by_cases d2 : ac + 1 ≥ g
        · rw [if_pos d2]
          exact wpS_pure ⟨lk2, .inr ⟨_, _, _, _, _, rfl, o1, m1, hib, by (first | lia | omega)⟩⟩
        · rw [if_neg d2]
          exact wpS_pure ⟨lk2, _, _, _, _, _, rfl, o1, m1, hib, by rw [if_neg (by (first | lia | omega))]; (first | lia | omega)⟩
    · rintro c st2 ⟨lk2, out, ia, ib, ac, bc, rfl, ho, hia, hib, hxx⟩
      refine ⟨lk2, .inr ⟨_, _, _, _, _, rfl, ho, hia, hib, ?_⟩⟩
      rw [if_neg (by (first | lia | omega))] at hxx
      (first | lia | omega)
    · rintro c st2 ⟨lk2, ⟨r, out, ia, ib, ac, bc, rfl, hr⟩ | ⟨out, ia, ib, ac, bc, rfl, ho, hia, hib, hxx⟩⟩
      · exact wpS_pure ⟨lk2, _, _, _, _, _, rfl, hr⟩
      try dsimp -zeta only
      refine wpS_bind (wpS_lift (wpAny_rule ⟨rfl, ?_⟩))
      try dsimp -zeta only
      -- by leaps
      refine wpS_bind (wpS_mono (wpS_forRange (I := fun y c st' => Like st st' ∧ ∃ out ia ib g ac bc, c = (none, out, ia, ib, g, ac, bc) ∧ OutL lt a b out ia ib ∧ ia + 1 < a.size ∧ ib < b.size ∧ x + 2 ≤ ia + ib)
        (Q := fun c st' => Like st st' ∧ ((∃ r out ia ib g ac bc, c = (some r, out, ia, ib, g, ac, bc) ∧ Rs lt a b r) ∨ ∃ out ia ib g ac bc, c = (none, out, ia, ib, g, ac, bc) ∧ OutL lt a b out ia ib ∧ ia + 1 < a.size ∧ ib < b.size ∧ x + 2 ≤ ia + ib)) ?_ ?_ ⟨lk2, out, ia, ib, _, _, _, rfl, ho, hia, hib, hxx⟩) ?_)
      · rintro y c st3 _ hy ⟨lk3, out, ia, ib, g3, ac, bc, rfl, ho, hia, hib, hxx⟩
        dsimp only
        refine wpS_mono (Q := LoP lt a b st x) ?_ (fun r st' h => by cases r <;> exact h)
        have loq : ∀ {st4}, Like st st4 → LoQ lt a b st4 (ia + ib) (LoP lt a b st x) := fun lk4 => ⟨fun r out ia ib g ac bc hr => ⟨lk4, .inl ⟨r, out, ia, ib, g, ac, bc, rfl, hr⟩⟩, fun out ia ib g ac bc ho h1 h2 hN => ⟨⟨lk4, .inr ⟨out, ia, ib, g, ac, bc, rfl, ho, h1, h2, by (first | lia | omega)⟩⟩, ⟨lk4, out, ia, ib, g, ac, bc, rfl, ho, h1, h2, by (first | lia | omega)⟩⟩⟩
        by_cases g1 : g3 > 1
        · rw [if_pos g1]
          refine wpS_bind (wpS_modify ?_)
          have lk4 := lk3.trans (like_gallop st3 (g3 - 1))
          refine wpS_bind (wpS_elem (by (first | lia | omega)) fun p0 h0 e0 => ?_)
          refine wpS_bind (wpS_gallopL o hc (lk4.kind.trans hk) (hb p0 h0) ha (by (first | lia | omega)) (by (first | lia | omega)) (up_of SA _ _) fun k hk1 F1 F2 => ?_)
          try dsimp -zeta only
          by_cases k0 : k > 0
          · rw [if_pos k0]
            have o1 := ho.extA SA (k := k) (by (first | lia | omega)) (fun x hx => headLe o SB e0 (galA1 F1 x hx))
            by_cases c1 : (ia + k + 1 == a.size) = true
            · rw [if_pos c1]
              exact wpS_pure ⟨lk4, .inl ⟨_, _, _, _, _, _, _, rfl, (o1.lastL SA SB LA c1)⟩⟩
            rw [if_neg c1]
            by_cases c2 : (ia + k == a.size) = true
            · rw [if_pos c2]
              exact wpS_pure ⟨lk4, .inl ⟨_, _, _, _, _, _, _, rfl, (o1.doneA SB c2)⟩⟩
            rw [if_neg c2]
            have n1 : ia + k + 1 < a.size := by
              have h1 : ¬ ia + k + 1 = a.size := fun e => c1 (by simp [← e])
              have h2 : ¬ ia + k = a.size := fun e => c2 (by simp [← e])
              (first | lia | omega)
            refine lo2_ok o hc (lk4.kind.trans hk) ha hb SA SB LA (N := ia + ib) (loq lk4) o1 n1 hib (by (first | lia | omega)) (fun p e => by rw [some_inj e e0]; exact galA F2 o) ?_
            exact fun _ _ => rfl
          · rw [if_neg k0]
            refine lo2_ok o hc (lk4.kind.trans hk) ha hb SA SB LA (N := ia + ib) (loq lk4) ho hia hib (Nat.le_refl _) (fun p e => by rw [some_inj e e0]; exact galA (k := 0) (fun i _ hi => F2 i (by (first | lia | omega)) hi) o) ?_
            exact fun _ _ => rfl
        · rw [if_neg g1]
          refine wpS_bind (wpS_modify ?_)
          have lk4 := lk3.trans (like_gallop st3 g3)
          refine wpS_bind (wpS_elem (by (first | lia | omega)) fun p0 h0 e0 => ?_)
          refine wpS_bind (wpS_gallopL o hc (lk4.kind.trans hk) (hb p0 h0) ha (by (first | lia | omega)) (by (first | lia | omega)) (up_of SA _ _) fun k hk1 F1 F2 => ?_)
          try dsimp -zeta only
          by_cases k0 : k > 0
          · rw [if_pos k0]
            have o1 := ho.extA SA (k := k) (by (first | lia | omega)) (fun x hx => headLe o SB e0 (galA1 F1 x hx))
            by_cases c1 : (ia + k + 1 == a.size) = true
            · rw [if_pos c1]
              exact wpS_pure ⟨lk4, .inl ⟨_, _, _, _, _, _, _, rfl, (o1.lastL SA SB LA c1)⟩⟩
            rw [if_neg c1]
            by_cases c2 : (ia + k == a.size) = true
            · rw [if_pos c2]
              exact wpS_pure ⟨lk4, .inl ⟨_, _, _, _, _, _, _, rfl, (o1.doneA SB c2)⟩⟩
            rw [if_neg c2]
            have n1 : ia + k + 1 < a.size := by
              have h1 : ¬ ia + k + 1 = a.size := fun e => c1 (by simp [← e])
              have h2 : ¬ ia + k = a.size := fun e => c2 (by simp [← e])
              (first | lia | omega)
            refine lo2_ok o hc (lk4.kind.trans hk) ha hb SA SB LA (N := ia + ib) (loq lk4) o1 n1 hib (by (first | lia | omega)) (fun p e => by rw [some_inj e e0]; exact galA F2 o) ?_
            exact fun _ _ => rfl
          · rw [if_neg k0]
            refine lo2_ok o hc (lk4.kind.trans hk) ha hb SA SB LA (N := ia + ib) (loq lk4) ho hia hib (Nat.le_refl _) (fun p e => by rw [some_inj e e0]; exact galA (k := 0) (fun i _ hi => F2 i (by (first | lia | omega)) hi) o) ?_
            exact fun _ _ => rfl
      · rintro c st3 ⟨lk3, out, ia, ib, g3, ac, bc, rfl, ho, hia, hib, hxx⟩
        exact ⟨lk3, .inr ⟨_, _, _, _, _, _, rfl, ho, hia, hib, hxx⟩⟩
      · rintro c st3 ⟨lk3, ⟨r, out, ia, ib, g3, ac, bc, rfl, hr⟩ | ⟨out, ia, ib, g3, ac, bc, rfl, ho, hia, hib, hxx⟩⟩
        · exact wpS_pure ⟨lk3, _, _, _, _, _, rfl, hr⟩
        · try dsimp -zeta only
          refine wpS_bind (wpS_modify ?_)
          exact wpS_pure ⟨lk3.trans (like_gallop _ _), _, _, _, _, rfl, ho, hia, hib, by (first | lia | omega)⟩
  · rintro c st1 ⟨lk, out, ia, ib, g, rfl, ho, hia, hib, hx⟩
    exfalso
    (first | lia | omega)
  · rintro c st1 ⟨lk, r, out, ia, ib, g, rfl, hr⟩
    exact wpS_pure (h r st1 lk hr)
end
end Srd

namespace Srd
open PySem PyProof.Rows Srt
section
variable {lt : Keyed → Keyed → Bool} {a b out : Array Keyed} {na nb k : Nat} {p q : Keyed}
/-- what is out from the right: in order, and all that is left is no more -/
structure OutHL (lt : Keyed → Keyed → Bool) (a b out : Array Keyed) (na nb : Nat) : Prop where
  perm : OutH a b out na nb
  sort : So lt out.toList.reverse
  hiA : ∀ x ∈ out.toList, ∀ y ∈ a.toList.take na, Le lt y x
  hiB : ∀ x ∈ out.toList, ∀ y ∈ b.toList.take nb, Le lt y x
theorem take_last (h1 : 1 ≤ na) (hp : a[na - 1]? = some p) : a.toList.take na = a.toList.take (na - 1) ++ [p] := by
  have := take_one (getD' hp)
  rw [Nat.sub_add_cancel h1] at this
  exact this
theorem So.take {l : List Keyed} (h : So lt l) (n : Nat) : So lt (l.take n) := List.Pairwise.sublist (List.take_sublist n l) h
theorem So.last (h : So lt a.toList) (h1 : 1 ≤ na) (hp : a[na - 1]? = some p) : ∀ y ∈ a.toList.take (na - 1), Le lt y p := fun y hy => by
  have := h.take na
  rw [take_last h1 hp] at this
  exact (List.pairwise_append.mp this).2.2 y hy p (List.mem_singleton.mpr rfl)
theorem lastLe (o : Swo lt) (h : So lt a.toList) (h1 : 1 ≤ na) (hp : a[na - 1]? = some p) {x : Keyed} (hx : Le lt p x) : ∀ y ∈ a.toList.take na, Le lt y x := fun y hy => by
  rw [take_last h1 hp] at hy
  rcases List.mem_append.mp hy with hy | hy
  · exact o.le_trans (h.last h1 hp y hy) hx
  · rw [List.mem_singleton.mp hy]
    exact hx
theorem take_in {l : List Keyed} {i j : Nat} (h : i ≤ j) {y : Keyed} (hy : y ∈ l.take i) : y ∈ l.take j := by
  rw [show i = min i j by (first | lia | omega), ← List.take_take] at hy
  exact List.mem_of_mem_take hy
theorem mem_takeI {l : List Keyed} {n : Nat} {y : Keyed} (h : y ∈ l.take n) : ∃ i, i < n ∧ l[i]? = some y := by
  obtain ⟨i, hi⟩ := List.mem_iff_getElem?.mp h
  have hik : i < n := by
    have := (List.getElem?_eq_some_iff.mp hi).1
    rw [List.length_take] at this
    (first | lia | omega)
  rw [List.getElem?_take_of_lt hik] at hi
  exact ⟨i, hik, hi⟩
theorem mem_exI {i j : Nat} {x : Keyed} (h : x ∈ (a.extract i j).toList) : ∃ m, i ≤ m ∧ m < j ∧ a[m]? = some x := by
  rw [Array.toList_extract, List.extract_eq_drop_take] at h
  obtain ⟨m, hm, e⟩ := mem_takeI h
  rw [List.getElem?_drop] at e
  exact ⟨i + m, by (first | lia | omega), by (first | lia | omega), by rw [← Array.getElem?_toList]; exact e⟩
/-- behind a leap from the right -/
theorem galHA (F : ∀ i, k ≤ i → i < na → BV lt false p a 0 i = false) (o : Swo lt) : ∀ x ∈ (a.extract k na).toList, Le lt p x := fun x hx => by
  obtain ⟨m, h1, h2, e⟩ := mem_exI hx
  have h3 := F m h1 h2
  unfold BV at h3
  rw [Nat.zero_add, e] at h3
  have h4 : (!lt p x) = false := h3
  exact o.le_of (by simpa using h4)
theorem galHA1 (F : ∀ i, i < k → BV lt false p a 0 i = true) : ∀ y ∈ a.toList.take k, Le lt y p := fun y hy => by
  obtain ⟨i, hi, e⟩ := mem_takeI hy
  have h3 := F i hi
  unfold BV at h3
  rw [Nat.zero_add, ← Array.getElem?_toList, e] at h3
  have h4 : (!lt p y) = true := h3
  show lt p y = false
  simpa using h4
theorem galHB (F : ∀ i, k ≤ i → i < nb → BV lt true q b 0 i = false) : ∀ x ∈ (b.extract k nb).toList, Le lt q x := fun x hx => by
  obtain ⟨m, h1, h2, e⟩ := mem_exI hx
  have h3 := F m h1 h2
  unfold BV at h3
  rw [Nat.zero_add, e] at h3
  exact h3
theorem galHB1 (F : ∀ i, i < k → BV lt true q b 0 i = true) (o : Swo lt) : ∀ y ∈ b.toList.take k, Le lt y q := fun y hy => by
  obtain ⟨i, hi, e⟩ := mem_takeI hy
  have h3 := F i hi
  unfold BV at h3
  rw [Nat.zero_add, ← Array.getElem?_toList, e] at h3
  exact o.le_of h3
theorem so_pushH (h : So lt out.toList.reverse) (hp : ∀ x ∈ out.toList, Le lt p x) : So lt (out.push p).toList.reverse := by
  rw [Array.toList_push, List.reverse_append]
  exact List.pairwise_cons.mpr ⟨fun x hx => hp x (List.mem_reverse.mp hx), h⟩
theorem OutHL.pushA (h : OutHL lt a b out na nb) (SA : So lt a.toList) (h1 : 1 ≤ na) (hp : a[na - 1]? = some p) (hb : ∀ y ∈ b.toList.take nb, Le lt y p) : OutHL lt a b (out.push p) (na - 1) nb := by
  have hm : p ∈ a.toList.take na := by rw [take_last h1 hp]; exact List.mem_append_right _ (List.mem_singleton.mpr rfl)
  refine ⟨h.perm.pushA h1 hp, so_pushH h.sort fun x hx => h.hiA x hx p hm, fun x hx y hy => ?_, fun x hx y hy => ?_⟩
  · rcases mem_push hx with hx | rfl
    · exact h.hiA x hx y (take_in (by (first | lia | omega)) hy)
    · exact SA.last h1 hp y hy
  · rcases mem_push hx with hx | rfl
    · exact h.hiB x hx y hy
    · exact hb y hy
theorem OutHL.pushB (h : OutHL lt a b out na nb) (SB : So lt b.toList) (h1 : 1 ≤ nb) (hp : b[nb - 1]? = some p) (ha : ∀ y ∈ a.toList.take na, Le lt y p) : OutHL lt a b (out.push p) na (nb - 1) := by
  have hm : p ∈ b.toList.take nb := by rw [take_last h1 hp]; exact List.mem_append_right _ (List.mem_singleton.mpr rfl)
  refine ⟨h.perm.pushB h1 hp, so_pushH h.sort fun x hx => h.hiB x hx p hm, fun x hx y hy => ?_, fun x hx y hy => ?_⟩
  · rcases mem_push hx with hx | rfl
    · exact h.hiA x hx y hy
    · exact ha y hy
  · rcases mem_push hx with hx | rfl
    · exact h.hiB x hx y (take_in (by (first | lia | omega)) hy)
    · exact SB.last h1 hp y hy
theorem so_ext (h : So lt a.toList) (i j : Nat) : So lt (a.extract i j).toList := by
  rw [Array.toList_extract, List.extract_eq_drop_take]
  exact (h.drop i).take _
theorem ex_take {i j : Nat} {x : Keyed} (h : x ∈ (a.extract i j).toList) : x ∈ a.toList.take j := by
  obtain ⟨m, h1, h2, e⟩ := mem_exI h
  rw [← Array.getElem?_toList] at e
  refine List.mem_iff_getElem?.mpr ⟨m, ?_⟩
  rw [List.getElem?_take_of_lt h2]
  exact e
theorem take_ex_le (h : So lt a.toList) {i j : Nat} {x y : Keyed} (hy : y ∈ a.toList.take i) (hx : x ∈ (a.extract i j).toList) : Le lt y x := by
  obtain ⟨m, h1, h2, e⟩ := mem_exI hx
  obtain ⟨l, hl, e2⟩ := mem_takeI hy
  rw [Array.getElem?_toList] at e2
  exact up_of h 0 (m + 1) l m _ _ (Nat.zero_le _) (by (first | lia | omega)) (by (first | lia | omega)) e2 e
theorem OutHL.extA (h : OutHL lt a b out na nb) (SA : So lt a.toList) (hk : k ≤ na) (hb : ∀ x ∈ (a.extract k na).toList, ∀ y ∈ b.toList.take nb, Le lt y x) : OutHL lt a b (out ++ (a.extract k na).reverse) k nb := by
  have hm : ∀ x, x ∈ (out ++ (a.extract k na).reverse).toList → x ∈ out.toList ∨ x ∈ (a.extract k na).toList := fun x hx => by
    rw [Array.toList_append, Array.toList_reverse] at hx
    rcases List.mem_append.mp hx with hx | hx
    · exact .inl hx
    · exact .inr (List.mem_reverse.mp hx)
  refine ⟨h.perm.extA hk, ?_, fun x hx y hy => ?_, fun x hx y hy => ?_⟩
  · rw [Array.toList_append, Array.toList_reverse, List.reverse_append, List.reverse_reverse]
    exact List.pairwise_append.mpr ⟨so_ext SA _ _, h.sort, fun x hx y hy => h.hiA y (List.mem_reverse.mp hy) x (ex_take hx)⟩
  · rcases hm x hx with hx | hx
    · exact h.hiA x hx y (take_in (by (first | lia | omega)) hy)
    · exact take_ex_le SA hy hx
  · rcases hm x hx with hx | hx
    · exact h.hiB x hx y hy
    · exact hb x hx y hy
theorem OutHL.extB (h : OutHL lt a b out na nb) (SB : So lt b.toList) (hk : k ≤ nb) (ha : ∀ x ∈ (b.extract k nb).toList, ∀ y ∈ a.toList.take na, Le lt y x) : OutHL lt a b (out ++ (b.extract k nb).reverse) na k := by
  have hm : ∀ x, x ∈ (out ++ (b.extract k nb).reverse).toList → x ∈ out.toList ∨ x ∈ (b.extract k nb).toList := fun x hx => by
    rw [Array.toList_append, Array.toList_reverse] at hx
    rcases List.mem_append.mp hx with hx | hx
    · exact .inl hx
    · exact .inr (List.mem_reverse.mp hx)
  refine ⟨h.perm.extB hk, ?_, fun x hx y hy => ?_, fun x hx y hy => ?_⟩
  · rw [Array.toList_append, Array.toList_reverse, List.reverse_append, List.reverse_reverse]
    exact List.pairwise_append.mpr ⟨so_ext SB _ _, h.sort, fun x hx y hy => h.hiB y (List.mem_reverse.mp hy) x (ex_take hx)⟩
  · rcases hm x hx with hx | hx
    · exact h.hiA x hx y hy
    · exact ha x hx y hy
  · rcases hm x hx with hx | hx
    · exact h.hiB x hx y (take_in (by (first | lia | omega)) hy)
    · exact take_ex_le SB hy hx
theorem OutHL.doneA (h : OutHL lt a b out na nb) (SB : So lt b.toList) (e : (na == 0) = true) : Rs lt a b (a.extract 0 na ++ b.extract 0 nb ++ out.reverse) := by
  refine ⟨h.perm.done, ?_⟩
  rw [Array.toList_append, Array.toList_append, ex0, ex0, Array.toList_reverse, eq_of_beq e, List.take_zero, List.nil_append]
  exact List.pairwise_append.mpr ⟨SB.take nb, h.sort, fun x hx y hy => h.hiB y (List.mem_reverse.mp hy) x hx⟩
theorem OutHL.doneB (h : OutHL lt a b out na nb) (SA : So lt a.toList) (e : (nb == 0) = true) : Rs lt a b (a.extract 0 na ++ b.extract 0 nb ++ out.reverse) := by
  refine ⟨h.perm.done, ?_⟩
  rw [Array.toList_append, Array.toList_append, ex0, ex0, Array.toList_reverse, eq_of_beq e, List.take_zero, List.append_nil]
  exact List.pairwise_append.mpr ⟨SA.take na, h.sort, fun x hx y hy => h.hiA y (List.mem_reverse.mp hy) x hx⟩
theorem OutHL.firstL (h : OutHL lt a b out na nb) (SA : So lt a.toList) (SB : So lt b.toList) (hb0 : ∀ p, b[0]? = some p → ∀ y ∈ a.toList, Le lt p y) (e : (nb == 1) = true) : Rs lt a b (b.extract 0 nb ++ a.extract 0 na ++ out.reverse) := by
  refine ⟨h.perm.first, ?_⟩
  rw [Array.toList_append, Array.toList_append, ex0, ex0, Array.toList_reverse]
  refine List.pairwise_append.mpr ⟨List.pairwise_append.mpr ⟨SB.take nb, SA.take na, fun x hx y hy => ?_⟩, h.sort, fun x hx y hy => ?_⟩
  · obtain ⟨i, hi, e2⟩ := mem_takeI hx
    rw [eq_of_beq e] at hi
    obtain rfl : i = 0 := by (first | lia | omega)
    rw [Array.getElem?_toList] at e2
    exact hb0 x e2 y (List.mem_of_mem_take hy)
  · rcases List.mem_append.mp hx with hx | hx
    · exact h.hiB y (List.mem_reverse.mp hy) x hx
    · exact h.hiA y (List.mem_reverse.mp hy) x hx
theorem outHL0 (SA : So lt a.toList) (h1 : 1 ≤ a.size) (hp : a[a.size - 1]? = some p) (LA : ∀ x ∈ b.toList, ∀ q, a[a.size - 1]? = some q → Le lt x q) : OutHL lt a b #[p] (a.size - 1) b.size := by
  refine ⟨outH0 h1 hp, List.pairwise_singleton _ _, fun x hx y hy => ?_, fun x hx y hy => ?_⟩
  · obtain rfl : x = p := by simpa using hx
    exact SA.last h1 hp y hy
  · obtain rfl : x = p := by simpa using hx
    exact LA y (List.mem_of_mem_take hy) x hp
end
section
variable {prog : Program} {w : World} {A : Around} {E : Value → Shared → Prop} {s : Shared} {κ : SortKind} {Ok : Keyed → Prop} {st : SortSt} {lt : Keyed → Keyed → Bool}
abbrev HiT := Option (Array Keyed) × Nat × Nat × Array Keyed × Nat × Nat × Nat
def hi3 (a b : Array Keyed) (na nb : Nat) (out : Array Keyed) (g ac bc : Nat) : StateT SortSt Sem (ForInStep HiT) :=
  elem' a (na - 1) >>= fun p => if (na - 1 == 0) = true then pure (.done (some (a.extract 0 (na - 1) ++ b.extract 0 nb ++ (out.push p).reverse), na - 1, nb, out.push p, g, ac, bc))
    else if (decide (ac < 7) && decide (bc < 7)) = true then pure (.done (none, na - 1, nb, out.push p, g, ac, bc)) else pure (.yield (none, na - 1, nb, out.push p, g, ac, bc))
/-- what a step may end in -/
structure HiQ (lt : Keyed → Keyed → Bool) (a b : Array Keyed) (st : SortSt) (N : Nat) (Q : ForInStep HiT → SortSt → Prop) : Prop where
  R : ∀ r na nb out g ac bc, Rs lt a b r → Q (.done (some r, na, nb, out, g, ac, bc)) st
  N : ∀ na nb out g ac bc, OutHL lt a b out na nb → 1 ≤ na → na ≤ a.size → 2 ≤ nb → nb ≤ b.size → na + nb ≤ N → Q (.done (none, na, nb, out, g, ac, bc)) st ∧ Q (.yield (none, na, nb, out, g, ac, bc)) st
/-- what holds behind a turn of the galloping -/
def HiP (lt : Keyed → Keyed → Bool) (a b : Array Keyed) (st : SortSt) (x : Nat) : ForInStep HiT → SortSt → Prop := fun r st' => match r with
  | .done c => Like st st' ∧ ((∃ r na nb out g ac bc, c = (some r, na, nb, out, g, ac, bc) ∧ Rs lt a b r) ∨ ∃ na nb out g ac bc, c = (none, na, nb, out, g, ac, bc) ∧ OutHL lt a b out na nb ∧ 1 ≤ na ∧ na ≤ a.size ∧ 2 ≤ nb ∧ nb ≤ b.size ∧ na + nb + x + 2 ≤ a.size + b.size)
  | .yield c => Like st st' ∧ ∃ na nb out g ac bc, c = (none, na, nb, out, g, ac, bc) ∧ OutHL lt a b out na nb ∧ 1 ≤ na ∧ na ≤ a.size ∧ 2 ≤ nb ∧ nb ≤ b.size ∧ na + nb + x + 2 ≤ a.size + b.size
section
variable {a b out : Array Keyed} {na nb g ac bc N : Nat} {Q : ForInStep HiT → SortSt → Prop}
theorem hi3_ok (SA : So lt a.toList) (SB : So lt b.toList) (q : HiQ lt a b st N Q) (ho : OutHL lt a b out na nb) (h1 : 1 ≤ na) (h2 : na ≤ a.size) (h3 : 2 ≤ nb) (h4 : nb ≤ b.size) (hN : na + nb ≤ N) (hp : ∀ p, a[na - 1]? = some p → ∀ y ∈ b.toList.take nb, Le lt y p) :
    wpS (model prog w) A E s (hi3 a b na nb out g ac bc) Q st := by
  unfold hi3
  refine wpS_bind (wpS_elem (by (first | lia | omega)) fun p4 w4 e4 => ?_)
  have o4 := ho.pushA SA h1 e4 (hp p4 e4)
  by_cases f1 : (na - 1 == 0) = true
  · rw [if_pos f1]
    exact wpS_pure (q.R _ _ _ _ _ _ _ (o4.doneA SB f1))
  rw [if_neg f1]
  have n4 : ¬ na - 1 = 0 := fun e => f1 (by simp [e])
  have z := q.N _ _ _ g ac bc o4 (by (first | lia | omega)) (by (first | lia | omega)) h3 h4 (by (first | lia | omega))
  by_cases f2 : (decide (ac < 7) && decide (bc < 7)) = true
  · rw [if_pos f2]
    exact wpS_pure z.1
  · rw [if_neg f2]
    exact wpS_pure z.2
theorem hi2_ok (o : Swo lt) (hc : CmpL prog w A s κ Ok lt) (hk : kindOf st = κ) (ha : ∀ p ∈ a.toList, Ok p) (hb : ∀ p ∈ b.toList, Ok p) (hb0 : ∀ p, b[0]? = some p → ∀ y ∈ a.toList, Le lt p y) (SA : So lt a.toList) (SB : So lt b.toList) (q : HiQ lt a b st N Q) (ho : OutHL lt a b out na nb) (h1 : 1 ≤ na) (h2 : na ≤ a.size) (h3 : 2 ≤ nb) (h4 : nb ≤ b.size) (hN : na + nb ≤ N) (hp : ∀ p, b[nb - 1]? = some p → ∀ y ∈ a.toList.take na, Le lt y p)
    {T : Keyed → Option Nat → StateT SortSt Sem (ForInStep HiT)} (hT : ∀ p k, T p (some k) = if nb - 1 - k > 0 then (if (k == 1) = true then pure (.done (some (b.extract 0 k ++ a.extract 0 na ++ (out.push p ++ (b.extract k (nb - 1)).reverse).reverse), na, k, out.push p ++ (b.extract k (nb - 1)).reverse, g, ac, nb - 1 - k))
          else if (k == 0) = true then pure (.done (some (a.extract 0 na ++ b.extract 0 k ++ (out.push p ++ (b.extract k (nb - 1)).reverse).reverse), na, k, out.push p ++ (b.extract k (nb - 1)).reverse, g, ac, nb - 1 - k))
          else hi3 a b na k (out.push p ++ (b.extract k (nb - 1)).reverse) g ac (nb - 1 - k))
        else hi3 a b na (nb - 1) (out.push p) g ac (nb - 1 - k)) :
    wpS (model prog w) A E s (elem' b (nb - 1) >>= fun p => if (nb - 1 == 1) = true then pure (.done (some (b.extract 0 (nb - 1) ++ a.extract 0 na ++ (out.push p).reverse), na, nb - 1, out.push p, g, ac, bc))
      else elem' a (na - 1) >>= fun q => gallop' true q b 0 (nb - 1) (nb - 1 - 1) >>= T p) Q st := by
  refine wpS_bind (wpS_elem (by (first | lia | omega)) fun p3 w3 e3 => ?_)
  have o2 := ho.pushB SB (by (first | lia | omega)) e3 (hp p3 e3)
  by_cases c3 : (nb - 1 == 1) = true
  · rw [if_pos c3]
    exact wpS_pure (q.R _ _ _ _ _ _ _ (o2.firstL SA SB hb0 c3))
  rw [if_neg c3]
  have n3 : ¬ nb - 1 = 1 := fun e => c3 (by simp [e])
  refine wpS_bind (wpS_elem (by (first | lia | omega)) fun q3 v3 u3 => ?_)
  refine wpS_bind (wpS_gallopL o hc hk (ha q3 v3) hb (by (first | lia | omega)) (by (first | lia | omega)) (up_of SB _ _) fun k2 hk2 G1 G2 => ?_)
  rw [hT]
  by_cases k20 : nb - 1 - k2 > 0
  · rw [if_pos k20]
    have o3 := o2.extB SB (k := k2) (by (first | lia | omega)) (fun x hx => lastLe o SA (by (first | lia | omega)) u3 (galHB G2 x hx))
    by_cases c4 : (k2 == 1) = true
    · rw [if_pos c4]
      exact wpS_pure (q.R _ _ _ _ _ _ _ (o3.firstL SA SB hb0 c4))
    rw [if_neg c4]
    by_cases c5 : (k2 == 0) = true
    · rw [if_pos c5]
      exact wpS_pure (q.R _ _ _ _ _ _ _ (o3.doneB SA c5))
    rw [if_neg c5]
    have n5 : ¬ k2 = 1 := fun e => c4 (by simp [e])
    have n6 : ¬ k2 = 0 := fun e => c5 (by simp [e])
    exact hi3_ok SA SB q o3 h1 h2 (by (first | lia | omega)) (by (first | lia | omega)) (by (first | lia | omega)) fun p e => by rw [some_inj e u3]; exact galHB1 G1 o
  · rw [if_neg k20]
    exact hi3_ok SA SB q o2 h1 h2 (by (first | lia | omega)) (by (first | lia | omega)) (by (first | lia | omega)) fun p e => by rw [some_inj e u3]; exact galHB1 (fun i hi => G1 i (by (first | lia | omega))) o
end
set_option maxHeartbeats 2000000 in
theorem wpS_mergeHiL {a b : Array Keyed} {Q : Array Keyed → SortSt → Prop} (o : Swo lt) (hc : CmpL prog w A s κ Ok lt) (hk : kindOf st = κ) (ha : ∀ p ∈ a.toList, Ok p) (hb : ∀ p ∈ b.toList, Ok p) (ha1 : 1 ≤ a.size) (hb1 : 1 ≤ b.size) (SA : So lt a.toList) (SB : So lt b.toList) (hb0 : ∀ p, b[0]? = some p → ∀ y ∈ a.toList, Le lt p y) (LA : ∀ x ∈ b.toList, ∀ q, a[a.size - 1]? = some q → Le lt x q)
    (h : ∀ r st', Like st st' → Rs lt a b r → Q r st') : wpS (model prog w) A E s (mergeHi' a b) Q st := by
  refine wpS_bind (wpS_lift (wpAny_rule ⟨rfl, ?_⟩))
  refine wpS_bind (wpS_elem (by (first | lia | omega)) fun p hp he => ?_)
  try dsimp -zeta only
  have o0 : OutHL lt a b #[p] (a.size - 1) b.size := outHL0 SA ha1 he LA
  by_cases c1 : (a.size - 1 == 0) = true
  · rw [if_pos c1]
    exact wpS_pure (h _ _ (Like.refl _) (o0.doneA SB c1))
  rw [if_neg c1]
  by_cases c2 : (b.size == 1) = true
  · rw [if_pos c2]
    exact wpS_pure (h _ _ (Like.refl _) (o0.firstL SA SB hb0 c2))
  rw [if_neg c2]
  have n1 : 1 < b.size := by
    have : ¬ b.size = 1 := fun e => c2 (by simp [e])
    (first | lia | omega)
  have n2 : 1 < a.size := by
    have : ¬ a.size - 1 = 0 := fun e => c1 (by simp [e])
    (first | lia | omega)
  refine wpS_bind (wpS_get ?_)
  refine wpS_bind (wpS_mono (wpS_forRange (I := fun x c st' => Like st st' ∧ ∃ na nb out g, c = (none, na, nb, out, g) ∧ OutHL lt a b out na nb ∧ 1 ≤ na ∧ na ≤ a.size ∧ 2 ≤ nb ∧ nb ≤ b.size ∧ na + nb + x + 1 ≤ a.size + b.size)
    (Q := fun c st' => Like st st' ∧ ∃ r na nb out g, c = (some r, na, nb, out, g) ∧ Rs lt a b r) ?_ ?_ ⟨Like.refl _, _, _, _, _, rfl, o0, by (first | lia | omega), by (first | lia | omega), by (first | lia | omega), by (first | lia | omega), by (first | lia | omega)⟩) ?_)
  · rintro x c st1 _ hx ⟨lk, na, nb, out, g, rfl, ho, h1, h2, h3, h4, hxx⟩
    try dsimp -zeta only
    refine wpS_bind (wpS_mono (wpS_forRange (I := fun y c st' => Like st st' ∧ ∃ na nb out ac bc, c = (none, na, nb, out, ac, bc) ∧ OutHL lt a b out na nb ∧ 1 ≤ na ∧ na ≤ a.size ∧ 2 ≤ nb ∧ nb ≤ b.size ∧ na + nb + x + 1 + (if y = 0 then 0 else 1) ≤ a.size + b.size)
      (Q := fun c st' => Like st st' ∧ ((∃ r na nb out ac bc, c = (some r, na, nb, out, ac, bc) ∧ Rs lt a b r) ∨ ∃ na nb out ac bc, c = (none, na, nb, out, ac, bc) ∧ OutHL lt a b out na nb ∧ 1 ≤ na ∧ na ≤ a.size ∧ 2 ≤ nb ∧ nb ≤ b.size ∧ na + nb + x + 2 ≤ a.size + b.size)) ?_ ?_ ⟨lk, na, nb, out, 0, 0, rfl, ho, h1, h2, h3, h4, by simp; (first | lia | omega)⟩) ?_)
    · rintro y c st2 _ hy ⟨lk2, na, nb, out, ac, bc, rfl, ho, h1, h2, h3, h4, hxx⟩
      have hxx2 : na + nb + x + 1 ≤ a.size + b.size := by split at hxx <;> (first | lia | omega)
      try dsimp only
      refine wpS_bind (wpS_elem (by (first | lia | omega)) fun p hp ep => ?_)
      refine wpS_bind (wpS_elem (by (first | lia | omega)) fun q hq eq => ?_)
      refine wpS_bind (wpS_ltL hc (lk2.kind.trans hk) (hb p hp) (ha q hq) ?_)
      cases hbw : lt p q with
      | true =>
        try dsimp only
        rw [if_pos rfl]
        refine wpS_bind (wpS_elem (by (first | lia | omega)) fun p2 hp2 ep2 => ?_)
        have o1 := ho.pushA SA h1 ep2 (by rw [some_inj ep2 eq]; exact lastLe o SB (by (first | lia | omega)) ep (o.le_of hbw))
        by_cases d1 : (na - 1 == 0) = true
        · rw [if_pos d1]
          exact wpS_pure ⟨lk2, .inl ⟨_, _, _, _, _, _, rfl, (o1.doneA SB d1)⟩⟩
        rw [if_neg d1]
        have m1 : ¬ na - 1 = 0 := fun e => d1 (by simp [e])
        by_cases d2 : ac + 1 ≥ g
        · rw [if_pos d2]
          exact wpS_pure ⟨lk2, .inr ⟨_, _, _, _, _, rfl, o1, by (first | lia | omega), by (first | lia | omega), h3, h4, by (first | lia | omega)⟩⟩
        · rw [if_neg d2]
          exact wpS_pure ⟨lk2, _, _, _, _, _, rfl, o1, by (first | lia | omega), by (first | lia | omega), h3, h4, by rw [if_neg (by (first | lia | omega))]; (first | lia | omega)⟩
      | false =>
        try dsimp only
        rw [if_neg Bool.false_ne_true]
        refine wpS_bind (wpS_elem (by (first | lia | omega)) fun p2 hp2 ep2 => ?_)
        have o1 := ho.pushB SB (by (first | lia | omega)) ep2 (by rw [some_inj ep2 ep]; exact lastLe o SA h1 eq hbw)
        by_cases d1 : (nb - 1 == 1) = true
        · rw [if_pos d1]
          exact wpS_pure ⟨lk2, .inl ⟨_, _, _, _, _, _, rfl, (o1.firstL SA SB hb0 d1)⟩⟩
        rw [if_neg d1]
        have m1 : ¬ nb - 1 = 1 := fun e => d1 (by simp [e])
        by_cases d2 : bc + 1 ≥ g
        · rw [if_pos d2]
          exact wpS_pure ⟨lk2, .inr ⟨_, _, _, _, _, rfl, o1, h1, h2, by (first | lia | omega), by (first | lia | omega), by (first | lia | omega)⟩⟩
        · rw [if_neg d2]
          exact wpS_pure ⟨lk2, _, _, _, _, _, rfl, o1, h1, h2, by (first | lia | omega), by (first | lia | omega), by rw [if_neg (by (first | lia | omega))]; (first | lia | omega)⟩
    · rintro c st2 ⟨lk2, na, nb, out, ac, bc, rfl, ho, h1, h2, h3, h4, hxx⟩
      refine ⟨lk2, .inr ⟨_, _, _, _, _, rfl, ho, h1, h2, h3, h4, ?_⟩⟩
      rw [if_neg (by (first | lia | omega))] at hxx
      (first | lia | omega)
    · rintro c st2 ⟨lk2, ⟨r, na, nb, out, ac, bc, rfl, hr⟩ | ⟨na, nb, out, ac, bc, rfl, ho, h1, h2, h3, h4, hxx⟩⟩
      · exact wpS_pure ⟨lk2, _, _, _, _, _, rfl, hr⟩
      try dsimp -zeta only
      refine wpS_bind (wpS_lift (wpAny_rule ⟨rfl, ?_⟩))
      try dsimp -zeta only
      refine wpS_bind (wpS_mono (wpS_forRange (I := fun y c st' => Like st st' ∧ ∃ na nb out g ac bc, c = (none, na, nb, out, g, ac, bc) ∧ OutHL lt a b out na nb ∧ 1 ≤ na ∧ na ≤ a.size ∧ 2 ≤ nb ∧ nb ≤ b.size ∧ na + nb + x + 2 ≤ a.size + b.size)
        (Q := fun c st' => Like st st' ∧ ((∃ r na nb out g ac bc, c = (some r, na, nb, out, g, ac, bc) ∧ Rs lt a b r) ∨ ∃ na nb out g ac bc, c = (none, na, nb, out, g, ac, bc) ∧ OutHL lt a b out na nb ∧ 1 ≤ na ∧ na ≤ a.size ∧ 2 ≤ nb ∧ nb ≤ b.size ∧ na + nb + x + 2 ≤ a.size + b.size)) ?_ ?_ ⟨lk2, na, nb, out, _, _, _, rfl, ho, h1, h2, h3, h4, hxx⟩) ?_)
      · rintro y c st3 _ hy ⟨lk3, na, nb, out, g3, ac, bc, rfl, ho, h1, h2, h3, h4, hxx⟩
        try dsimp only
        refine wpS_mono (Q := HiP lt a b st x) ?_ (fun r st' h => by cases r <;> exact h)
        have hiq : ∀ {st4}, Like st st4 → HiQ lt a b st4 (na + nb) (HiP lt a b st x) := fun lk4 => ⟨fun r na nb out g ac bc hr => ⟨lk4, .inl ⟨r, na, nb, out, g, ac, bc, rfl, hr⟩⟩, fun na nb out g ac bc ho h1 h2 h3 h4 hN => ⟨⟨lk4, .inr ⟨na, nb, out, g, ac, bc, rfl, ho, h1, h2, h3, h4, by (first | lia | omega)⟩⟩, ⟨lk4, na, nb, out, g, ac, bc, rfl, ho, h1, h2, h3, h4, by (first | lia | omega)⟩⟩⟩
        by_cases g1 : g3 > 1
        · rw [if_pos g1]
          refine wpS_bind (wpS_modify ?_)
          have lk4 := lk3.trans (like_gallop st3 (g3 - 1))
          refine wpS_bind (wpS_elem (by (first | lia | omega)) fun p0 w0 e0 => ?_)
          refine wpS_bind (wpS_gallopL o hc (lk4.kind.trans hk) (hb p0 w0) ha (by (first | lia | omega)) (by (first | lia | omega)) (up_of SA _ _) fun k hk1 F1 F2 => ?_)
          dsimp only
          by_cases k0 : na - k > 0
          · rw [if_pos k0]
            have o1 := ho.extA SA (k := k) (by (first | lia | omega)) (fun x hx => lastLe o SB (by (first | lia | omega)) e0 (galHA F2 o x hx))
            by_cases c1 : (k == 0) = true
            · rw [if_pos c1]
              exact wpS_pure ⟨lk4, .inl ⟨_, _, _, _, _, _, _, rfl, (o1.doneA SB c1)⟩⟩
            rw [if_neg c1]
            have n1 : ¬ k = 0 := fun e => c1 (by simp [e])
            refine hi2_ok o hc (lk4.kind.trans hk) ha hb hb0 SA SB (N := na + nb) (hiq lk4) o1 (by (first | lia | omega)) (by (first | lia | omega)) h3 h4 (by (first | lia | omega)) (fun p e => by rw [some_inj e e0]; exact galHA1 F1) ?_
            exact fun _ _ => rfl
          · rw [if_neg k0]
            refine hi2_ok o hc (lk4.kind.trans hk) ha hb hb0 SA SB (N := na + nb) (hiq lk4) ho h1 h2 h3 h4 (Nat.le_refl _) (fun p e => by rw [some_inj e e0]; exact galHA1 fun i hi => F1 i (by (first | lia | omega))) ?_
            exact fun _ _ => rfl
        · rw [if_neg g1]
          refine wpS_bind (wpS_modify ?_)
          have lk4 := lk3.trans (like_gallop st3 g3)
          refine wpS_bind (wpS_elem (by (first | lia | omega)) fun p0 w0 e0 => ?_)
          refine wpS_bind (wpS_gallopL o hc (lk4.kind.trans hk) (hb p0 w0) ha (by (first | lia | omega)) (by (first | lia | omega)) (up_of SA _ _) fun k hk1 F1 F2 => ?_)
          dsimp only
          by_cases k0 : na - k > 0
          · rw [if_pos k0]
            have o1 := ho.extA SA (k := k) (by (first | lia | omega)) (fun x hx => lastLe o SB (by (first | lia | omega)) e0 (galHA F2 o x hx))
            by_cases c1 : (k == 0) = true
            · rw [if_pos c1]
              exact wpS_pure ⟨lk4, .inl ⟨_, _, _, _, _, _, _, rfl, (o1.doneA SB c1)⟩⟩
            rw [if_neg c1]
            have n1 : ¬ k = 0 := fun e => c1 (by simp [e])
            refine hi2_ok o hc (lk4.kind.trans hk) ha hb hb0 SA SB (N := na + nb) (hiq lk4) o1 (by (first | lia | omega)) (by (first | lia | omega)) h3 h4 (by (first | lia | omega)) (fun p e => by rw [some_inj e e0]; exact galHA1 F1) ?_
            exact fun _ _ => rfl
          · rw [if_neg k0]
            refine hi2_ok o hc (lk4.kind.trans hk) ha hb hb0 SA SB (N := na + nb) (hiq lk4) ho h1 h2 h3 h4 (Nat.le_refl _) (fun p e => by rw [some_inj e e0]; exact galHA1 fun i hi => F1 i (by (first | lia | omega))) ?_
            exact fun _ _ => rfl
      · rintro c st3 ⟨lk3, na, nb, out, g3, ac, bc, rfl, ho, h1, h2, h3, h4, hxx⟩
        exact ⟨lk3, .inr ⟨_, _, _, _, _, _, rfl, ho, h1, h2, h3, h4, hxx⟩⟩
      · rintro c st3 ⟨lk3, ⟨r, na, nb, out, g3, ac, bc, rfl, hr⟩ | ⟨na, nb, out, g3, ac, bc, rfl, ho, h1, h2, h3, h4, hxx⟩⟩
        · exact wpS_pure ⟨lk3, _, _, _, _, _, rfl, hr⟩
        · try dsimp only
          refine wpS_bind (wpS_modify ?_)
          exact wpS_pure ⟨lk3.trans (like_gallop _ _), _, _, _, _, rfl, ho, h1, h2, h3, h4, by (first | lia | omega)⟩
  · rintro c st1 ⟨lk, na, nb, out, g, rfl, ho, h1, h2, h3, h4, hx⟩
    exfalso
    (first | lia | omega)
  · rintro c st1 ⟨lk, r, na, nb, out, g, rfl, hr⟩
    exact wpS_pure (h r st1 lk hr)
end
end Srd

namespace Srd
open PySem PyProof.Rows Srt
/-- all but this piece is as it was -/
structure Pl (lo hi : Nat) (st st' : SortSt) : Prop where
  pm : Pm st st'
  out : ∀ i, i < lo ∨ hi ≤ i → (arrOf st')[i]? = (arrOf st)[i]?
theorem Pl.refl (lo hi : Nat) (st : SortSt) : Pl lo hi st st := ⟨Pm.refl _, fun _ _ => rfl⟩
theorem Pl.trans {lo hi : Nat} {a b c : SortSt} (x : Pl lo hi a b) (y : Pl lo hi b c) : Pl lo hi a c := ⟨x.pm.trans y.pm, fun i h => (y.out i h).trans (x.out i h)⟩
theorem Pl.mirror {lo hi i j : Nat} (st : SortSt) (h1 : lo ≤ i) (h2 : j ≤ hi) (hj : j ≤ (arrOf st).size) : Pl lo hi st (setArr st (mirror (arrOf st) i j ((j - i) / 2))) := ⟨Pm.mirror st i j, fun k hk => by
  show (PyProof.Rows.mirror (arrOf st) i j ((j - i) / 2))[k]? = _
  rw [getElem?_mirror_all hj, if_neg (by (first | lia | omega))]⟩
theorem Pl.bubble {lo hi src dst : Nat} (st : SortSt) (h1 : lo ≤ dst) (h2 : dst ≤ src) (h3 : src < hi) (hs : src < (arrOf st).size) : Pl lo hi st (setArr st (bubble (arrOf st) src (src - dst))) := ⟨Pm.bubble st src dst, fun k hk => by
  show (PyProof.Rows.bubble (arrOf st) src (src - dst))[k]? = _
  rw [getElem?_bubble hs _ (by (first | lia | omega)), if_neg (by (first | lia | omega)), if_neg (by (first | lia | omega))]⟩
section
variable {lt : Keyed → Keyed → Bool} {arr : Array Keyed} {lo hi m : Nat} {p q : Keyed}
/-- this piece falls -/
def Dn (lt : Keyed → Keyed → Bool) (arr : Array Keyed) (i j : Nat) : Prop := ∀ x y p q, i ≤ x → x < y → y < j → arr[x]? = some p → arr[y]? = some q → Le lt q p
/-- this piece is all alike -/
def Eqv (lt : Keyed → Keyed → Bool) (arr : Array Keyed) (i j : Nat) : Prop := ∀ x y p q, i ≤ x → x < j → i ≤ y → y < j → arr[x]? = some p → arr[y]? = some q → Le lt p q
theorem up_one : Up lt arr lo (lo + 1) := fun x y _ _ h1 h2 h3 => by (first | lia | omega)
theorem dn_one : Dn lt arr lo (lo + 1) := fun x y _ _ h1 h2 h3 => by (first | lia | omega)
theorem Up.ext (o : Swo lt) (h : Up lt arr lo m) (hm : lo < m) (hp : arr[m - 1]? = some p) (hq : arr[m]? = some q) (hle : Le lt p q) : Up lt arr lo (m + 1) := fun x y u v h1 h2 h3 eu ev => by
  by_cases hy : y < m
  · exact h x y u v h1 h2 hy eu ev
  obtain rfl : y = m := by (first | lia | omega)
  rw [hq] at ev
  cases ev
  by_cases hx : x = y - 1
  · rw [hx, hp] at eu
    cases eu
    exact hle
  · exact o.le_trans (h x (y - 1) u p h1 (by (first | lia | omega)) (by (first | lia | omega)) eu hp) hle
theorem Dn.ext (o : Swo lt) (h : Dn lt arr lo m) (hm : lo < m) (hp : arr[m - 1]? = some p) (hq : arr[m]? = some q) (hle : Le lt q p) : Dn lt arr lo (m + 1) := fun x y u v h1 h2 h3 eu ev => by
  by_cases hy : y < m
  · exact h x y u v h1 h2 hy eu ev
  obtain rfl : y = m := by (first | lia | omega)
  rw [hq] at ev
  cases ev
  by_cases hx : x = y - 1
  · rw [hx, hp] at eu
    cases eu
    exact hle
  · exact o.le_trans hle (h x (y - 1) u p h1 (by (first | lia | omega)) (by (first | lia | omega)) eu hp)
theorem Dn.mirror (h : Dn lt arr lo hi) (hs : hi ≤ arr.size) : Up lt (mirror arr lo hi ((hi - lo) / 2)) lo hi := fun x y u v h1 h2 h3 eu ev => by
  rw [getElem?_mirror_all hs, if_pos (by (first | lia | omega))] at eu ev
  exact h (lo + hi - 1 - y) (lo + hi - 1 - x) v u (by (first | lia | omega)) (by (first | lia | omega)) (by (first | lia | omega)) ev eu
theorem Up.mirror (h : Up lt arr lo hi) (hs : hi ≤ arr.size) : Dn lt (mirror arr lo hi ((hi - lo) / 2)) lo hi := fun x y u v h1 h2 h3 eu ev => by
  rw [getElem?_mirror_all hs, if_pos (by (first | lia | omega))] at eu ev
  exact h (lo + hi - 1 - y) (lo + hi - 1 - x) v u (by (first | lia | omega)) (by (first | lia | omega)) (by (first | lia | omega)) ev eu
/-- the alike ones turned round -/
theorem Dn.turn (h : Dn lt arr lo hi) (he : Eqv lt arr m hi) (hm : lo ≤ m) (hs : hi ≤ arr.size) : Dn lt (PyProof.Rows.mirror arr m hi ((hi - m) / 2)) lo hi := fun x y u v h1 h2 h3 eu ev => by
  rw [getElem?_mirror_all hs] at eu ev
  by_cases hy : m ≤ y ∧ y < hi
  · rw [if_pos hy] at ev
    by_cases hx : m ≤ x ∧ x < hi
    · rw [if_pos hx] at eu
      exact he _ _ _ _ (by (first | lia | omega)) (by (first | lia | omega)) (by (first | lia | omega)) (by (first | lia | omega)) ev eu
    · rw [if_neg hx] at eu
      exact h x (m + hi - 1 - y) u v h1 (by (first | lia | omega)) (by (first | lia | omega)) eu ev
  · rw [if_neg hy] at ev
    rw [if_neg (by (first | lia | omega))] at eu
    exact h x y u v h1 h2 h3 eu ev
end
section
variable {prog : Program} {w : World} {A : Around} {E : Value → Shared → Prop} {s : Shared} {κ : SortKind} {Ok : Keyed → Prop} {st : SortSt} {lt : Keyed → Keyed → Bool}
theorem wpS_ltAtL {i j : Nat} {Q : Option Bool → SortSt → Prop} (hc : CmpL prog w A s κ Ok lt) (hk : kindOf st = κ) (ho : ∀ p ∈ (arrOf st).toList, Ok p) (hi : i < (arrOf st).size) (hj : j < (arrOf st).size) (h : ∀ p q, (arrOf st)[i]? = some p → (arrOf st)[j]? = some q → Q (some (lt p q)) st) : wpS (model prog w) A E s (ltAt' i j) Q st := by
  rw [ltAt'_eq]
  refine wpS_bind (wpS_get ?_)
  refine wpS_bind (wpS_elem hi fun p hp e1 => wpS_bind (wpS_elem hj fun q hq e2 => ?_))
  exact wpS_ltL hc hk (ho p hp) (ho q hq) (h p q e1 e2)
theorem wpS_revX {i j : Nat} {Q : PUnit → SortSt → Prop} (h : Q ⟨⟩ (setArr st (mirror (arrOf st) i j ((j - i) / 2)))) : wpS (model prog w) A E s (reverseSlice' i j) Q st := by
  rw [reverseSlice'_eq]
  exact wpS_modify h
theorem wpS_moveX {i j : Nat} {Q : PUnit → SortSt → Prop} (h : Q ⟨⟩ (setArr st (bubble (arrOf st) i (i - j)))) : wpS (model prog w) A E s (moveDown' i j) Q st := by
  rw [moveDown'_eq]
  exact wpS_modify h
/-- put in at its place -/
theorem ins_up (o : Swo lt) {arr : Array Keyed} {lo k l : Nat} {pv : Keyed} (h : Up lt arr lo (lo + k)) (hs : lo + k < arr.size) (hl : l ≤ k) (ep : arr[lo + k]? = some pv) (h1 : ∀ i p, i < l → arr[lo + i]? = some p → Le lt p pv) (h2 : ∀ i p, l ≤ i → i < k → arr[lo + i]? = some p → lt pv p = true) :
    Up lt (bubble arr (lo + k) (lo + k - (lo + l))) lo (lo + k + 1) := fun x y u v a1 a2 a3 eu ev => by
  rw [getElem?_bubble hs _ (by (first | lia | omega))] at eu ev
  rw [show lo + k - (lo + k - (lo + l)) = lo + l by (first | lia | omega)] at eu ev
  by_cases hy : y = lo + l
  · rw [if_pos hy, ep] at ev
    cases ev
    rw [if_neg (by (first | lia | omega)), if_neg (by (first | lia | omega))] at eu
    exact h1 (x - lo) u (by (first | lia | omega)) (by rw [show lo + (x - lo) = x by (first | lia | omega)]; exact eu)
  rw [if_neg hy] at ev
  by_cases hx : x = lo + l
  · rw [if_pos hx, ep] at eu
    cases eu
    rw [if_pos (by (first | lia | omega))] at ev
    exact o.le_of (h2 (y - 1 - lo) v (by (first | lia | omega)) (by (first | lia | omega)) (by rw [show lo + (y - 1 - lo) = y - 1 by (first | lia | omega)]; exact ev))
  rw [if_neg hx] at eu
  by_cases hy2 : lo + l < y ∧ y ≤ lo + k
  · rw [if_pos hy2] at ev
    by_cases hx2 : lo + l < x ∧ x ≤ lo + k
    · rw [if_pos hx2] at eu
      exact h (x - 1) (y - 1) u v (by (first | lia | omega)) (by (first | lia | omega)) (by (first | lia | omega)) eu ev
    · rw [if_neg hx2] at eu
      exact h x (y - 1) u v (by (first | lia | omega)) (by (first | lia | omega)) (by (first | lia | omega)) eu ev
  · rw [if_neg hy2] at ev
    rw [if_neg (by (first | lia | omega))] at eu
    exact h x y u v (by (first | lia | omega)) (by (first | lia | omega)) (by (first | lia | omega)) eu ev
set_option maxHeartbeats 1000000 in
theorem wpS_binaryL {lo n ok : Nat} {Q : Bool → SortSt → Prop} (o : Swo lt) (hc : CmpL prog w A s κ Ok lt) (hk : kindOf st = κ) (ho : ∀ p ∈ (arrOf st).toList, Ok p) (hn : lo + n ≤ (arrOf st).size) (hok : ok ≤ n) (hn1 : 1 ≤ n) (hu : Up lt (arrOf st) lo (lo + ok)) (h : ∀ st', Pl lo (lo + n) st st' → Up lt (arrOf st') lo (lo + n) → Q true st') : wpS (model prog w) A E s (binarySort' lo n ok) Q st := by
  have hu0 : Up lt (arrOf st) lo (lo + max ok 1) := by
    by_cases h0 : ok = 0
    · rw [h0]
      exact up_one
    · rw [show max ok 1 = ok by (first | lia | omega)]
      exact hu
  refine wpS_bind (wpS_mono (wpS_forRange (I := fun x c st' => c = (none, ()) ∧ Pl lo (lo + n) st st' ∧ Up lt (arrOf st') lo (lo + x)) (Q := fun c st' => c = (none, ()) ∧ Pl lo (lo + n) st st' ∧ Up lt (arrOf st') lo (lo + n)) ?_ ?_ ⟨rfl, Pl.refl _ _ _, hu0⟩) ?_)
  · rintro k c st1 hk1 hkn ⟨rfl, pl, u1⟩
    try dsimp only
    have hsz := pl.pm.size
    obtain ⟨pv, epv⟩ : ∃ pv, (arrOf st1)[lo + k]? = some pv := ⟨_, getElem?_pos _ (lo + k) (by (first | lia | omega))⟩
    refine wpS_bind (wpS_mono (wpS_forRange (I := fun y c st' => st' = st1 ∧ ∃ l r, c = (none, l, r) ∧ l ≤ r ∧ r ≤ k ∧ (∀ i p, i < l → (arrOf st1)[lo + i]? = some p → Le lt p pv) ∧ (∀ i p, r ≤ i → i < k → (arrOf st1)[lo + i]? = some p → lt pv p = true) ∧ r - l + y ≤ k)
      (Q := fun c st' => st' = st1 ∧ ∃ l r, c = (none, l, r) ∧ l = r ∧ r ≤ k ∧ (∀ i p, i < l → (arrOf st1)[lo + i]? = some p → Le lt p pv) ∧ (∀ i p, r ≤ i → i < k → (arrOf st1)[lo + i]? = some p → lt pv p = true)) ?_ ?_ ⟨rfl, 0, k, rfl, by (first | lia | omega), by (first | lia | omega), fun i p hi => by (first | lia | omega), fun i p h1 h2 => by (first | lia | omega), by (first | lia | omega)⟩) ?_)
    · rintro y c st2 _ _ ⟨rfl, l, r, rfl, h1, h2, h3, h4, h5⟩
      try dsimp only
      by_cases hlr : l ≥ r
      · rw [if_pos hlr]
        exact wpS_pure ⟨rfl, l, r, rfl, by (first | lia | omega), h2, h3, h4⟩
      rw [if_neg hlr]
      refine wpS_bind (wpS_ltAtL hc (pl.pm.kind.trans hk) (pl.pm.ok ho) (by (first | lia | omega)) (by (first | lia | omega)) fun p q e1 e2 => ?_)
      rw [epv] at e1
      cases e1
      cases hb : lt pv q with
      | true =>
        refine wpS_pure ⟨rfl, _, _, rfl, by (first | lia | omega), by (first | lia | omega), h3, fun i p hi1 hi2 ei => ?_, by (first | lia | omega)⟩
        by_cases e : i = (l + r) / 2
        · rw [e, e2] at ei
          cases ei
          exact hb
        · exact o.lt_le hb (u1 _ _ q p (by (first | lia | omega)) (show lo + (l + r) / 2 < lo + i by (first | lia | omega)) (by (first | lia | omega)) e2 ei)
      | false =>
        refine wpS_pure ⟨rfl, _, _, rfl, by (first | lia | omega), by (first | lia | omega), fun i p hi1 ei => ?_, h4, by (first | lia | omega)⟩
        by_cases e : i = (l + r) / 2
        · rw [e, e2] at ei
          cases ei
          exact hb
        · exact o.le_trans (u1 _ _ p q (by (first | lia | omega)) (show lo + i < lo + (l + r) / 2 by (first | lia | omega)) (by (first | lia | omega)) ei e2) hb
    · rintro c st2 ⟨rfl, l, r, rfl, h1, h2, h3, h4, h5⟩
      exact ⟨rfl, l, r, rfl, by (first | lia | omega), h2, h3, h4⟩
    · rintro c st2 ⟨rfl, l, r, rfl, rfl, h2, h3, h4⟩
      try dsimp only
      refine wpS_bind (wpS_moveX ?_)
      exact wpS_pure ⟨rfl, pl.trans (Pl.bubble st2 (by (first | lia | omega)) (by (first | lia | omega)) (by (first | lia | omega)) (by (first | lia | omega))), ins_up o u1 (by (first | lia | omega)) h2 epv h3 h4⟩
  · rintro c st1 ⟨rfl, pl, u1⟩
    rw [show max (max ok 1) n = n by (first | lia | omega)] at u1
    exact ⟨rfl, pl, u1⟩
  · rintro c st1 ⟨rfl, pl, u1⟩
    exact wpS_pure (h st1 pl u1)
set_option maxHeartbeats 4000000 in
theorem wpS_countL {lo nrem : Nat} {Q : Option Nat → SortSt → Prop} (o : Swo lt) (hc : CmpL prog w A s κ Ok lt) (hk : kindOf st = κ) (ho : ∀ p ∈ (arrOf st).toList, Ok p) (h1 : 1 ≤ nrem) (hn : lo + nrem ≤ (arrOf st).size) (h : ∀ n st', 1 ≤ n → n ≤ nrem → Pl lo (lo + nrem) st st' → Up lt (arrOf st') lo (lo + n) → Q (some n) st') : wpS (model prog w) A E s (countRun' lo nrem) Q st := by
  refine wpS_bind (wpS_mono (wpS_forRange (I := fun x c st' => st' = st ∧ ∃ n, c = (none, n) ∧ n = x ∧ Up lt (arrOf st) lo (lo + n)) (Q := fun c st' => st' = st ∧ ∃ n, c = (none, n) ∧ 1 ≤ n ∧ n ≤ nrem ∧ Up lt (arrOf st) lo (lo + n) ∧ (n = nrem ∨ ∀ p q, (arrOf st)[lo + n]? = some p → (arrOf st)[lo + n - 1]? = some q → lt p q = true)) ?_ ?_ ⟨rfl, 1, rfl, rfl, up_one⟩) ?_)
  · rintro x c st1 hx1 hx ⟨rfl, n, rfl, rfl, u1⟩
    try dsimp only
    refine wpS_bind (wpS_ltAtL hc hk ho (by (first | lia | omega)) (by (first | lia | omega)) fun p q e1 e2 => ?_)
    cases hb : lt p q with
    | true => exact wpS_pure ⟨rfl, n, rfl, by (first | lia | omega), by (first | lia | omega), u1, .inr fun p' q' f1 f2 => by rw [e1] at f1; rw [e2] at f2; cases f1; cases f2; exact hb⟩
    | false => exact wpS_pure ⟨rfl, n + 1, rfl, rfl, u1.ext (m := lo + n) o (by (first | lia | omega)) e2 e1 hb⟩
  · rintro c st1 ⟨rfl, n, rfl, rfl, u1⟩
    exact ⟨rfl, _, rfl, by (first | lia | omega), by (first | lia | omega), u1, .inl (by (first | lia | omega))⟩
  · rintro c st1 ⟨rfl, n, rfl, n1, n2, u1, hstop⟩
    try dsimp only
    by_cases e1 : (n == nrem) = true
    · rw [if_pos e1]
      exact wpS_pure (h n st1 n1 n2 (Pl.refl _ _ _) u1)
    rw [if_neg e1]
    have n3 : n < nrem := by
      have : ¬ n = nrem := fun e => e1 (by simp [e])
      (first | lia | omega)
    have hstop2 := hstop.resolve_left (by (first | lia | omega))
    obtain ⟨pn, epn⟩ : ∃ p, (arrOf st1)[lo + n]? = some p := ⟨_, getElem?_pos _ (lo + n) (by (first | lia | omega))⟩
    obtain ⟨pm, epm⟩ : ∃ p, (arrOf st1)[lo + n - 1]? = some p := ⟨_, getElem?_pos _ (lo + n - 1) (by (first | lia | omega))⟩
    have hless := hstop2 pn pm epn epm
    by_cases e2 : n > 1
    · rw [if_pos e2]
      refine wpS_bind (wpS_ltAtL hc hk ho (by (first | lia | omega)) (by (first | lia | omega)) fun p q f1 f2 => ?_)
      cases hb : lt p q with
      | true =>
        try dsimp only
        rw [if_pos rfl]
        exact wpS_pure (h n st1 n1 n2 (Pl.refl _ _ _) u1)
      | false =>
        try dsimp only
        rw [if_neg Bool.false_ne_true]
        refine wpS_bind (wpS_revX ?_)
        have p2 := Pl.mirror (lo := lo) (hi := lo + nrem) (i := lo) (j := lo + n) st1 (by (first | lia | omega)) (by (first | lia | omega)) (by (first | lia | omega))
        have d2 : Dn lt (arrOf (setArr st1 (mirror (arrOf st1) lo (lo + n) ((lo + n - lo) / 2)))) lo (lo + n) := u1.mirror (by (first | lia | omega))
        have d3 : Dn lt (arrOf (setArr st1 (mirror (arrOf st1) lo (lo + n) ((lo + n - lo) / 2)))) lo (lo + (n + 1)) := by
          refine d2.ext (m := lo + n) o (by (first | lia | omega)) (p := p) (q := pn) ?_ ?_ ?_
          · show (mirror (arrOf st1) lo (lo + n) ((lo + n - lo) / 2))[lo + n - 1]? = some p
            rw [getElem?_mirror_all (by (first | lia | omega)), if_pos (by (first | lia | omega)), show lo + (lo + n) - 1 - (lo + n - 1) = lo by (first | lia | omega)]
            exact f1
          · show (mirror (arrOf st1) lo (lo + n) ((lo + n - lo) / 2))[lo + n]? = some pn
            rw [getElem?_mirror_all (by (first | lia | omega)), if_neg (by (first | lia | omega))]
            exact epn
          · rw [epm] at f2
            cases f2
            exact o.le_trans (o.le_of hless) hb
        generalize setArr st1 (mirror (arrOf st1) lo (lo + n) ((lo + n - lo) / 2)) = st2 at p2 d3
        refine wpS_bind (wpS_lift (wpAny_rule ⟨rfl, ?_⟩))
        refine wpS_bind (wpS_mono (wpS_forRange (I := fun x c st' => Pl lo (lo + nrem) st1 st' ∧ ∃ n q, c = (none, n, q) ∧ n = x ∧ 1 ≤ n ∧ q + 1 ≤ n ∧ Dn lt (arrOf st') lo (lo + n) ∧ Eqv lt (arrOf st') (lo + n - (q + 1)) (lo + n)) (Q := fun c st' => Pl lo (lo + nrem) st1 st' ∧ ∃ n q, c = (none, n, q) ∧ 1 ≤ n ∧ n ≤ nrem ∧ q + 1 ≤ n ∧ Dn lt (arrOf st') lo (lo + n) ∧ Eqv lt (arrOf st') (lo + n - (q + 1)) (lo + n)) ?_ ?_ ⟨p2, n + 1, 0, rfl, rfl, by (first | lia | omega), by (first | lia | omega), d3, fun x y u v a1 a2 a3 a4 eu ev => by obtain rfl : x = y := (by (first | lia | omega)); rw [eu] at ev; cases ev; exact o.le_refl _⟩) ?_)
        · rintro x c st3 hx1 hx ⟨p3, n, q, rfl, rfl, m1, m2, d3, q3⟩
          have z3 := p3.pm.size
          try dsimp only
          refine wpS_bind (wpS_ltAtL hc (p3.pm.kind.trans hk) (p3.pm.ok ho) (by (first | lia | omega)) (by (first | lia | omega)) fun p1 p0 e1 e0 => ?_)
          cases hb : lt p1 p0 with
          | true =>
            try dsimp only
            rw [if_pos rfl]
            by_cases q0 : q > 0
            · rw [if_pos q0]
              refine wpS_bind (wpS_revX ?_)
              have p4 := Pl.mirror (lo := lo) (hi := lo + nrem) (i := lo + n - (q + 1)) (j := lo + n) st3 (by (first | lia | omega)) (by (first | lia | omega)) (by (first | lia | omega))
              have d4 := d3.turn q3 (by (first | lia | omega)) (by (first | lia | omega))
              refine wpS_pure ⟨p3.trans p4, n + 1, 0, rfl, rfl, by (first | lia | omega), by (first | lia | omega), ?_, fun x y u v a1 a2 a3 a4 eu ev => by obtain rfl : x = y := (by (first | lia | omega)); rw [eu] at ev; cases ev; exact o.le_refl _⟩
              obtain ⟨p5, e5⟩ : ∃ p5, (arrOf (setArr st3 (mirror (arrOf st3) (lo + n - (q + 1)) (lo + n) ((lo + n - (lo + n - (q + 1))) / 2))))[lo + n - 1]? = some p5 := ⟨_, getElem?_pos _ (lo + n - 1) (by show _ < (mirror _ _ _ _).size; rw [mirror_size]; (first | lia | omega))⟩
              refine d4.ext (m := lo + n) o (by (first | lia | omega)) e5 (q := p1) ?_ ?_
              · show (mirror (arrOf st3) (lo + n - (q + 1)) (lo + n) ((lo + n - (lo + n - (q + 1))) / 2))[lo + n]? = some p1
                rw [getElem?_mirror_all (by (first | lia | omega)), if_neg (by (first | lia | omega))]
                exact e1
              · have e6 : (mirror (arrOf st3) (lo + n - (q + 1)) (lo + n) ((lo + n - (lo + n - (q + 1))) / 2))[lo + n - 1]? = some p5 := e5
                rw [getElem?_mirror_all (by (first | lia | omega)), if_pos (by (first | lia | omega))] at e6
                exact o.le_trans (o.le_of hb) (q3 _ _ p0 p5 (show lo + n - (q + 1) ≤ lo + n - 1 by (first | lia | omega)) (by (first | lia | omega)) (by (first | lia | omega)) (by (first | lia | omega)) e0 e6)
            · rw [if_neg q0]
              exact wpS_pure ⟨p3, n + 1, 0, rfl, rfl, by (first | lia | omega), by (first | lia | omega), d3.ext (m := lo + n) o (by (first | lia | omega)) e0 e1 (o.le_of hb), fun x y u v a1 a2 a3 a4 eu ev => by obtain rfl : x = y := (by (first | lia | omega)); rw [eu] at ev; cases ev; exact o.le_refl _⟩
          | false =>
            try dsimp only
            rw [if_neg Bool.false_ne_true]
            refine wpS_bind (wpS_ltAtL hc (p3.pm.kind.trans hk) (p3.pm.ok ho) (by (first | lia | omega)) (by (first | lia | omega)) fun p0' p1' e0' e1' => ?_)
            rw [e0] at e0'
            rw [e1] at e1'
            cases e0'
            cases e1'
            cases hb2 : lt p0 p1 with
            | true => exact wpS_pure ⟨p3, n, q, rfl, m1, by (first | lia | omega), m2, d3, q3⟩
            | false =>
              refine wpS_pure ⟨p3, n + 1, q + 1, rfl, rfl, by (first | lia | omega), by (first | lia | omega), d3.ext (m := lo + n) o (by (first | lia | omega)) e0 e1 hb2, fun x y u v a1 a2 a3 a4 eu ev => ?_⟩
              -- p0 and p1 alike
              have one : ∀ x u, lo + (n + 1) - (q + 1 + 1) ≤ x → x < lo + (n + 1) → (arrOf st3)[x]? = some u → Le lt u p0 ∧ Le lt p0 u := fun x u a1 a2 eu => by
                by_cases hx : x = lo + n
                · rw [hx, e1] at eu
                  cases eu
                  exact ⟨hb2, hb⟩
                · exact ⟨q3 x (lo + n - 1) u p0 (by (first | lia | omega)) (by (first | lia | omega)) (by (first | lia | omega)) (by (first | lia | omega)) eu e0, q3 (lo + n - 1) x p0 u (by (first | lia | omega)) (by (first | lia | omega)) (by (first | lia | omega)) (by (first | lia | omega)) e0 eu⟩
              exact o.le_trans (one x u a1 a2 eu).1 (one y v a3 a4 ev).2
        · rintro c st3 ⟨p3, n', q, rfl, rfl, m1, m2, d3, q3⟩
          exact ⟨p3, _, q, rfl, m1, by (first | lia | omega), m2, d3, q3⟩
        · rintro c st3 ⟨p3, n, q, rfl, m1, mn, m2, d3, q3⟩
          have z3 := p3.pm.size
          try dsimp only
          by_cases q0 : q > 0
          · rw [if_pos q0]
            refine wpS_bind (wpS_revX ?_)
            have p4 := Pl.mirror (lo := lo) (hi := lo + nrem) (i := lo + n - (q + 1)) (j := lo + n) st3 (by (first | lia | omega)) (by (first | lia | omega)) (by (first | lia | omega))
            have d4 := d3.turn q3 (by (first | lia | omega)) (by (first | lia | omega))
            have z4 := p4.pm.size
            generalize hst4 : setArr st3 (mirror (arrOf st3) (lo + n - (q + 1)) (lo + n) ((lo + n - (lo + n - (q + 1))) / 2)) = st4 at p4 z4
            have d5 : Dn lt (arrOf st4) lo (lo + n) := by rw [← hst4]; exact d4
            refine wpS_bind (wpS_revX ?_)
            have p6 := (p3.trans p4).trans (Pl.mirror (lo := lo) (hi := lo + nrem) (i := lo) (j := lo + n) st4 (by (first | lia | omega)) (by (first | lia | omega)) (by (first | lia | omega)))
            have u6 : Up lt (arrOf (setArr st4 (mirror (arrOf st4) lo (lo + n) ((lo + n - lo) / 2)))) lo (lo + n) := d5.mirror (by (first | lia | omega))
            have z6 := p6.pm.size
            generalize setArr st4 (mirror (arrOf st4) lo (lo + n) ((lo + n - lo) / 2)) = st5 at p6 u6 z6
            refine wpS_bind (wpS_mono (wpS_forRange (I := fun x c st' => st' = st5 ∧ ∃ k, c = (none, k) ∧ k = x ∧ Up lt (arrOf st5) lo (lo + k)) (Q := fun c st' => st' = st5 ∧ ∃ k, c = (none, k) ∧ n ≤ k ∧ k ≤ nrem ∧ Up lt (arrOf st5) lo (lo + k)) ?_ ?_ ⟨rfl, n, rfl, rfl, u6⟩) ?_)
            · rintro x c st7 hx1 hx2 ⟨rfl, k, rfl, rfl, u7⟩
              try dsimp only
              refine wpS_bind (wpS_ltAtL hc (p6.pm.kind.trans hk) (p6.pm.ok ho) (by (first | lia | omega)) (by (first | lia | omega)) fun p q e1 e2 => ?_)
              cases hb : lt p q with
              | true => exact wpS_pure ⟨rfl, k, rfl, by (first | lia | omega), by (first | lia | omega), u7⟩
              | false => exact wpS_pure ⟨rfl, k + 1, rfl, rfl, u7.ext (m := lo + k) o (by (first | lia | omega)) e2 e1 hb⟩
            · rintro c st7 ⟨rfl, k, rfl, rfl, u7⟩
              exact ⟨rfl, max n nrem, rfl, by (first | lia | omega), by (first | lia | omega), u7⟩
            · rintro c st7 ⟨rfl, k, rfl, k1, k2, u7⟩
              exact wpS_pure (h k _ (by (first | lia | omega)) k2 p6 u7)
          · rw [if_neg q0]
            refine wpS_bind (wpS_revX ?_)
            have p6 := p3.trans (Pl.mirror (lo := lo) (hi := lo + nrem) (i := lo) (j := lo + n) st3 (by (first | lia | omega)) (by (first | lia | omega)) (by (first | lia | omega)))
            have u6 : Up lt (arrOf (setArr st3 (mirror (arrOf st3) lo (lo + n) ((lo + n - lo) / 2)))) lo (lo + n) := d3.mirror (by (first | lia | omega))
            have z6 := p6.pm.size
            generalize setArr st3 (mirror (arrOf st3) lo (lo + n) ((lo + n - lo) / 2)) = st5 at p6 u6 z6
            refine wpS_bind (wpS_mono (wpS_forRange (I := fun x c st' => st' = st5 ∧ ∃ k, c = (none, k) ∧ k = x ∧ Up lt (arrOf st5) lo (lo + k)) (Q := fun c st' => st' = st5 ∧ ∃ k, c = (none, k) ∧ n ≤ k ∧ k ≤ nrem ∧ Up lt (arrOf st5) lo (lo + k)) ?_ ?_ ⟨rfl, n, rfl, rfl, u6⟩) ?_)
            · rintro x c st7 hx1 hx2 ⟨rfl, k, rfl, rfl, u7⟩
              try dsimp only
              refine wpS_bind (wpS_ltAtL hc (p6.pm.kind.trans hk) (p6.pm.ok ho) (by (first | lia | omega)) (by (first | lia | omega)) fun p q e1 e2 => ?_)
              cases hb : lt p q with
              | true => exact wpS_pure ⟨rfl, k, rfl, by (first | lia | omega), by (first | lia | omega), u7⟩
              | false => exact wpS_pure ⟨rfl, k + 1, rfl, rfl, u7.ext (m := lo + k) o (by (first | lia | omega)) e2 e1 hb⟩
            · rintro c st7 ⟨rfl, k, rfl, rfl, u7⟩
              exact ⟨rfl, max n nrem, rfl, by (first | lia | omega), by (first | lia | omega), u7⟩
            · rintro c st7 ⟨rfl, k, rfl, k1, k2, u7⟩
              exact wpS_pure (h k _ (by (first | lia | omega)) k2 p6 u7)
    · rw [if_neg e2]
      have p2 := Pl.refl lo (lo + nrem) st1
      have d3 : Dn lt (arrOf st1) lo (lo + (n + 1)) := by
        obtain rfl : n = 1 := by (first | lia | omega)
        exact dn_one.ext (m := lo + 1) o (by (first | lia | omega)) epm epn (o.le_of hless)
      refine wpS_bind (wpS_lift (wpAny_rule ⟨rfl, ?_⟩))
      refine wpS_bind (wpS_mono (wpS_forRange (I := fun x c st' => Pl lo (lo + nrem) st1 st' ∧ ∃ n q, c = (none, n, q) ∧ n = x ∧ 1 ≤ n ∧ q + 1 ≤ n ∧ Dn lt (arrOf st') lo (lo + n) ∧ Eqv lt (arrOf st') (lo + n - (q + 1)) (lo + n)) (Q := fun c st' => Pl lo (lo + nrem) st1 st' ∧ ∃ n q, c = (none, n, q) ∧ 1 ≤ n ∧ n ≤ nrem ∧ q + 1 ≤ n ∧ Dn lt (arrOf st') lo (lo + n) ∧ Eqv lt (arrOf st') (lo + n - (q + 1)) (lo + n)) ?_ ?_ ⟨p2, n + 1, 0, rfl, rfl, by (first | lia | omega), by (first | lia | omega), d3, fun x y u v a1 a2 a3 a4 eu ev => by obtain rfl : x = y := (by (first | lia | omega)); rw [eu] at ev; cases ev; exact o.le_refl _⟩) ?_)
      · rintro x c st3 hx1 hx ⟨p3, n, q, rfl, rfl, m1, m2, d3, q3⟩
        have z3 := p3.pm.size
        try dsimp only
        refine wpS_bind (wpS_ltAtL hc (p3.pm.kind.trans hk) (p3.pm.ok ho) (by (first | lia | omega)) (by (first | lia | omega)) fun p1 p0 e1 e0 => ?_)
        cases hb : lt p1 p0 with
        | true =>
          try dsimp only
          rw [if_pos rfl]
          by_cases q0 : q > 0
          · rw [if_pos q0]
            refine wpS_bind (wpS_revX ?_)
            have p4 := Pl.mirror (lo := lo) (hi := lo + nrem) (i := lo + n - (q + 1)) (j := lo + n) st3 (by (first | lia | omega)) (by (first | lia | omega)) (by (first | lia | omega))
            have d4 := d3.turn q3 (by (first | lia | omega)) (by (first | lia | omega))
            refine wpS_pure ⟨p3.trans p4, n + 1, 0, rfl, rfl, by (first | lia | omega), by (first | lia | omega), ?_, fun x y u v a1 a2 a3 a4 eu ev => by obtain rfl : x = y := (by (first | lia | omega)); rw [eu] at ev; cases ev; exact o.le_refl _⟩
            obtain ⟨p5, e5⟩ : ∃ p5, (arrOf (setArr st3 (mirror (arrOf st3) (lo + n - (q + 1)) (lo + n) ((lo + n - (lo + n - (q + 1))) / 2))))[lo + n - 1]? = some p5 := ⟨_, getElem?_pos _ (lo + n - 1) (by show _ < (mirror _ _ _ _).size; rw [mirror_size]; (first | lia | omega))⟩
            refine d4.ext (m := lo + n) o (by (first | lia | omega)) e5 (q := p1) ?_ ?_
            · show (mirror (arrOf st3) (lo + n - (q + 1)) (lo + n) ((lo + n - (lo + n - (q + 1))) / 2))[lo + n]? = some p1
              rw [getElem?_mirror_all (by (first | lia | omega)), if_neg (by (first | lia | omega))]
              exact e1
            · have e6 : (mirror (arrOf st3) (lo + n - (q + 1)) (lo + n) ((lo + n - (lo + n - (q + 1))) / 2))[lo + n - 1]? = some p5 := e5
              rw [getElem?_mirror_all (by (first | lia | omega)), if_pos (by (first | lia | omega))] at e6
              exact o.le_trans (o.le_of hb) (q3 _ _ p0 p5 (show lo + n - (q + 1) ≤ lo + n - 1 by (first | lia | omega)) (by (first | lia | omega)) (by (first | lia | omega)) (by (first | lia | omega)) e0 e6)
          · rw [if_neg q0]
            exact wpS_pure ⟨p3, n + 1, 0, rfl, rfl, by (first | lia | omega), by (first | lia | omega), d3.ext (m := lo + n) o (by (first | lia | omega)) e0 e1 (o.le_of hb), fun x y u v a1 a2 a3 a4 eu ev => by obtain rfl : x = y := (by (first | lia | omega)); rw [eu] at ev; cases ev; exact o.le_refl _⟩
        | false =>
          try dsimp only
          rw [if_neg Bool.false_ne_true]
          refine wpS_bind (wpS_ltAtL hc (p3.pm.kind.trans hk) (p3.pm.ok ho) (by (first | lia | omega)) (by (first | lia | omega)) fun p0' p1' e0' e1' => ?_)
          rw [e0] at e0'
          rw [e1] at e1'
          cases e0'
          cases e1'
          cases hb2 : lt p0 p1 with
          | true => exact wpS_pure ⟨p3, n, q, rfl, m1, by (first | lia | omega), m2, d3, q3⟩
          | false =>
            refine wpS_pure ⟨p3, n + 1, q + 1, rfl, rfl, by (first | lia | omega), by (first | lia | omega), d3.ext (m := lo + n) o (by (first | lia | omega)) e0 e1 hb2, fun x y u v a1 a2 a3 a4 eu ev => ?_⟩
            -- p0 and p1 alike
            have one : ∀ x u, lo + (n + 1) - (q + 1 + 1) ≤ x → x < lo + (n + 1) → (arrOf st3)[x]? = some u → Le lt u p0 ∧ Le lt p0 u := fun x u a1 a2 eu => by
              by_cases hx : x = lo + n
              · rw [hx, e1] at eu
                cases eu
                exact ⟨hb2, hb⟩
              · exact ⟨q3 x (lo + n - 1) u p0 (by (first | lia | omega)) (by (first | lia | omega)) (by (first | lia | omega)) (by (first | lia | omega)) eu e0, q3 (lo + n - 1) x p0 u (by (first | lia | omega)) (by (first | lia | omega)) (by (first | lia | omega)) (by (first | lia | omega)) e0 eu⟩
            exact o.le_trans (one x u a1 a2 eu).1 (one y v a3 a4 ev).2
      · rintro c st3 ⟨p3, n', q, rfl, rfl, m1, m2, d3, q3⟩
        exact ⟨p3, _, q, rfl, m1, by (first | lia | omega), m2, d3, q3⟩
      · rintro c st3 ⟨p3, n, q, rfl, m1, mn, m2, d3, q3⟩
        have z3 := p3.pm.size
        try dsimp only
        by_cases q0 : q > 0
        · rw [if_pos q0]
          refine wpS_bind (wpS_revX ?_)
          have p4 := Pl.mirror (lo := lo) (hi := lo + nrem) (i := lo + n - (q + 1)) (j := lo + n) st3 (by (first | lia | omega)) (by (first | lia | omega)) (by (first | lia | omega))
          have d4 := d3.turn q3 (by (first | lia | omega)) (by (first | lia | omega))
          have z4 := p4.pm.size
          generalize hst4 : setArr st3 (mirror (arrOf st3) (lo + n - (q + 1)) (lo + n) ((lo + n - (lo + n - (q + 1))) / 2)) = st4 at p4 z4
          have d5 : Dn lt (arrOf st4) lo (lo + n) := by rw [← hst4]; exact d4
          refine wpS_bind (wpS_revX ?_)
          have p6 := (p3.trans p4).trans (Pl.mirror (lo := lo) (hi := lo + nrem) (i := lo) (j := lo + n) st4 (by (first | lia | omega)) (by (first | lia | omega)) (by (first | lia | omega)))
          have u6 : Up lt (arrOf (setArr st4 (mirror (arrOf st4) lo (lo + n) ((lo + n - lo) / 2)))) lo (lo + n) := d5.mirror (by (first | lia | omega))
          have z6 := p6.pm.size
          generalize setArr st4 (mirror (arrOf st4) lo (lo + n) ((lo + n - lo) / 2)) = st5 at p6 u6 z6
          refine wpS_bind (wpS_mono (wpS_forRange (I := fun x c st' => st' = st5 ∧ ∃ k, c = (none, k) ∧ k = x ∧ Up lt (arrOf st5) lo (lo + k)) (Q := fun c st' => st' = st5 ∧ ∃ k, c = (none, k) ∧ n ≤ k ∧ k ≤ nrem ∧ Up lt (arrOf st5) lo (lo + k)) ?_ ?_ ⟨rfl, n, rfl, rfl, u6⟩) ?_)
          · rintro x c st7 hx1 hx2 ⟨rfl, k, rfl, rfl, u7⟩
            try dsimp only
            refine wpS_bind (wpS_ltAtL hc (p6.pm.kind.trans hk) (p6.pm.ok ho) (by (first | lia | omega)) (by (first | lia | omega)) fun p q e1 e2 => ?_)
            cases hb : lt p q with
            | true => exact wpS_pure ⟨rfl, k, rfl, by (first | lia | omega), by (first | lia | omega), u7⟩
            | false => exact wpS_pure ⟨rfl, k + 1, rfl, rfl, u7.ext (m := lo + k) o (by (first | lia | omega)) e2 e1 hb⟩
          · rintro c st7 ⟨rfl, k, rfl, rfl, u7⟩
            exact ⟨rfl, max n nrem, rfl, by (first | lia | omega), by (first | lia | omega), u7⟩
          · rintro c st7 ⟨rfl, k, rfl, k1, k2, u7⟩
            exact wpS_pure (h k _ (by (first | lia | omega)) k2 p6 u7)
        · rw [if_neg q0]
          refine wpS_bind (wpS_revX ?_)
          have p6 := p3.trans (Pl.mirror (lo := lo) (hi := lo + nrem) (i := lo) (j := lo + n) st3 (by (first | lia | omega)) (by (first | lia | omega)) (by (first | lia | omega)))
          have u6 : Up lt (arrOf (setArr st3 (mirror (arrOf st3) lo (lo + n) ((lo + n - lo) / 2)))) lo (lo + n) := d3.mirror (by (first | lia | omega))
          have z6 := p6.pm.size
          generalize setArr st3 (mirror (arrOf st3) lo (lo + n) ((lo + n - lo) / 2)) = st5 at p6 u6 z6
          refine wpS_bind (wpS_mono (wpS_forRange (I := fun x c st' => st' = st5 ∧ ∃ k, c = (none, k) ∧ k = x ∧ Up lt (arrOf st5) lo (lo + k)) (Q := fun c st' => st' = st5 ∧ ∃ k, c = (none, k) ∧ n ≤ k ∧ k ≤ nrem ∧ Up lt (arrOf st5) lo (lo + k)) ?_ ?_ ⟨rfl, n, rfl, rfl, u6⟩) ?_)
          · rintro x c st7 hx1 hx2 ⟨rfl, k, rfl, rfl, u7⟩
            try dsimp only
            refine wpS_bind (wpS_ltAtL hc (p6.pm.kind.trans hk) (p6.pm.ok ho) (by (first | lia | omega)) (by (first | lia | omega)) fun p q e1 e2 => ?_)
            cases hb : lt p q with
            | true => exact wpS_pure ⟨rfl, k, rfl, by (first | lia | omega), by (first | lia | omega), u7⟩
            | false => exact wpS_pure ⟨rfl, k + 1, rfl, rfl, u7.ext (m := lo + k) o (by (first | lia | omega)) e2 e1 hb⟩
          · rintro c st7 ⟨rfl, k, rfl, rfl, u7⟩
            exact ⟨rfl, max n nrem, rfl, by (first | lia | omega), by (first | lia | omega), u7⟩
          · rintro c st7 ⟨rfl, k, rfl, k1, k2, u7⟩
            exact wpS_pure (h k _ (by (first | lia | omega)) k2 p6 u7)
end
end Srd

namespace Srd
open PySem PyProof.Rows Srt
theorem cov_ge : ∀ {l : List (Nat × Nat × Nat)} {lo hi : Nat}, Cov l lo hi → ∀ z ∈ l, lo ≤ z.1
  | [], _, _, _, z, hz => (nomatch hz)
  | x :: r, lo, hi, ⟨a, b, c⟩, z, hz => by
    rcases List.mem_cons.mp hz with rfl | hz
    · (first | lia | omega)
    · have := cov_ge c z hz
      (first | lia | omega)
theorem cov_hi : ∀ {l : List (Nat × Nat × Nat)} {lo hi : Nat}, Cov l lo hi → ∀ z ∈ l, z.1 + z.2.1 ≤ hi
  | [], _, _, _, z, hz => (nomatch hz)
  | x :: r, lo, hi, ⟨a, b, c⟩, z, hz => by
    rcases List.mem_cons.mp hz with rfl | hz
    · have := c.le
      (first | lia | omega)
    · exact cov_hi c z hz
/-- the runs that are not put together -/
theorem cov_others : ∀ {l : List (Nat × Nat × Nat)} {i lo hi sa na p sb nb q : Nat}, Cov l lo hi → l[i]? = some (sa, na, p) → l[i + 1]? = some (sb, nb, q) →
    ∀ z ∈ (l.set i (sa, na + nb, p)).eraseIdx (i + 1), z = (sa, na + nb, p) ∨ z ∈ l ∧ (z.1 + z.2.1 ≤ sa ∨ sb + nb ≤ z.1)
  | x :: y :: r, 0, lo, hi, sa, na, p, sb, nb, q, ⟨a, b, c1, c2, c3⟩, h1, h2, z, hz => by
    have e1 : x = (sa, na, p) := by simpa using h1
    have e2 : y = (sb, nb, q) := by simpa using h2
    subst e1
    subst e2
    have hz' : z ∈ (sa, na + nb, p) :: r := hz
    rcases List.mem_cons.mp hz' with hz | hz
    · exact .inl hz
    · refine .inr ⟨List.mem_cons_of_mem _ (List.mem_cons_of_mem _ hz), .inr ?_⟩
      have := cov_ge c3 z hz
      have c1' : sb = lo + na := c1
      have this' : lo + na + nb ≤ z.1 := this
      (first | lia | omega)
  | x :: r, i + 1, lo, hi, sa, na, p, sb, nb, q, ⟨a, b, c⟩, h1, h2, z, hz => by
    have h1' : r[i]? = some (sa, na, p) := by simpa using h1
    have hz' : z ∈ x :: ((r.set i (sa, na + nb, p)).eraseIdx (i + 1)) := hz
    rcases List.mem_cons.mp hz' with rfl | hz
    · refine .inr ⟨List.mem_cons_self .., .inl ?_⟩
      have := cov_ge c _ (List.mem_of_getElem? h1')
      have this' : lo + z.2.1 ≤ sa := this
      (first | lia | omega)
    · rcases cov_others (l := r) (i := i) c h1' (by simpa using h2) z hz with h | ⟨h, h'⟩
      · exact .inl h
      · exact .inr ⟨List.mem_cons_of_mem _ h, h'⟩
  | [x], 0, _, _, _, _, _, _, _, _, _, _, h2, _, _ => by simp at h2
  | [], _, _, _, _, _, _, _, _, _, _, h1, _, _, _ => by simp at h1
/-- an item of a list with a piece put in -/
theorem splice_get {L r : List Keyed} {m : Nat} (h : m + r.length ≤ L.length) (x : Nat) : (L.take m ++ r ++ L.drop (m + r.length))[x]? = if x < m then L[x]? else if x < m + r.length then r[x - m]? else L[x]? := by
  have hm : (L.take m).length = m := by rw [List.length_take]; (first | lia | omega)
  by_cases h1 : x < m
  · rw [if_pos h1, List.append_assoc, List.getElem?_append_left (by (first | lia | omega)), List.getElem?_take_of_lt h1]
  rw [if_neg h1]
  by_cases h2 : x < m + r.length
  · rw [if_pos h2, List.getElem?_append_left (by rw [List.length_append]; (first | lia | omega)), List.getElem?_append_right (by (first | lia | omega)), hm]
  · rw [if_neg h2, List.getElem?_append_right (by rw [List.length_append]; (first | lia | omega)), List.getElem?_drop, List.length_append, hm]
    congr 1
    (first | lia | omega)
section
variable {lt : Keyed → Keyed → Bool} {κ : SortKind}
/-- some order of what was given, the runs cover it up to here, and each rises -/
structure SBL (lt : Keyed → Keyed → Bool) (a₀ : Array Keyed) (κ : SortKind) (hi : Nat) (st : SortSt) : Prop where
  sb : SB a₀ κ hi st
  ups : ∀ z ∈ (pendingOf st).toList, Up lt (arrOf st) z.1 (z.1 + z.2.1)
theorem Up.same {arr arr' : Array Keyed} {i j : Nat} (h : Up lt arr i j) (e : ∀ x, i ≤ x → x < j → arr'[x]? = arr[x]?) : Up lt arr' i j := fun x y p q h1 h2 h3 ep eq => by
  rw [e x (by (first | lia | omega)) (by (first | lia | omega))] at ep
  rw [e y (by (first | lia | omega)) (by (first | lia | omega))] at eq
  exact h x y p q h1 h2 h3 ep eq
theorem SBL.pl {a₀ : Array Keyed} {hi hi' : Nat} {st st' : SortSt} (x : SBL lt a₀ κ hi st) (p : Pl hi hi' st st') : SBL lt a₀ κ hi st' := ⟨x.sb.pm p.pm, fun z hz => by
  rw [p.pm.pend] at hz
  have h1 := cov_hi x.sb.cov z hz
  exact (x.ups z hz).same fun i _ h => p.out i (.inl (by (first | lia | omega)))⟩
end
end Srd

namespace Srd
open PySem PyProof.Rows Srt
section
variable {prog : Program} {w : World} {A : Around} {E : Value → Shared → Prop} {s : Shared} {κ : SortKind} {Ok : Keyed → Prop} {st : SortSt} {lt : Keyed → Keyed → Bool}
set_option maxHeartbeats 4000000 in
theorem wpS_mergeAtL {a₀ : Array Keyed} {hi i : Nat} {Q : Bool → SortSt → Prop} (o : Swo lt) (hc : CmpL prog w A s κ Ok lt) (h0 : ∀ p ∈ a₀.toList, Ok p) (hL : SBL lt a₀ κ hi st) (hh : hi ≤ a₀.size) (hi1 : i + 1 < (pendingOf st).size)
    (h : ∀ st', SBL lt a₀ κ hi st' → (∀ x, hi ≤ x → (arrOf st')[x]? = (arrOf st)[x]?) → (pendingOf st').size + 1 = (pendingOf st).size → Q true st') : wpS (model prog w) A E s (mergeAt' i) Q st := by
  have hB := hL.sb
  refine wpS_bind (wpS_get ?_)
  obtain ⟨⟨sa, na, p⟩, e1⟩ : ∃ x, (pendingOf st)[i]? = some x := ⟨_, getElem?_pos _ i (by (first | lia | omega))⟩
  obtain ⟨⟨sb, nb, q⟩, e2⟩ : ∃ x, (pendingOf st)[i + 1]? = some x := ⟨_, getElem?_pos _ (i + 1) hi1⟩
  obtain ⟨k1, k2, k3, k4, k5⟩ := hB.cov.at (i := i) (by rw [← e1]; simp) (by rw [← e2]; simp)
  have e3 : ((pendingOf st)[i]?, (pendingOf st)[i + 1]?) = (some (sa, na, p), some (sb, nb, q)) := by rw [e1, e2]
  have hsz := hB.size
  have l1 : (pendingOf st).toList[i]? = some (sa, na, p) := by rw [← e1]; simp
  have l2 : (pendingOf st).toList[i + 1]? = some (sb, nb, q) := by rw [← e2]; simp
  have ua : Up lt (arrOf st) sa (sa + na) := hL.ups _ (List.mem_of_getElem? l1)
  have ub : Up lt (arrOf st) sb (sb + nb) := hL.ups _ (List.mem_of_getElem? l2)
  have oth := cov_others hB.cov l1 l2
  show wpS _ _ _ _ (match ((pendingOf st)[i]?, (pendingOf st)[i + 1]?) with | (some (sa, na, power), some (sb, nb, _)) => _ | _ => _) Q st
  rw [e1, e2]
  dsimp only
  have hpl : (((pendingOf st).setIfInBounds i (sa, na + nb, p)).eraseIdxIfInBounds (i + 1)).toList = ((pendingOf st).toList.set i (sa, na + nb, p)).eraseIdx (i + 1) := by
    simp
  have hps : ((((pendingOf st).setIfInBounds i (sa, na + nb, p)).eraseIdxIfInBounds (i + 1)).size + 1 = (pendingOf st).size) := by
    have := congrArg List.length hpl
    rw [Array.length_toList, List.length_eraseIdx, List.length_set, Array.length_toList, if_pos hi1] at this
    (first | lia | omega)
  have hB1 : SB a₀ κ hi (SortSt.mk' (kindOf st) (arrOf st) (((pendingOf st).setIfInBounds i (sa, na + nb, p)).eraseIdxIfInBounds (i + 1)) (gallopOf st) (failedOf st)) := ⟨hB.arr, hB.kind, hB.fail, by
    show Cov (((pendingOf st).setIfInBounds i (sa, na + nb, p)).eraseIdxIfInBounds (i + 1)).toList 0 hi
    rw [hpl]
    exact k5⟩
  have hok := hB.ok h0
  have fin : ∀ st' : SortSt, SB a₀ κ hi st' → (pendingOf st').toList = ((pendingOf st).toList.set i (sa, na + nb, p)).eraseIdx (i + 1) → (∀ x, x < sa ∨ sb + nb ≤ x → (arrOf st')[x]? = (arrOf st)[x]?) → Up lt (arrOf st') sa (sa + (na + nb)) → SBL lt a₀ κ hi st' := fun st' hB' hp he hu => ⟨hB', fun z hz => by
    rw [hp] at hz
    rcases oth z hz with rfl | ⟨hz, hd⟩
    · exact hu
    · exact (hL.ups z hz).same fun x h1 h2 => he x (by (first | lia | omega))⟩
  have exm : ∀ (arr : Array Keyed) (x y : Nat) {p : Keyed}, p ∈ (arr.extract x y).toList → p ∈ arr.toList := fun arr x y p hp => by
    rw [Array.toList_extract, List.extract_eq_drop_take] at hp
    exact List.mem_of_mem_drop (List.mem_of_mem_take hp)
  refine wpS_bind (wpS_set ?_)
  refine wpS_bind (wpS_elem (arr := arrOf st) (by (first | lia | omega)) fun p1 m1 ep1 => ?_)
  refine wpS_bind (wpS_gallopL (a := arrOf st) o hc hB1.kind (hok p1 m1) hok (by (first | lia | omega)) (by (first | lia | omega)) ua fun k hk F1 F2 => ?_)
  dsimp only
  have low1 : ∀ i u, i < k → (arrOf st)[sa + i]? = some u → Le lt u p1 := fun i u hi eu => by
    have h3 := F1 i hi
    unfold BV at h3
    rw [eu] at h3
    have h4 : (!lt p1 u) = true := h3
    show lt p1 u = false
    simpa using h4
  have hig1 : ∀ i u, k ≤ i → i < na → (arrOf st)[sa + i]? = some u → Le lt p1 u := fun i u h1 h2 eu => by
    have h3 := F2 i h1 h2
    unfold BV at h3
    rw [eu] at h3
    have h4 : (!lt p1 u) = false := h3
    exact o.le_of (by simpa using h4)
  have p1le : ∀ y v, sb ≤ y → y < sb + nb → (arrOf st)[y]? = some v → Le lt p1 v := fun y v h1 h2 ev => by
    by_cases e : y = sb
    · rw [e, ep1] at ev
      cases ev
      exact o.le_refl _
    · exact ub sb y p1 v (by (first | lia | omega)) (by (first | lia | omega)) h2 ep1 ev
  by_cases c1 : (na - k == 0) = true
  · rw [if_pos c1]
    have ek : k = na := by
      have := eq_of_beq c1
      (first | lia | omega)
    refine wpS_pure (h _ (fin _ hB1 hpl (fun _ _ => rfl) ?_) (fun _ _ => rfl) hps)
    intro x y u v a1 a2 a3 eu ev
    have eu' : (arrOf st)[x]? = some u := eu
    have ev' : (arrOf st)[y]? = some v := ev
    by_cases hy : y < sb
    · exact ua x y u v a1 a2 (by (first | lia | omega)) eu' ev'
    by_cases hx : sb ≤ x
    · exact ub x y u v hx a2 (by (first | lia | omega)) eu' ev'
    exact o.le_trans (low1 (x - sa) u (by (first | lia | omega)) (by rw [show sa + (x - sa) = x by (first | lia | omega)]; exact eu')) (p1le y v (by (first | lia | omega)) (by (first | lia | omega)) ev')
  rw [if_neg c1]
  have n1 : ¬ na - k = 0 := fun e => c1 (by simp [e])
  refine wpS_bind (wpS_elem (arr := arrOf st) (by (first | lia | omega)) fun p2 m2 ep2 => ?_)
  refine wpS_bind (wpS_gallopL (a := arrOf st) o hc hB1.kind (hok p2 m2) hok (by (first | lia | omega)) (by (first | lia | omega)) ub fun nb' hnb G1 G2 => ?_)
  dsimp only
  have ep2' : (arrOf st)[sb - 1]? = some p2 := by
    rw [← ep2]
    congr 1
    (first | lia | omega)
  have lep2 : ∀ x u, sa ≤ x → x < sb → (arrOf st)[x]? = some u → Le lt u p2 := fun x u h1 h2 eu => by
    by_cases e : x = sb - 1
    · rw [e, ep2'] at eu
      cases eu
      exact o.le_refl _
    · exact ua x (sb - 1) u p2 h1 (by (first | lia | omega)) (by (first | lia | omega)) eu ep2'
  have low2 : ∀ i u, i < nb' → (arrOf st)[sb + i]? = some u → Le lt u p2 := fun i u hi eu => by
    have h3 := G1 i hi
    unfold BV at h3
    rw [eu] at h3
    exact o.le_of h3
  have hig2 : ∀ i u, nb' ≤ i → i < nb → (arrOf st)[sb + i]? = some u → Le lt p2 u := fun i u h1 h2 eu => by
    have h3 := G2 i h1 h2
    unfold BV at h3
    rw [eu] at h3
    exact h3
  by_cases c2 : (nb' == 0) = true
  · rw [if_pos c2]
    have ek : nb' = 0 := eq_of_beq c2
    refine wpS_pure (h _ (fin _ hB1 hpl (fun _ _ => rfl) ?_) (fun _ _ => rfl) hps)
    intro x y u v a1 a2 a3 eu ev
    have eu' : (arrOf st)[x]? = some u := eu
    have ev' : (arrOf st)[y]? = some v := ev
    by_cases hy : y < sb
    · exact ua x y u v a1 a2 (by (first | lia | omega)) eu' ev'
    by_cases hx : sb ≤ x
    · exact ub x y u v hx a2 (by (first | lia | omega)) eu' ev'
    exact o.le_trans (lep2 x u a1 (by (first | lia | omega)) eu') (hig2 (y - sb) v (by (first | lia | omega)) (by (first | lia | omega)) (by rw [show sb + (y - sb) = y by (first | lia | omega)]; exact ev'))
  rw [if_neg c2]
  have n2 : ¬ nb' = 0 := fun e => c2 (by simp [e])
  have xs : ((arrOf st).extract (sa + k) sb).size = na - k := by
    rw [Array.size_extract]
    (first | lia | omega)
  have ys : ((arrOf st).extract sb (sb + nb')).size = nb' := by
    rw [Array.size_extract]
    (first | lia | omega)
  have SX : So lt ((arrOf st).extract (sa + k) sb).toList := List.pairwise_iff_getElem.mpr fun x y hx hy hxy => by
    rw [Array.length_toList] at hx hy
    have ex : ((arrOf st).extract (sa + k) sb)[x]? = (arrOf st)[sa + k + x]? := by rw [Array.getElem?_extract, if_pos (by (first | lia | omega))]
    have ey : ((arrOf st).extract (sa + k) sb)[y]? = (arrOf st)[sa + k + y]? := by rw [Array.getElem?_extract, if_pos (by (first | lia | omega))]
    rw [← Array.getElem?_toList, List.getElem?_eq_getElem (by rw [Array.length_toList]; exact hx)] at ex
    rw [← Array.getElem?_toList, List.getElem?_eq_getElem (by rw [Array.length_toList]; exact hy)] at ey
    exact ua _ _ _ _ (by (first | lia | omega)) (show sa + k + x < sa + k + y by (first | lia | omega)) (by (first | lia | omega)) ex.symm ey.symm
  have SY : So lt ((arrOf st).extract sb (sb + nb')).toList := List.pairwise_iff_getElem.mpr fun x y hx hy hxy => by
    rw [Array.length_toList] at hx hy
    have ex : ((arrOf st).extract sb (sb + nb'))[x]? = (arrOf st)[sb + x]? := by rw [Array.getElem?_extract, if_pos (by (first | lia | omega))]
    have ey : ((arrOf st).extract sb (sb + nb'))[y]? = (arrOf st)[sb + y]? := by rw [Array.getElem?_extract, if_pos (by (first | lia | omega))]
    rw [← Array.getElem?_toList, List.getElem?_eq_getElem (by rw [Array.length_toList]; exact hx)] at ex
    rw [← Array.getElem?_toList, List.getElem?_eq_getElem (by rw [Array.length_toList]; exact hy)] at ey
    exact ub _ _ _ _ (by (first | lia | omega)) (show sb + x < sb + y by (first | lia | omega)) (by (first | lia | omega)) ex.symm ey.symm
  have HB0 : ∀ p, ((arrOf st).extract sb (sb + nb'))[0]? = some p → ∀ y ∈ ((arrOf st).extract (sa + k) sb).toList, Le lt p y := fun p ep y hy => by
    rw [Array.getElem?_extract, if_pos (by (first | lia | omega)), Nat.add_zero, ep1] at ep
    cases ep
    obtain ⟨m, h1, h2, e⟩ := mem_exI hy
    exact hig1 (m - sa) y (by (first | lia | omega)) (by (first | lia | omega)) (by rw [show sa + (m - sa) = m by (first | lia | omega)]; exact e)
  have HLA : ∀ x ∈ ((arrOf st).extract sb (sb + nb')).toList, ∀ q, ((arrOf st).extract (sa + k) sb)[((arrOf st).extract (sa + k) sb).size - 1]? = some q → Le lt x q := fun x hx q eq => by
    rw [xs, Array.getElem?_extract, if_pos (by (first | lia | omega)), show sa + k + (na - k - 1) = sb - 1 by (first | lia | omega), ep2'] at eq
    cases eq
    obtain ⟨m, h1, h2, e⟩ := mem_exI hx
    exact low2 (m - sb) x (by (first | lia | omega)) (by rw [show sb + (m - sb) = m by (first | lia | omega)]; exact e)
  -- what the piece put in gives
  have whole : ∀ (r : Array Keyed) (arr' : Array Keyed), Rs lt ((arrOf st).extract (sa + k) sb) ((arrOf st).extract sb (sb + nb')) r → r.toList.length = (na - k) + nb' → arr'.toList = (arrOf st).toList.take (sa + k) ++ r.toList ++ (arrOf st).toList.drop (sa + k + r.toList.length) →
      (∀ x, x < sa ∨ sb + nb ≤ x → arr'[x]? = (arrOf st)[x]?) ∧ Up lt arr' sa (sa + (na + nb)) := fun r arr' hr hrl ha => by
    have get : ∀ x, arr'[x]? = if x < sa + k then (arrOf st)[x]? else if x < sa + k + r.toList.length then r.toList[x - (sa + k)]? else (arrOf st)[x]? := fun x => by
      rw [← Array.getElem?_toList, ha, splice_get (by have hll : (arrOf st).toList.length = (arrOf st).size := Array.length_toList; (first | lia | omega)), Array.getElem?_toList]
    have inr : ∀ u, u ∈ r.toList → (∃ m, sa + k ≤ m ∧ m < sb ∧ (arrOf st)[m]? = some u) ∨ ∃ m, sb ≤ m ∧ m < sb + nb' ∧ (arrOf st)[m]? = some u := fun u hu => by
      rcases List.mem_append.mp (hr.perm.mem_iff.mp hu) with hu | hu
      · exact .inl (mem_exI hu)
      · exact .inr (mem_exI hu)
    refine ⟨fun x hx => ?_, fun x y u v a1 a2 a3 eu ev => ?_⟩
    · rw [get]
      by_cases h1 : x < sa + k
      · rw [if_pos h1]
      · rw [if_neg h1, if_neg (by (first | lia | omega))]
    rw [get] at eu ev
    by_cases hx1 : x < sa + k
    · rw [if_pos hx1] at eu
      have hu1 := low1 (x - sa) u (by (first | lia | omega)) (by rw [show sa + (x - sa) = x by (first | lia | omega)]; exact eu)
      by_cases hy1 : y < sa + k
      · rw [if_pos hy1] at ev
        exact ua x y u v a1 a2 (by (first | lia | omega)) eu ev
      rw [if_neg hy1] at ev
      by_cases hy2 : y < sa + k + r.toList.length
      · rw [if_pos hy2] at ev
        rcases inr v (List.mem_of_getElem? ev) with ⟨m, b1, b2, e⟩ | ⟨m, b1, b2, e⟩
        · exact ua x m u v a1 (by (first | lia | omega)) (by (first | lia | omega)) eu e
        · exact o.le_trans hu1 (p1le m v b1 (by (first | lia | omega)) e)
      · rw [if_neg hy2] at ev
        exact o.le_trans hu1 (p1le y v (by (first | lia | omega)) (by (first | lia | omega)) ev)
    rw [if_neg hx1] at eu
    rw [if_neg (by (first | lia | omega))] at ev
    by_cases hx2 : x < sa + k + r.toList.length
    · rw [if_pos hx2] at eu
      by_cases hy2 : y < sa + k + r.toList.length
      · rw [if_pos hy2] at ev
        obtain ⟨hx3, rfl⟩ := List.getElem?_eq_some_iff.mp eu
        obtain ⟨hy3, rfl⟩ := List.getElem?_eq_some_iff.mp ev
        exact (List.pairwise_iff_getElem.mp hr.sort) _ _ hx3 hy3 (by (first | lia | omega))
      · rw [if_neg hy2] at ev
        rcases inr u (List.mem_of_getElem? eu) with ⟨m, b1, b2, e⟩ | ⟨m, b1, b2, e⟩
        · exact o.le_trans (lep2 m u (by (first | lia | omega)) b2 e) (hig2 (y - sb) v (by (first | lia | omega)) (by (first | lia | omega)) (by rw [show sb + (y - sb) = y by (first | lia | omega)]; exact ev))
        · exact ub m y u v b1 (by (first | lia | omega)) (by (first | lia | omega)) e ev
    · rw [if_neg hx2] at eu
      rw [if_neg (by (first | lia | omega))] at ev
      exact ub x y u v (by (first | lia | omega)) a2 (by (first | lia | omega)) eu ev
  by_cases c3 : na - k ≤ nb'
  · rw [if_pos c3]
    refine wpS_bind (wpS_mergeLoL (a := (arrOf st).extract (sa + k) sb) (b := (arrOf st).extract sb (sb + nb')) o hc hB1.kind (fun p hp => hok p (exm _ _ _ hp)) (fun p hp => hok p (exm _ _ _ hp)) (by rw [xs]; (first | lia | omega)) (by rw [ys]; (first | lia | omega)) SX SY HB0 HLA fun r st2 lk hr => ?_)
    refine wpS_bind (wpS_modify ?_)
    refine wpS_bind (wpS_get ?_)
    have hf : failedOf st2 = none := lk.fail.trans hB.fail
    have hr2 : r.toList.Perm (((arrOf st).toList.drop (sa + k)).take ((na - k) + nb')) := by
      refine hr.perm.trans (List.Perm.of_eq ?_)
      rw [Array.toList_extract, Array.toList_extract, ex_mid _ (by (first | lia | omega)) (by (first | lia | omega))]
      congr 1
      (first | lia | omega)
    have hrl : r.toList.length = (na - k) + nb' := by
      rw [hr2.length_eq, List.length_take, List.length_drop, Array.length_toList]
      (first | lia | omega)
    show wpS _ _ _ _ (pure (failedOf st2).isNone) Q _
    rw [hf]
    have hnew : (List.foldl (fun (a : Array Keyed) (x : Keyed × Nat) => a.setIfInBounds (sa + k + x.2) x.1) (arrOf st2) r.toList.zipIdx).toList = (arrOf st).toList.take (sa + k) ++ r.toList ++ (arrOf st).toList.drop (sa + k + r.toList.length) := by
      rw [lk.arr, splice2 _ _ _ (by show sa + k + r.toList.length ≤ (arrOf st).size; (first | lia | omega))]
    obtain ⟨w1, w2⟩ := whole r _ hr hrl hnew
    refine wpS_pure (h _ (fin _ ⟨?_, lk.kind.trans hB.kind, hf, ?_⟩ (by show (pendingOf st2).toList = _; rw [lk.pend]; exact hpl) w1 w2) (fun x hx => w1 x (.inr (by (first | lia | omega)))) ?_)
    · show (List.foldl (fun (a : Array Keyed) (x : Keyed × Nat) => a.setIfInBounds (sa + k + x.2) x.1) (arrOf st2) r.toList.zipIdx).toList.Perm a₀.toList
      rw [hnew]
      exact (perm_mid hr2 hrl).trans hB.arr
    · show Cov (pendingOf st2).toList 0 hi
      rw [lk.pend]
      exact hB1.cov
    · show (pendingOf st2).size + 1 = _
      rw [lk.pend]
      exact hps
  · rw [if_neg c3]
    refine wpS_bind (wpS_mergeHiL (a := (arrOf st).extract (sa + k) sb) (b := (arrOf st).extract sb (sb + nb')) o hc hB1.kind (fun p hp => hok p (exm _ _ _ hp)) (fun p hp => hok p (exm _ _ _ hp)) (by rw [xs]; (first | lia | omega)) (by rw [ys]; (first | lia | omega)) SX SY HB0 HLA fun r st2 lk hr => ?_)
    refine wpS_bind (wpS_modify ?_)
    refine wpS_bind (wpS_get ?_)
    have hf : failedOf st2 = none := lk.fail.trans hB.fail
    have hr2 : r.toList.Perm (((arrOf st).toList.drop (sa + k)).take ((na - k) + nb')) := by
      refine hr.perm.trans (List.Perm.of_eq ?_)
      rw [Array.toList_extract, Array.toList_extract, ex_mid _ (by (first | lia | omega)) (by (first | lia | omega))]
      congr 1
      (first | lia | omega)
    have hrl : r.toList.length = (na - k) + nb' := by
      rw [hr2.length_eq, List.length_take, List.length_drop, Array.length_toList]
      (first | lia | omega)
    show wpS _ _ _ _ (pure (failedOf st2).isNone) Q _
    rw [hf]
    have hnew : (List.foldl (fun (a : Array Keyed) (x : Keyed × Nat) => a.setIfInBounds (sa + k + x.2) x.1) (arrOf st2) r.toList.zipIdx).toList = (arrOf st).toList.take (sa + k) ++ r.toList ++ (arrOf st).toList.drop (sa + k + r.toList.length) := by
      rw [lk.arr, splice2 _ _ _ (by show sa + k + r.toList.length ≤ (arrOf st).size; (first | lia | omega))]
    obtain ⟨w1, w2⟩ := whole r _ hr hrl hnew
    refine wpS_pure (h _ (fin _ ⟨?_, lk.kind.trans hB.kind, hf, ?_⟩ (by show (pendingOf st2).toList = _; rw [lk.pend]; exact hpl) w1 w2) (fun x hx => w1 x (.inr (by (first | lia | omega)))) ?_)
    · show (List.foldl (fun (a : Array Keyed) (x : Keyed × Nat) => a.setIfInBounds (sa + k + x.2) x.1) (arrOf st2) r.toList.zipIdx).toList.Perm a₀.toList
      rw [hnew]
      exact (perm_mid hr2 hrl).trans hB.arr
    · show Cov (pendingOf st2).toList 0 hi
      rw [lk.pend]
      exact hB1.cov
    · show (pendingOf st2).size + 1 = _
      rw [lk.pend]
      exact hps
end
end Srd

namespace Srd
open PySem PyProof.Rows Srt
section
variable {prog : Program} {w : World} {A : Around} {E : Value → Shared → Prop} {s : Shared} {κ : SortKind} {Ok : Keyed → Prop} {st : SortSt} {lt : Keyed → Keyed → Bool}
set_option maxHeartbeats 4000000 in
theorem wpS_runsL {a₀ : Array Keyed} {Q : Unit → SortSt → Prop} (o : Swo lt) (hc : CmpL prog w A s κ Ok lt) (h0 : ∀ p ∈ a₀.toList, Ok p) (hB : SBL lt a₀ κ 0 st) (h : ∀ st', (arrOf st').toList.Perm a₀.toList → So lt (arrOf st').toList → failedOf st' = none → Q () st') : wpS (model prog w) A E s sortRuns' Q st := by
  refine wpS_bind (wpS_get ?_)
  have hsz := hB.sb.size
  show wpS _ _ _ _ (forIn [:(arrOf st).size] _ _ >>= _) Q st
  rw [hsz]
  refine wpS_bind (wpS_mono (wpS_forRange (I := fun x c st' => ∃ lo, c = (none, lo) ∧ lo ≤ a₀.size ∧ SBL lt a₀ κ lo st' ∧ x ≤ lo) (Q := fun c st' => ∃ lo, c = (none, lo) ∧ lo = a₀.size ∧ SBL lt a₀ κ lo st') ?_ (fun c st' ⟨lo, z1, z2, z3, z4⟩ => ⟨lo, z1, by (first | lia | omega), z3⟩) ⟨0, rfl, Nat.zero_le _, hB, Nat.le_refl _⟩) ?_)
  · rintro x c st1 _ hx ⟨lo, rfl, hlo, hB1, hxl⟩
    try dsimp only
    by_cases c1 : lo ≥ a₀.size
    · rw [if_pos c1]
      exact wpS_pure ⟨lo, rfl, by (first | lia | omega), hB1⟩
    rw [if_neg c1]
    have hs1 := hB1.sb.size
    refine wpS_bind (wpS_countL o hc hB1.sb.kind (hB1.sb.ok h0) (by (first | lia | omega)) (by (first | lia | omega)) fun n st2 n1 n2 p2 u2 => ?_)
    have hB2 := hB1.pl p2
    have hs2 := hB2.sb.size
    try dsimp only
    show wpS _ _ _ _ (if n < minRun' a₀.size a₀.size 0 then _ else _) _ st2
    by_cases c2 : n < minRun' a₀.size a₀.size 0
    · rw [if_pos c2]
      refine wpS_bind (wpS_lift (wpAny_rule ⟨rfl, ?_⟩))
      refine wpS_bind (wpS_binaryL o hc hB2.sb.kind (hB2.sb.ok h0) (by show lo + min (a₀.size - lo) (minRun' a₀.size a₀.size 0) ≤ _; (first | lia | omega)) (by show n ≤ min (a₀.size - lo) (minRun' a₀.size a₀.size 0); (first | lia | omega)) (by show 1 ≤ min (a₀.size - lo) (minRun' a₀.size a₀.size 0); (first | lia | omega)) u2 fun st3 p3 u3 => ?_)
      rw [if_neg (by decide)]
      have hB3 := hB2.pl p3
      have u3' : Up lt (arrOf st3) lo (lo + min (a₀.size - lo) (minRun' a₀.size a₀.size 0)) := u3
      have hN : 1 ≤ min (a₀.size - lo) (minRun' a₀.size a₀.size 0) := by (first | lia | omega)
      refine wpS_bind (wpS_get ?_)
      cases hb : (pendingOf st3).back? with
      | none =>
        dsimp only
        refine wpS_bind (wpS_modify ?_)
        refine wpS_pure ⟨lo + min (a₀.size - lo) (minRun' a₀.size a₀.size 0), rfl, by (first | lia | omega), ⟨⟨hB3.sb.arr, hB3.sb.kind, hB3.sb.fail, ?_⟩, fun z hz => ?_⟩, by (first | lia | omega)⟩
        · show Cov ((pendingOf st3).push (lo, min (a₀.size - lo) (minRun' a₀.size a₀.size 0), 0)).toList 0 (lo + min (a₀.size - lo) (minRun' a₀.size a₀.size 0))
          rw [Array.toList_push]
          exact hB3.sb.cov.push hN
        · have hz' : z ∈ ((pendingOf st3).push (lo, min (a₀.size - lo) (minRun' a₀.size a₀.size 0), 0)).toList := hz
          rw [Array.toList_push] at hz'
          rcases List.mem_append.mp hz' with hz' | hz'
          · exact hB3.ups z hz'
          · rw [List.mem_singleton.mp hz']
            exact u3'
      | some t =>
        obtain ⟨s1, n1, q⟩ := t
        dsimp only
        refine wpS_bind (wpS_mono (wpS_forRange (I := fun _ c st' => c = (none, ()) ∧ SBL lt a₀ κ lo st' ∧ ∀ x, lo ≤ x → (arrOf st')[x]? = (arrOf st3)[x]?) (Q := fun c st' => c = (none, ()) ∧ SBL lt a₀ κ lo st' ∧ ∀ x, lo ≤ x → (arrOf st')[x]? = (arrOf st3)[x]?) ?_ (fun _ _ z => z) ⟨rfl, hB3, fun _ _ => rfl⟩) ?_)
        · rintro y c st4 _ _ ⟨rfl, hB4, hO4⟩
          refine wpS_bind (wpS_get ?_)
          by_cases g1 : (pendingOf st4).size > 1
          · rw [if_pos g1]
            obtain ⟨⟨a1, a2, older⟩, e⟩ : ∃ x, (pendingOf st4)[(pendingOf st4).size - 2]? = some x := ⟨_, getElem?_pos _ _ (by (first | lia | omega))⟩
            rw [e]
            dsimp only
            split
            · exact wpS_pure ⟨rfl, hB4, hO4⟩
            · refine wpS_bind (wpS_mergeAtL o hc h0 hB4 hlo (by show (pendingOf st4).size - 2 + 1 < (pendingOf st4).size; (first | lia | omega)) fun st5 hB5 hO5 _ => ?_)
              rw [if_neg (by decide)]
              exact wpS_pure ⟨rfl, hB5, fun x hx => (hO5 x hx).trans (hO4 x hx)⟩
          · rw [if_neg g1]
            exact wpS_pure ⟨rfl, hB4, hO4⟩
        · rintro c st4 ⟨rfl, hB4, hO4⟩
          dsimp only
          refine wpS_bind (wpS_modify ?_)
          refine wpS_bind (wpS_modify ?_)
          refine wpS_pure ⟨lo + min (a₀.size - lo) (minRun' a₀.size a₀.size 0), rfl, by (first | lia | omega), ⟨⟨hB4.sb.arr, hB4.sb.kind, hB4.sb.fail, ?_⟩, fun z hz => ?_⟩, by (first | lia | omega)⟩
          · show Cov (Array.push ((pendingOf st4).modify _ _) (lo, min (a₀.size - lo) (minRun' a₀.size a₀.size 0), 0)).toList 0 (lo + min (a₀.size - lo) (minRun' a₀.size a₀.size 0))
            rw [Array.toList_push, Array.toList_modify]
            refine Cov.push ?_ hN
            refine Cov.last _ (fun x => ?_) _ hB4.sb.cov
            exact ⟨rfl, rfl⟩
          · change z ∈ (Array.push ((pendingOf st4).modify _ _) (lo, min (a₀.size - lo) (minRun' a₀.size a₀.size 0), 0)).toList at hz
            rw [Array.toList_push, Array.toList_modify] at hz
            rcases List.mem_append.mp hz with hz | hz
            · obtain ⟨i, hi⟩ := List.mem_iff_getElem?.mp hz
              rw [List.getElem?_modify] at hi
              obtain ⟨z0, hz0, rfl⟩ := Option.map_eq_some_iff.mp hi
              have h1 := hB4.ups z0 (List.mem_of_getElem? hz0)
              split
              · exact h1
              · exact h1
            · rw [List.mem_singleton.mp hz]
              exact u3'.same fun x h1 _ => hO4 x h1
    · rw [if_neg c2]
      have hB3 := hB2
      have hN := n1
      have u3' := u2
      refine wpS_bind (wpS_get ?_)
      cases hb : (pendingOf st2).back? with
      | none =>
        dsimp only
        refine wpS_bind (wpS_modify ?_)
        refine wpS_pure ⟨lo + n, rfl, by (first | lia | omega), ⟨⟨hB3.sb.arr, hB3.sb.kind, hB3.sb.fail, ?_⟩, fun z hz => ?_⟩, by (first | lia | omega)⟩
        · show Cov ((pendingOf st2).push (lo, n, 0)).toList 0 (lo + n)
          rw [Array.toList_push]
          exact hB3.sb.cov.push hN
        · have hz' : z ∈ ((pendingOf st2).push (lo, n, 0)).toList := hz
          rw [Array.toList_push] at hz'
          rcases List.mem_append.mp hz' with hz' | hz'
          · exact hB3.ups z hz'
          · rw [List.mem_singleton.mp hz']
            exact u3'
      | some t =>
        obtain ⟨s1, n1, q⟩ := t
        dsimp only
        refine wpS_bind (wpS_mono (wpS_forRange (I := fun _ c st' => c = (none, ()) ∧ SBL lt a₀ κ lo st' ∧ ∀ x, lo ≤ x → (arrOf st')[x]? = (arrOf st2)[x]?) (Q := fun c st' => c = (none, ()) ∧ SBL lt a₀ κ lo st' ∧ ∀ x, lo ≤ x → (arrOf st')[x]? = (arrOf st2)[x]?) ?_ (fun _ _ z => z) ⟨rfl, hB3, fun _ _ => rfl⟩) ?_)
        · rintro y c st4 _ _ ⟨rfl, hB4, hO4⟩
          refine wpS_bind (wpS_get ?_)
          by_cases g1 : (pendingOf st4).size > 1
          · rw [if_pos g1]
            obtain ⟨⟨a1, a2, older⟩, e⟩ : ∃ x, (pendingOf st4)[(pendingOf st4).size - 2]? = some x := ⟨_, getElem?_pos _ _ (by (first | lia | omega))⟩
            rw [e]
            dsimp only
            split
            · exact wpS_pure ⟨rfl, hB4, hO4⟩
            · refine wpS_bind (wpS_mergeAtL o hc h0 hB4 hlo (by show (pendingOf st4).size - 2 + 1 < (pendingOf st4).size; (first | lia | omega)) fun st5 hB5 hO5 _ => ?_)
              rw [if_neg (by decide)]
              exact wpS_pure ⟨rfl, hB5, fun x hx => (hO5 x hx).trans (hO4 x hx)⟩
          · rw [if_neg g1]
            exact wpS_pure ⟨rfl, hB4, hO4⟩
        · rintro c st4 ⟨rfl, hB4, hO4⟩
          dsimp only
          refine wpS_bind (wpS_modify ?_)
          refine wpS_bind (wpS_modify ?_)
          refine wpS_pure ⟨lo + n, rfl, by (first | lia | omega), ⟨⟨hB4.sb.arr, hB4.sb.kind, hB4.sb.fail, ?_⟩, fun z hz => ?_⟩, by (first | lia | omega)⟩
          · show Cov (Array.push ((pendingOf st4).modify _ _) (lo, n, 0)).toList 0 (lo + n)
            rw [Array.toList_push, Array.toList_modify]
            refine Cov.push ?_ hN
            refine Cov.last _ (fun x => ?_) _ hB4.sb.cov
            exact ⟨rfl, rfl⟩
          · change z ∈ (Array.push ((pendingOf st4).modify _ _) (lo, n, 0)).toList at hz
            rw [Array.toList_push, Array.toList_modify] at hz
            rcases List.mem_append.mp hz with hz | hz
            · obtain ⟨i, hi⟩ := List.mem_iff_getElem?.mp hz
              rw [List.getElem?_modify] at hi
              obtain ⟨z0, hz0, rfl⟩ := Option.map_eq_some_iff.mp hi
              have h1 := hB4.ups z0 (List.mem_of_getElem? hz0)
              split
              · exact h1
              · exact h1
            · rw [List.mem_singleton.mp hz]
              exact u3'.same fun x h1 _ => hO4 x h1
  · rintro c st1 ⟨lo, rfl, rfl, hB1⟩
    try dsimp only
    refine wpS_bind (wpS_mono (wpS_forRange (I := fun x c st' => c = (none, ()) ∧ SBL lt a₀ κ a₀.size st' ∧ (pendingOf st').size + x ≤ a₀.size + 1) (Q := fun c st' => c = (none, ()) ∧ SBL lt a₀ κ a₀.size st' ∧ (pendingOf st').size ≤ 1) ?_ (fun c st' ⟨z1, z2, z3⟩ => ⟨z1, z2, by (first | lia | omega)⟩) ⟨rfl, hB1, by have := hB1.sb.cov.le; rw [Array.length_toList] at this; (first | lia | omega)⟩) ?_)
    · rintro x c st2 _ _ ⟨rfl, hB2, hp2⟩
      try dsimp only
      refine wpS_bind (wpS_get ?_)
      try dsimp only
      by_cases c2 : (pendingOf st2).size ≤ 1
      · rw [if_pos c2]
        exact wpS_pure ⟨rfl, hB2, c2⟩
      · rw [if_neg c2]
        have hx : ∀ b : Bool, (if b = true then (pendingOf st2).size - 2 - 1 else (pendingOf st2).size - 2) + 1 < (pendingOf st2).size := fun b => by
          cases b
          · rw [if_neg Bool.false_ne_true]; (first | lia | omega)
          · rw [if_pos rfl]; (first | lia | omega)
        refine wpS_bind (wpS_mergeAtL o hc h0 hB2 (Nat.le_refl _) (hx _) fun st3 hB3 _ hs3 => ?_)
        rw [if_neg (by decide)]
        exact wpS_pure ⟨rfl, hB3, by (first | lia | omega)⟩
    · rintro c st2 ⟨rfl, hB2, hp2⟩
      refine wpS_pure (h st2 hB2.sb.arr ?_ hB2.sb.fail)
      have hz2 := hB2.sb.size
      have hcov := hB2.sb.cov
      have hups := hB2.ups
      have hpl : (pendingOf st2).toList.length ≤ 1 := by rw [Array.length_toList]; exact hp2
      match hl : (pendingOf st2).toList, hpl with
      | [], _ =>
        rw [hl] at hcov
        have h0 : 0 = a₀.size := hcov
        refine so_of (n := 0) (fun x y _ _ _ _ h3 => by (first | lia | omega)) (by (first | lia | omega))
      | [z], _ =>
        rw [hl] at hcov hups
        obtain ⟨z1, z2, z3⟩ := hcov
        have z3' : 0 + z.2.1 = a₀.size := z3
        have hu := hups z (List.mem_singleton.mpr rfl)
        rw [z1, z3'] at hu
        exact so_of hu (by (first | lia | omega))
end
end Srd

namespace Srd
open PySem PyProof.Rows Srt PySem.W
section
variable {prog : Program} {w : World} {A : Around} {E : Value → Shared → Prop} {s : Shared}
/-- these can be sorted in this state by this order -/
def SortableL (prog : Program) (w : World) (A : Around) (lv : Value → Value → Bool) (vs : List Value) (s : Shared) : Prop :=
  ∃ κ, (∀ (Q : SortKind → Shared → Prop) (E : Value → Shared → Prop), Q κ s → wpAny (model prog w) A (keyKind' vs.toArray) Q E s) ∧ CmpL prog w A s κ (fun p => p ∈ (pairsOf vs).toList) fun x y => lv x.1 y.1
theorem zip_self_eq {vs : List Value} {p : Keyed} (h : p ∈ (pairsOf vs).toList) : p.1 = p.2 := by
  rw [pairsOf_toList] at h
  obtain ⟨i, hi⟩ := List.mem_iff_getElem?.mp h
  rw [List.getElem?_zip_eq_some] at hi
  have := hi.1.symm.trans hi.2
  exact Option.some.inj this
theorem so_short {lt : Keyed → Keyed → Bool} {vs : List Value} (h : vs.length < 2) : So lt (pairsOf vs).toList := List.pairwise_iff_getElem.mpr fun i j hi hj hij => by
  rw [Array.length_toList, pairsOf_size] at hi hj
  (first | lia | omega)
theorem snds_so {lv : Value → Value → Bool} {vs : List Value} {xs : Array Keyed} (hp : xs.toList.Perm (pairsOf vs).toList) (h : So (fun x y => lv x.1 y.1) xs.toList) : (xs.map (·.2)).toList.Pairwise (fun u v => lv v u = false) := by
  rw [Array.toList_map, List.pairwise_map]
  refine List.Pairwise.imp_of_mem (fun {x y} hx hy hxy => ?_) h
  have hxy' : lv y.1 x.1 = false := hxy
  rw [zip_self_eq (hp.mem_iff.mp hx), zip_self_eq (hp.mem_iff.mp hy)] at hxy'
  exact hxy'
theorem list_sort_L {lv : Value → Value → Bool} (o : Swo fun x y => lv x.1 y.1) {a : Addr} {vs : List Value} {n : Nat} {P : Fin → Shared → Prop} (ho : s.heap.get? a = some (seqObj "list" vs.toArray n)) (hlen : vs.length ≤ 90000)
    (hc : ∀ h6 : Heap, (∀ b o, b ≠ a → s.heap.get? b = some o → h6.get? b = some o) → 2 ≤ vs.length → SortableL prog w A lv vs { s with heap := h6 })
    (h : ∀ out : Array Value, out.toList.Perm vs → out.toList.Pairwise (fun u v => lv v u = false) → P (.done (.ret .none)) { s with heap := sortedHeap s.heap a vs out }) : wpAny (model prog w) A (Builtin.«list.sort» ⟨[.ref a], []⟩) P E s := by
  have hv : vs.toArray.size ≤ sizeLine := by rw [List.size_toArray, sizeLine_eq]; (first | lia | omega)
  have ha : a < s.heap.objs.size := Heap.lt_size ho
  obtain ⟨e1, ho1⟩ : ∃ e1, (s.heap.update a (Obj.mapSeq fun _ => #[])).get? a = some (seqObj "list" #[] e1) := ⟨_, get?_update_seq ho (fun _ => #[])⟩
  rw [list_sort_plain]
  refine wpAny_bind (listItems_at ho rfl (wpAny_bind (listUpdate_at ho rfl (wpAny_bind (seqEpoch_at ho1 rfl (wpAny_bind (wpAny_newTuple (wpAny_bind (wpAny_newList (wpAny_holding ?_)))))))  hv (Nat.zero_le _))))
  have nT : a ≠ (s.heap.update a (Obj.mapSeq fun _ => #[])).objs.size := by rw [Heap.size_update]; exact Nat.ne_of_lt ha
  have nL : a ≠ ((s.heap.update a (Obj.mapSeq fun _ => #[])).push (seqObj "tuple" vs.toArray 0)).objs.size := by rw [size_push', Heap.size_update]; exact Nat.ne_of_lt (Nat.lt_succ_of_lt ha)
  have ho6 : (((s.heap.update a (Obj.mapSeq fun _ => #[])).push (seqObj "tuple" vs.toArray 0)).push (seqObj "list" #[] 0)).get? a = some (seqObj "list" #[] e1) := by
    rw [Heap.get?_push_ne _ _ _ nL, Heap.get?_push_ne _ _ _ nT]
    exact ho1
  have hkeep : ∀ b o, b ≠ a → s.heap.get? b = some o → (((s.heap.update a (Obj.mapSeq fun _ => #[])).push (seqObj "tuple" vs.toArray 0)).push (seqObj "list" #[] 0)).get? b = some o := fun b o hb e => by
    refine Heap.get?_push_of_some _ (Heap.get?_push_of_some _ ?_)
    rw [Heap.get?_update_other _ _ hb.symm]
    exact e
  show wpAny (model prog w) A _ P E { s with heap := ((s.heap.update a (Obj.mapSeq fun _ => #[])).push (seqObj "tuple" vs.toArray 0)).push (seqObj "list" #[] 0) }
  dsimp only
  by_cases h2 : vs.toArray.size < 2
  · rw [if_pos h2, if_pos h2]
    refine wpAny_bind (wpAny_pure ?_)
    rw [StateT.run_pure]
    refine wpAny_bind (wpAny_pure (wpAny_bind (seqEpoch_at ho6 rfl (wpAny_bind (listUpdate_at ho6 rfl ?_ (Nat.zero_le _) ?_)))))
    · simp only [bne_self_eq_false, Bool.false_eq_true, if_false]
      exact wpAny_pure (h _ (snds_perm (xs := pairsOf vs) (List.Perm.refl _)) (snds_so (xs := pairsOf vs) (List.Perm.refl _) (so_short (by rw [List.size_toArray] at h2; exact h2))))
    · show ((pairsOf vs).map (·.2)).size ≤ _
      rw [Array.size_map, pairsOf_size, sizeLine_eq]
      (first | lia | omega)
  · rw [if_neg h2, if_neg h2]
    rw [List.size_toArray] at h2
    obtain ⟨κ, hkk, hcm⟩ := hc _ hkeep (by (first | lia | omega))
    refine wpAny_bind (hkk _ _ ?_)
    refine wpAny_bind (wpAny_mono (wpS_runsL (a₀ := pairsOf vs) (Q := fun _ st' => (arrOf st').toList.Perm (pairsOf vs).toList ∧ So (fun x y => lv x.1 y.1) (arrOf st').toList ∧ failedOf st' = none) o hcm (fun p hp => hp) ⟨⟨List.Perm.refl _, rfl, rfl, rfl⟩, fun z hz => (nomatch hz)⟩ fun st' a1 a3 a2 => ⟨a1, a3, a2⟩) ?_ fun _ _ e => e)
    rintro ⟨⟨⟩, st'⟩ s' ⟨rfl, hp, hso, hf⟩
    dsimp only
    refine wpAny_bind (seqEpoch_at ho6 rfl (wpAny_bind (listUpdate_at ho6 rfl ?_ (Nat.zero_le _) ?_)))
    · rw [hf]
      simp only [bne_self_eq_false, Bool.false_eq_true, if_false]
      exact wpAny_pure (h _ (snds_perm hp) (snds_so hp hso))
    · have hp' : (arrOf st').toList.Perm (pairsOf vs).toList := hp
      have := hp'.length_eq
      rw [Array.length_toList, Array.length_toList, pairsOf_size] at this
      show ((arrOf st').map (·.2)).size ≤ _
      rw [Array.size_map, sizeLine_eq]
      (first | lia | omega)
/-- sorted of what is gone through: a new list of its items, rising -/
theorem sorted_colL {lv : Value → Value → Bool} (o : Swo fun x y => lv x.1 y.1) {v : Value} {C : List Value → Prop} {Q : Value → Shared → Prop}
    (hcol : ∀ (Q' : List Value → Shared → Prop) (E' : Value → Shared → Prop), (∀ (ys : List Value) (h' : Heap) (tk : Nat) (d : Drawn), (∀ b o, s.heap.get? b = some o → h'.get? b = some o) → C ys → ys.length ≤ 90000 → s.heap.objs.size ≤ h'.objs.size → Q' ys { s with heap := h', toks := tk, drawn := d }) → wpAny (model prog w) A.in1 (collect v) Q' E' s)
    (hc : ∀ (ys : List Value) (h6 : Heap) (tk : Nat) (d : Drawn), C ys → (∀ b o, s.heap.get? b = some o → h6.get? b = some o) → 2 ≤ ys.length → SortableL prog w A.in1.in1 lv ys { s with heap := h6, toks := tk, drawn := d })
    (q : ∀ (p : Addr) (ys : List Value) (out : Array Value) (h' : Heap) (tk : Nat) (d : Drawn) (c : Nat), C ys → out.toList.Perm ys → out.toList.Pairwise (fun u v => lv v u = false) → (∀ b o, s.heap.get? b = some o → h'.get? b = some o) → h'.get? p = some (seqObj "list" out c) → s.heap.objs.size ≤ p → out.size ≤ 90000 → Q (.ref p) { s with heap := h', toks := tk, drawn := d }) :
    wpAny (model prog w) A (call (.builtin "sorted") [v]) Q E s := by
  refine Calls.call_function_entry kind_sorted plain_sorted entry_sorted (args_sorted1 _) ?_
  unfold Builtin.«sorted»
  refine wpAny_bind (m := checkCount "sorted" 1 1 _) (wpAny_pure (wpAny_bind (hcol _ _ fun ys h1 tk d k1 hC hyl hle => wpAny_bind (wpAny_newList ?_ (by rw [sizeLine_eq]; (first | lia | omega))))))
  have hoL : (h1.push (seqObj "list" ys.toArray 0)).get? h1.objs.size = some (seqObj "list" ys.toArray 0) := Heap.get?_push_size _ rfl
  have keep : ∀ b o, s.heap.get? b = some o → (h1.push (seqObj "list" ys.toArray 0)).get? b = some o := fun b o e => Heap.get?_push_of_some _ (k1 b o e)
  have hbp : ∀ b o, s.heap.get? b = some o → h1.objs.size ≠ b := fun b o e => Nat.ne_of_gt (Nat.lt_of_lt_of_le (Heap.lt_size e) hle)
  change wpAny _ _ _ _ _ { s with heap := h1.push (seqObj "list" ys.toArray 0), toks := tk, drawn := d }
  refine wpAny_bind (wpAny_holding (wpAny_call_entry slot_list_sort ⟨_, hoL, rfl⟩ entry_list_sort (list_sort_L (s := { s with heap := h1.push (seqObj "list" ys.toArray 0), toks := tk, drawn := d }) o hoL (by (first | lia | omega)) (fun h6 k6 h2 => hc ys h6 tk d hC (fun b o e => k6 b o (hbp b o e).symm (keep b o e)) h2) fun out hp hso => ⟨_, rfl, ?_⟩) (args_list_sort _)))
  generalize h1.push (seqObj "list" ys.toArray 0) = h5 at hoL keep
  obtain ⟨e1, ho1⟩ : ∃ e1, (h5.update h1.objs.size (Obj.mapSeq fun _ => #[])).get? h1.objs.size = some (seqObj "list" #[] e1) := ⟨_, get?_update_seq hoL (fun _ => #[])⟩
  have ho6 := Heap.get?_push_of_some (seqObj "list" #[] 0) (Heap.get?_push_of_some (seqObj "tuple" ys.toArray 0) ho1)
  have hol : out.size ≤ 90000 := by rw [← Array.length_toList, hp.length_eq]; exact hyl
  refine wpAny_pure ⟨_, rfl, q h1.objs.size ys out (sortedHeap h5 h1.objs.size ys out) tk d _ hC hp hso (fun b o e => ?_) (get?_update_seq ho6 (fun _ => out)) hle hol⟩
  unfold sortedHeap
  rw [Heap.get?_update_other _ _ (hbp b o e)]
  refine Heap.get?_push_of_some _ (Heap.get?_push_of_some _ ?_)
  rw [Heap.get?_update_other _ _ (hbp b o e)]
  exact keep b o e
end
section
variable {prog : Program} {w : World} {A : Around} {E : Value → Shared → Prop} {s : Shared} {T : String} {r d : Addr} {n : Nat} {P : Nat → Value → Prop} {OK : Heap → Prop}
/-- what is gone through, item by item -/
theorem collect_src {Q : List Value → Shared → Prop} (K : KdlSrc prog w T r d n P OK) (hh : A.handled = none) (hok : OK s.heap) (hn : n ≤ sizeLine)
    (q : ∀ (acc : Array Value) (h' : Heap) (tk : Nat), (∀ b o, s.heap.get? b = some o → h'.get? b = some o) → ItemsOf P acc n → s.heap.objs.size ≤ h'.objs.size → Q acc.toList { s with heap := h', toks := tk }) : wpAny (model prog w) A (collect (.ref r)) Q E s := by
  unfold collect
  refine wpAny_bind (wpAny_runValue (codeAny_builtin entry_proto_collect' ?_))
  change wpAny _ _ (do again (.builtin "list.__iadd__" ⟨[← newList [], .ref r], []⟩)) _ _ s
  refine wpAny_bind (wpAny_newList (wpAny_pure ⟨Code.quiet_builtin _ (by decide +kernel), codeAny_builtin entry_list_iadd' ?_⟩))
  change wpAny _ A.in1 (Builtin.List.listExtendWith (.ref s.heap.objs.size) (.ref r) (.ref s.heap.objs.size)) _ _ { s with heap := s.heap.push (seqObj "list" #[] 0) }
  have hlt := K.there _ hok
  refine kdl_extend (R := wants (fun v s' => wpAny (model prog w) A (match v with
          | Value.ref a => do
            let o ← load a
            match o.data with
            | .seq xs _ => pure xs.toList
            | _ => unsupported "internal:collect"
          | _ => unsupported "internal:collect") Q E s') E) (s := { s with heap := s.heap.push (seqObj "list" #[] 0) }) K hh (K.keep _ _ hok fun b _ o e => Heap.get?_push_of_some _ e) s.heap.objs.size (Nat.ne_of_gt hlt.1) (Nat.ne_of_gt hlt.2) _ 0 (Heap.get?_push_size _ rfl) (fun h' tk acc c kp hS hit => ?_) hn
  refine wpAny_bind (wpAny_load hS ?_)
  refine wpAny_pure ?_
  exact q acc h' tk (fun b o e => kp b o (Nat.ne_of_lt (Heap.lt_size e)) (Heap.get?_push_of_some _ e)) hit (Nat.le_of_lt (Heap.lt_size hS))
end
end Srd

/-! a list has no keys() -/
namespace Srd
open PySem PyProof.Rows
theorem lk_list_keys : typeLookup (.type "list") "keys" = pure none := by rw [typeLookup_type, builtinLookup_eq_fast]; kernel_rfl
theorem isSubtype_attr : isSubtype (.type "AttributeError") (.type "AttributeError") = pure true := by rw [isSubtype_type]; kernel_rfl
section
variable {prog : Program} {w : World} {A : Around} {E : Value → Shared → Prop} {h : Heap} {g : Array GenState} {d : Drawn} {t : Nat} {os : OsState} {a : Addr}
theorem raise_attr {α : Type} {Q : α → Shared → Prop} {o : Value} {name msg : Str} (hh : A.handled = none) (hm : msg.length ≤ sizeLine) (hq : ∀ (x : Addr) (h' : Heap) (tk : Nat), (∀ b u, h.get? b = some u → h'.get? b = some u) → (∃ ob, h'.get? x = some ob ∧ ob.cls = .type "AttributeError") → h.objs.size ≤ h'.objs.size → E (.ref x) ⟨h', g, d, tk, os⟩) :
    wpAny (model prog w) A (raiseAttrError o name msg : Sem α) Q E ⟨h, g, d, t, os⟩ := by
  unfold raiseAttrError
  repeat (any_goals (first | assumption | wp_step))
  refine wpAny_of_eq isSubtype_attr ?_
  rw [if_neg (by decide)]
  generalize hfa : (if ((Manifest.find? "AttributeError").elim false fun t => t.mro.contains "StopIteration" || t.mro.contains "SystemExit") = true then [Value.str msg t].headD Value.none else Value.none) = fa
  have k1 : ∀ b u, h.get? b = some u → (h.push { cls := Value.type "tuple", data := Data.seq #[Value.str msg t] }).get? b = some u := fun b u e => Heap.get?_push_of_some _ e
  have z1 : (h.push { cls := Value.type "tuple", data := Data.seq #[Value.str msg t] }).objs.size = h.objs.size + 1 := Heap.size_push ..
  generalize h.push { cls := Value.type "tuple", data := Data.seq #[Value.str msg t] } = h1 at k1 z1
  have e1 : (h1.push { cls := Value.type "AttributeError", data := Data.fields (#[Value.ref h.objs.size, Value.none, Value.none, Value.none, Value.bool false, fa] ++ ownMembersOf (Value.type "AttributeError") [Value.str msg t]) }).get? h1.objs.size = some { cls := Value.type "AttributeError", data := Data.fields (#[Value.ref h.objs.size, Value.none, Value.none, Value.none, Value.bool false, fa] ++ ownMembersOf (Value.type "AttributeError") [Value.str msg t]) } := Heap.get?_push_size _ rfl
  have k2 : ∀ b u, h.get? b = some u → (h1.push { cls := Value.type "AttributeError", data := Data.fields (#[Value.ref h.objs.size, Value.none, Value.none, Value.none, Value.bool false, fa] ++ ownMembersOf (Value.type "AttributeError") [Value.str msg t]) }).get? b = some u := fun b u e => Heap.get?_push_of_some _ (k1 b u e)
  have z2 : (h1.push { cls := Value.type "AttributeError", data := Data.fields (#[Value.ref h.objs.size, Value.none, Value.none, Value.none, Value.bool false, fa] ++ ownMembersOf (Value.type "AttributeError") [Value.str msg t]) }).objs.size = h1.objs.size + 1 := Heap.size_push ..
  generalize h1.push { cls := Value.type "AttributeError", data := Data.fields (#[Value.ref h.objs.size, Value.none, Value.none, Value.none, Value.bool false, fa] ++ ownMembersOf (Value.type "AttributeError") [Value.str msg t]) } = h2 at e1 k2 z2
  refine wpAny_bind (wpAny_load e1 ?_)
  dsimp only
  have v6 : (#[Value.ref h.objs.size, Value.none, Value.none, Value.none, Value.bool false, fa] ++ ownMembersOf (Value.type "AttributeError") [Value.str msg t])[6]? = some unsetMember := rfl
  have v7 : (#[Value.ref h.objs.size, Value.none, Value.none, Value.none, Value.bool false, fa] ++ ownMembersOf (Value.type "AttributeError") [Value.str msg t])[7]? = some unsetMember := rfl
  refine wpAny_ite_split (fun hab => absurd hab (by rw [v6, v7]; decide)) (fun _ => wpAny_ite_split (fun hab => absurd hab (by rw [v6, v7]; decide)) (fun _ => wpAny_pure ?_))
  rw [if_pos rfl]
  refine wpAny_bind (wpAny_rule (wpAny_bind (wpAny_typeOf (T := "AttributeError") ⟨_, e1, rfl⟩ ?_)))
  dsimp only
  unfold layMembers
  refine wpAny_bind (wpAny_load e1 ?_)
  dsimp only
  refine wpAny_update e1 ?_
  unfold raiseNew
  refine wpAny_bind (wpAny_handled ?_)
  rw [hh]
  refine wpAny_throw (hq _ _ _ (fun b u e => ?_) ?_ ?_)
  · rw [Heap.get?_update_other _ _ (show h1.objs.size ≠ b from fun z => ?_)]
    · exact k2 b u e
    · have := Heap.lt_size e
      have h3 : h1.objs.size < h.objs.size := z ▸ this
      (first | lia | omega)
  · exact ⟨_, Heap.get?_update_self _ e1 rfl, rfl⟩
  · rw [Heap.size_update]
    show h.objs.size ≤ h2.objs.size
    (first | lia | omega)
theorem miss_entry_list {tk : Tok} {Q : Fin → Shared → Prop} {its : Array Value} {n : Nat} {sl : Array (Option Value)} (hh : A.handled = none) (hx : h.get? a = some { cls := .type "list", dict := none, data := .seq its n, slots := sl }) (hq : ∀ (x : Addr) (h' : Heap) (tk : Nat), (∀ b u, h.get? b = some u → h'.get? b = some u) → (∃ ob, h'.get? x = some ob ∧ ob.cls = .type "AttributeError") → h.objs.size ≤ h'.objs.size → E (.ref x) ⟨h', g, d, tk, os⟩) :
    wpAny (model prog w) A (Builtin.«object.__getattribute__» ⟨[.ref a, .str "keys" tk], []⟩) Q E ⟨h, g, d, t, os⟩ := by
  have hT : (⟨h, g, d, t, os⟩ : Shared).TypeIs (.ref a) "list" := ⟨_, hx, rfl⟩
  have f4 := lk_list_keys
  repeat (any_goals (first | assumption | with_reducible apply raise_attr hh | wp_step))
  decide +kernel
theorem lk_list_getattr : typeLookup (.type "list") "__getattr__" = pure none := by rw [typeLookup_type, builtinLookup_eq_fast]; kernel_rfl
theorem miss_call_list {tk : Tok} {R : Result → Shared → Prop} {its : Array Value} {n : Nat} {sl : Array (Option Value)} (hh : A.handled = none) (hx : h.get? a = some { cls := .type "list", dict := none, data := .seq its n, slots := sl }) (hq : ∀ (x : Addr) (h' : Heap) (tk : Nat), (∀ b u, h.get? b = some u → h'.get? b = some u) → (∃ ob, h'.get? x = some ob ∧ ob.cls = .type "AttributeError") → h.objs.size ≤ h'.objs.size → R (.error (.ref x)) ⟨h', g, d, tk, os⟩) :
    codeAny (model prog w) A (.call (.builtin "list.__getattribute__") ⟨[.ref a, .str "keys" tk], []⟩) R ⟨h, g, d, t, os⟩ :=
  codeAny_call_builtin F.slot_list_getattribute.plain F.entry_list_ga (F.slot_list_getattribute.check _ _ _ _ _ _ _ _ (show (⟨h, g, d, t, os⟩ : Shared).TypeIs (.ref a) "list" from ⟨_, hx, rfl⟩) (F.args_list_getattribute_2 _ _) (miss_entry_list hh hx hq))
theorem miss_by_list {tk : Tok} {Q : Value → Shared → Prop} {its : Array Value} {n : Nat} {sl : Array (Option Value)} (hh : A.handled = none) (hx : h.get? a = some { cls := .type "list", dict := none, data := .seq its n, slots := sl }) (hq : ∀ (x : Addr) (h' : Heap) (tk : Nat), (∀ b u, h.get? b = some u → h'.get? b = some u) → (∃ ob, h'.get? x = some ob ∧ ob.cls = .type "AttributeError") → h.objs.size ≤ h'.objs.size → E (.ref x) ⟨h', g, d, tk, os⟩) :
    wpAny (model prog w) A (getAttrBy (.ref a) (.str "keys" tk) false) Q E ⟨h, g, d, t, os⟩ := by
  have hT : (⟨h, g, d, t, os⟩ : Shared).TypeIs (.ref a) "list" := ⟨_, hx, rfl⟩
  have f2 := F.slot_list_getattribute.lookup
  have f3 := F.slot_list_getattribute.bind (.ref a)
  have f4 := lk_list_getattr
  repeat (any_goals (first | assumption | wp_step))
  refine miss_call_list hh hx fun x h' tk' k1 k2 k3 => ?_
  obtain ⟨ob, e2, c2⟩ := k2
  dsimp only
  unfold getattributeRaised
  refine wpAny_bind (wpAny_isInstance (T := "AttributeError") (b := true) ⟨ob, e2, c2⟩ isSubtype_attr ?_)
  rw [if_pos rfl]
  unfold hookBehind
  rw [if_neg (by decide)]
  refine wpAny_bind (wpAny_of_eq f4 ?_)
  unfold hookOrError attributeErrorLeaves
  dsimp only
  rw [if_pos (by decide)]
  exact wpAny_bind (wpAny_throw (hq x h' tk' k1 ⟨ob, e2, c2⟩ k3))
theorem miss_attr_list {Q : Option Value → Shared → Prop} {its : Array Value} {n : Nat} {sl : Array (Option Value)} (hh : A.handled = none) (hx : h.get? a = some { cls := .type "list", dict := none, data := .seq its n, slots := sl }) (hq : ∀ (h' : Heap) (tk : Nat), (∀ b u, h.get? b = some u → h'.get? b = some u) → h.objs.size ≤ h'.objs.size → Q none ⟨h', g, d, tk, os⟩) :
    wpAny (model prog w) A (getAttr? (.ref a) "keys") Q E ⟨h, g, d, t, os⟩ := by
  unfold getAttr? getAttrBy?
  repeat (any_goals (first | assumption | with_reducible apply miss_by_list hh hx | wp_step))
  intro x h' tk' k1 k2 k3
  obtain ⟨ob, e2, c2⟩ := k2
  dsimp only
  refine wpAny_bind (wpAny_isInstance (T := "AttributeError") (b := true) ⟨ob, e2, c2⟩ isSubtype_attr ?_)
  rw [if_pos rfl]
  exact wpAny_pure (hq h' tk' k1 k3)
end
end Srd

/-! dict(list of pairs) -/
namespace Srd
open PySem PyProof.Rows
theorem entry_dict_update_loop : entryFor table "dict.update.loop" = some Builtin.«dict.update.loop» := entryFor_of_tree (by kernel_rfl)
theorem plain_dict_update_loop : plainId "dict.update.loop" = true := by decide +kernel
section
variable {prog : Program} {w : World} {K : Type} [DecidableEq K] {knd : KeyKind prog w K} {A : Around} {E : Value → Shared → Prop} {R : Result → Shared → Prop}
/-- a pair, as a value -/
def PairAt (knd : KeyKind prog w K) (h : Heap) (v : Value) (k : K) (u : Value) : Prop := ∃ b o n uk, v = .ref b ∧ h.get? b = some o ∧ o.cls = .type "tuple" ∧ o.data = .seq #[uk, u] n ∧ knd.is k uk = true
def PairsAt (knd : KeyKind prog w K) (h0 : Heap) (d : Addr) (items : Array Value) (ps : List (K × Value)) : Prop := items.size = ps.length ∧ ∀ (i : Nat) v p, items[i]? = some v → ps[i]? = some p → ∀ h : Heap, (∀ b o, b < d → h0.get? b = some o → h.get? b = some o) → PairAt knd h v p.1 p.2
theorem pair_items {s : Shared} {v : Value} {k : K} {u : Value} {Q : List Value → Shared → Prop} (hp : PairAt knd s.heap v k u) (q : ∀ uk, knd.is k uk = true → Q [uk, u] s) : wpAny (model prog w) A (Builtin.Dict.pairItems v) Q E s := by
  obtain ⟨b, o, n, uk, rfl, ho, hc, hd, hk⟩ := hp
  unfold Builtin.Dict.pairItems
  refine wpAny_bind (wpAny_typeOf (T := "tuple") ⟨o, ho, hc⟩ ?_)
  rw [if_pos (by decide)]
  refine wpAny_bind (wpAny_seqItems ho hd (wpAny_pure (q uk hk)))
set_option maxHeartbeats 1000000 in
theorem dict_loop {h0 : Heap} {D I l : Addr} {items : Array Value} {ps : List (K × Value)} (hh : A.in1.handled = none) (ht : PairsAt knd h0 D items ps) (hDI : D < I) (hlI : l ≠ I) (hn : items.size ≤ 100000) : ∀ (k i : Nat) (j : Int) (jt : Tok) (s : Shared), items.size - i = k → i ≤ items.size → (s.heap.IsListIter I l i ∧ s.heap.IsList l items) → l < D → s.heap.DictOf knd D (merged [] (ps.take i)) → (∀ b o, b < D → h0.get? b = some o → s.heap.get? b = some o) →
      (∀ h' tk, h'.DictOf knd D (merged [] ps) → (∀ b o, b < D → h0.get? b = some o → h'.get? b = some o) → R (.ok (.ret .none)) { s with heap := h', toks := tk }) → codeAny (model prog w) A (.builtin "dict.update.loop" ⟨[.ref D, .ref I, .int j jt, .none], []⟩) R s := by
  have W := Walks.list (prog := prog) (w := w) (A := A.in1) hh I l hlI items
  have DK : ∀ {h h' : Heap} {kvs : List (K × Value)}, h.DictOf knd D kvs → (∀ b o, b ≤ D → h.get? b = some o → h'.get? b = some o) → h'.DictOf knd D kvs := fun {h h' kvs} ⟨o, es, ep, ho, r⟩ hk => ⟨o, es, ep, hk D o (Nat.le_refl _) ho, r⟩
  intro k
  induction k with
  | zero =>
    intro i j jt s hk hi hst hlD hd hb hR
    obtain rfl : i = items.size := by (first | lia | omega)
    refine codeAny_builtin entry_dict_update_loop ?_
    rw [Around.under_plainId plain_dict_update_loop _]
    change wpAny _ A.in1 (pyNext (.ref I) >>= _) _ _ s
    refine wpAny_bind (W.done s _ _ hst fun h' tk hm => ?_)
    change wpAny _ A.in1 (Builtin.Dict.addKeywords D [] >>= fun _ => ret Value.none) _ _ _
    refine wpAny_bind ?_
    unfold Builtin.Dict.addKeywords
    refine wpAny_pure (wpAny_pure ?_)
    rw [ht.1, List.take_length] at hd
    exact hR h' tk (DK hd fun b o hb' e => hm b o (fun z => Nat.lt_irrefl _ (Nat.lt_of_le_of_lt (List.mem_singleton.mp z ▸ hb') hDI)) e) fun b o hb' e => hm b o (fun z => Nat.lt_irrefl _ (Nat.lt_trans (List.mem_singleton.mp z ▸ hb') hDI)) (hb b o hb' e)
  | succ k ih =>
    intro i j jt s hk hi hst hlD hd hb hR
    have hlt : i < items.size := by (first | lia | omega)
    refine codeAny_builtin entry_dict_update_loop ?_
    rw [Around.under_plainId plain_dict_update_loop _]
    change wpAny _ A.in1 (pyNext (.ref I) >>= _) _ _ s
    refine wpAny_bind (W.item i s _ _ hlt hst fun v h' tk hP hst' hm => ?_)
    have hd' : h'.DictOf knd D (merged [] (ps.take i)) := DK hd fun b o hb' e => hm b o (fun z => Nat.lt_irrefl _ (Nat.lt_of_le_of_lt (List.mem_singleton.mp z ▸ hb') hDI)) e
    have hb1 : ∀ b o, b < D → h0.get? b = some o → h'.get? b = some o := fun b o hb' e => hm b o (fun z => Nat.lt_irrefl _ (Nat.lt_trans (List.mem_singleton.mp z ▸ hb') hDI)) (hb b o hb' e)
    have hpl : i < ps.length := by have := ht.1; (first | lia | omega)
    have hp := ht.2 i v ps[i] hP (List.getElem?_eq_getElem hpl) h' hb1
    refine wpAny_bind (wpAny_holding (wpAny_bind (wpAny_tryCatch (pair_items (s := { s with heap := h', toks := tk }) hp fun uk huk => ?_))))
    dsimp only
    have hml : (merged [] (ps.take i)).length ≤ sizeLine := by
      have := merged_length_le ([] : List (K × Value)) (ps.take i)
      rw [List.length_take] at this
      have h0l : ([] : List (K × Value)).length = 0 := rfl
      have := ht.1
      rw [sizeLine_eq]
      (first | lia | omega)
    refine wpAny_holding (wpAny_dictSet_pairs (s := { s with heap := h', toks := tk }) (hsz := hml) huk hd' fun h2 hd2 sb => ?_)
    have hk2 : ∀ b o, b ≠ D → h'.get? b = some o → h2.get? b = some o := fun b o hb e => (sb.2 b hb).trans e
    refine wpAny_pure ⟨plainId_quiet plain_dict_update_loop _, ih (i + 1) (j + 1) 0 _ (by (first | lia | omega)) hlt ?_ hlD ?_ (fun b o hb' e => hk2 b o (Nat.ne_of_lt hb') (hb1 b o hb' e)) fun h3 tk3 hw3 hb3 => hR h3 tk3 hw3 hb3⟩
    · refine W.frame _ h' h2 hst' fun b hb o e => hk2 b o (fun z => ?_) e
      simp only [List.mem_cons, List.not_mem_nil, or_false] at hb
      rcases hb with rfl | rfl
      · exact Nat.lt_irrefl _ (z ▸ hDI)
      · exact Nat.lt_irrefl _ (z ▸ hlD)
    · rw [merged_take_succ [] ps i ps[i] (List.getElem?_eq_getElem hpl)]
      exact hd2
set_option maxHeartbeats 1000000 in
theorem call_dict_pairs {s : Shared} {l : Addr} {items : Array Value} {n : Nat} {sl : Array (Option Value)} {ps : List (K × Value)} {Q : Value → Shared → Prop} (hh : A.handled = none) (hl : s.heap.get? l = some { cls := .type "list", dict := none, data := .seq items n, slots := sl }) (ht : PairsAt knd s.heap s.heap.objs.size items ps) (hn : items.size ≤ 100000)
    (q : ∀ (h' : Heap) (tk : Nat), h'.DictOf knd s.heap.objs.size (merged [] ps) → (∀ b o, s.heap.get? b = some o → h'.get? b = some o) → Q (.ref s.heap.objs.size) { s with heap := h', toks := tk }) :
    wpAny (model prog w) A (call (.type "dict") [.ref l]) Q E s := by
  refine callType_codes (Q₁ := fun obj s₁ => obj = .ref s.heap.objs.size ∧ s₁ = { s with heap := s.heap.push { cls := .type "dict", data := .dict #[] } }) F.kt_called_dict (F.kt_typeCall_dict_1 _) F.entry_dict_init (kt_code_dict_new _ ⟨rfl, rfl⟩) ?_
  rintro obj s₁ ⟨rfl, rfl⟩
  have hnew : (s.heap.push { cls := .type "dict", data := .dict #[] }).DictOf knd s.heap.objs.size [] := Heap.DictOf.new s.heap
  have hl1 : (s.heap.push { cls := .type "dict", data := .dict #[] }).get? l = some { cls := .type "list", dict := none, data := .seq items n, slots := sl } := Heap.get?_push_of_some _ hl
  have hlD : l < s.heap.objs.size := Heap.lt_size hl
  have k0 : ∀ b o, b < s.heap.objs.size → s.heap.get? b = some o → (s.heap.push { cls := .type "dict", data := .dict #[] }).get? b = some o := fun b o _ e => Heap.get?_push_of_some _ e
  have z0 : (s.heap.push { cls := .type "dict", data := .dict #[] }).objs.size = s.heap.objs.size + 1 := Heap.size_push ..
  refine ⟨hnew.typeIs, F.args_dict_init_2 _ _, ?_⟩
  generalize s.heap.push { cls := .type "dict", data := .dict #[] } = h1 at hnew hl1 k0 z0
  unfold Builtin.«dict.__init__»
  refine wpAny_bind ?_
  unfold Builtin.Dict.selfAndRest
  refine wpAny_bind (wpAny_notOrdered_dict hnew.typeIs ?_)
  show wpAny _ _ (pure (s.heap.objs.size, [Value.ref l])) _ _ _
  refine wpAny_pure ?_
  show wpAny _ _ (Builtin.Dict.updateFrom "dict.__init__" s.heap.objs.size (.ref l) [] .none) _ _ _
  unfold Builtin.Dict.updateFrom
  refine wpAny_bind (wpAny_typeOf (T := "list") ⟨_, hl1, rfl⟩ ?_)
  rw [if_pos (by decide)]
  refine wpAny_bind (miss_attr_list hh hl1 fun h2 tk2 k2 z2 => ?_)
  rw [if_pos (show (none : Option Value).isNone = true from rfl)]
  refine wpAny_bind (wpAny_rule ?_)
  have hl2 := k2 _ _ hl1
  have hL2 : h2.IsList l items := ⟨_, hl2, rfl, n, rfl⟩
  refine wpAny_bind (wpAny_pyIter_list hL2 ?_)
  have hd2 : h2.DictOf knd s.heap.objs.size [] := let ⟨o, es, ep, ho, r⟩ := hnew; ⟨o, es, ep, k2 _ _ ho, r⟩
  have hd3 : (h2.push { cls := .type "list_iterator", data := .fields #[.ref l, .int 0 0] }).DictOf knd s.heap.objs.size [] := hd2.push _
  have hsz : s.heap.objs.size < h2.objs.size := by (first | lia | omega)
  refine wpAny_pure ⟨plainId_quiet plain_dict_update_loop _, ?_⟩
  refine dict_loop (knd := knd) (h0 := s.heap) (by simpa using hh) ht hsz (Nat.ne_of_lt (Nat.lt_trans hlD hsz)) hn (items.size - 0) 0 0 0 _ rfl (Nat.zero_le _) ⟨⟨_, Heap.get?_push_size _ rfl, rfl, rfl⟩, hL2.push _⟩ hlD hd3 (fun b o hb e => Heap.get?_push_of_some _ (k2 _ _ (k0 b o hb e))) fun h' tk hd' hb' => ?_
  exact ⟨rfl, q h' tk hd' fun b o e => hb' b o (Heap.lt_size e) e⟩
end
end Srd

/-! dict(list of pairs) and sorted(dict of ints), as rules -/
namespace L2
open PySem PySem.Spec PyProof.Rows PySem.W
/-- the dict that pairs make -/
def putAll (kvs : List (Key × V)) : List (Key × V) := kvs.foldl (fun m kv => putK m kv.1 kv.2) []
theorem putAll_len_from : ∀ (kvs m : List (Key × V)), (kvs.foldl (fun m kv => putK m kv.1 kv.2) m).length ≤ m.length + kvs.length
  | [], m => Nat.le_refl _
  | kv :: kvs, m => by
    have h1 := putAll_len_from kvs (putK m kv.1 kv.2)
    have h2 := length_putK m kv.1 kv.2
    rw [List.length_cons, List.foldl_cons]
    (first | lia | omega)
theorem putAll_len (kvs : List (Key × V)) : (putAll kvs).length ≤ kvs.length := by
  have := putAll_len_from kvs []
  rw [List.length_nil, Nat.zero_add] at this
  exact this
theorem kv_all : ∀ {kvs : List (Key × V)} {ps : List (Key × Value)} {m : List (Key × V)} {m' : List (Key × Value)}, KV kvs ps → KV m m' → KV (kvs.foldl (fun m kv => putK m kv.1 kv.2) m) (merged m' ps)
  | _, _, _, _, .nil, h => h
  | _, _, m, m', .cons (a := kv) (b := p) r t, h => by
    have e : p.1 = kv.1 := r.1.symm
    have h1 := h.put kv.1 r.2
    have h2 := kv_all t h1
    show KV (List.foldl _ (putK m kv.1 kv.2) _) (merged (stored m' p.1 p.2) _)
    rw [e]
    exact h2
section
variable {X : Cx}
theorem call_dict_list (hc : X.calm = true) : CallR X (.type "dict") (fun xs H Q => ∃ l ys kvs, xs = [.ref l] ∧ SqL X.K H l ys ∧ ys.length ≤ 90000 ∧ Paired (fun (y : V) (kv : Key × V) => ∃ t, y = .ref t ∧ H t = some (.tup [kV kv.1, kv.2])) ys kvs ∧ ∀ d, H d = none → Q (.ref d) (upd H d (.dK (putAll kvs)))) := by
  intro pins s σ H xs us Q I r h
  obtain ⟨l, ys, kvs, rfl, hq, hlen, hp, q⟩ := h
  obtain ⟨u, rfl, ru⟩ := vals1 r
  cases ru
  obtain ⟨its, rv, ⟨o, n, ho, ocl, odi, oda⟩, hz⟩ := I.list hq
  have hl := rv.length
  obtain ⟨ocls, odict, odata, oslots⟩ := o
  simp only at ocl odi oda
  subst ocl odi oda
  -- the pairs as they stand
  have key : ∀ {ys : List V} {kvs : List (Key × V)} {its : List Value}, Paired (fun (y : V) (kv : Key × V) => ∃ t, y = .ref t ∧ H t = some (.tup [kV kv.1, kv.2])) ys kvs → Vals ys its → ∃ ps : List (Key × Value), KV kvs ps ∧ its.length = ps.length ∧ ∀ (i : Nat) v p, its[i]? = some v → ps[i]? = some p → Srd.PairAt (mixKind X.prog X.w) s.heap v p.1 p.2 := by
    intro ys kvs its hp
    induction hp generalizing its with
    | nil =>
      intro rv
      cases rv
      exact ⟨[], .nil, rfl, fun i v p h => (nomatch h)⟩
    | @cons y kv ys kvs r t ih =>
      intro rv
      cases rv with
      | @cons _ v _ its ry rr =>
        obtain ⟨ps, h1, h2, h3⟩ := ih rr
        obtain ⟨ta, rfl, ht⟩ := r
        obtain rfl : v = Value.ref ta := ry
        obtain ⟨_, us, rus, o, ho, hc', n, hd⟩ := I.hok ta _ ht
        obtain ⟨u1, u2, rfl, r1, r2⟩ := Vals.two rus
        refine ⟨(kv.1, u2) :: ps, .cons ⟨rfl, r2⟩ h1, by rw [List.length_cons, List.length_cons, h2], fun i v p e1 e2 => ?_⟩
        cases i with
        | zero =>
          injection e1 with e1
          injection e2 with e2
          subst e1 e2
          exact ⟨ta, o, n, u1, rfl, ho, hc', hd, kV_is r1⟩
        | succ i => exact h3 i v p e1 e2
  obtain ⟨ps, h1, h2, h3⟩ := key hp rv
  refine Srd.call_dict_pairs (knd := mixKind X.prog X.w) (ps := ps) (I.ok.hd hc) ho ⟨by rw [List.size_toArray]; exact h2, fun i v p e1 e2 h' hk => ?_⟩ (by rw [List.size_toArray]; (first | lia | omega)) fun h' tk hd' hk => ?_
  · obtain ⟨b, o, n, uk, e, ho2, r⟩ := h3 i v p (by rw [← e1]; simp) e2
    exact ⟨b, o, n, uk, e, hk b o (Heap.lt_size ho2) ho2, r⟩
  · have hkl : kvs.length = ps.length := h1.length
    have hpl := putAll_len kvs
    exact ⟨.ref _, _, I.laid (t' := tk) (fun b o e => hk b o e) (Nat.le_refl _) (show ObjOk X.prog X.w _ h' _ (.dK (putAll kvs)) from ⟨by rw [sizeLine_eq]; (first | lia | omega), beq_eq_false_iff_ne.mpr (Ne.symm (Nat.ne_of_lt I.big)), _, kv_all h1 .nil, hd'⟩), rfl, q _ (I.hok.fresh (Nat.le_refl _))⟩
end
end L2

/-! arguments without a star: what has no star, by its head alone -/
namespace L2
open PySem PySem.Spec PyProof.Rows
end L2
/-! expressions and arguments, shut: nothing is unfolded while a deep display is put together -/
namespace L2
open PySem PySem.Spec PyProof.Rows
end L2

/-! sets of tuples: every element stands on its own way of probes -/
namespace Stg
open PySem Sts
end Stg

namespace Stg
open PySem Sts
end Stg

namespace Stg
open PySem Sts
end Stg

/-! the order of tuples of an int, a text and two ints -/
namespace Srd
open PySem PyProof.Rows Srt PySem.W
/-- a strict total order -/
structure Sto {α : Type} (lt : α → α → Bool) : Prop where
  irr : ∀ a, lt a a = false
  trans : ∀ a b c, lt a b = true → lt b c = true → lt a c = true
  tri : ∀ a b, lt a b = false → lt b a = false → a = b
section
variable {α β : Type} {lt : α → α → Bool} {lt2 : β → β → Bool}
theorem Sto.asym (o : Sto lt) {a b : α} (h : lt a b = true) : lt b a = false := by
  cases e : lt b a with
  | false => rfl
  | true =>
    have := o.trans a b a h e
    rw [o.irr] at this
    cases this
theorem Sto.neg (o : Sto lt) {x y z : α} (h1 : lt x y = false) (h2 : lt y z = false) : lt x z = false := by
  cases e : lt x z with
  | false => rfl
  | true =>
    cases e2 : lt y x with
    | true => rw [o.trans y x z e2 e] at h2; cases h2
    | false =>
      have := o.tri x y h1 e2
      subst this
      rw [e] at h2
      cases h2
theorem Sto.swo (o : Sto lt) (f : Value → α) : Swo fun x y => lt (f x.1) (f y.1) := ⟨fun _ _ h => o.asym h, fun _ _ _ h1 h2 => o.neg h1 h2⟩
def lexB [DecidableEq α] (lt : α → α → Bool) (lt2 : β → β → Bool) (x y : α × β) : Bool := lt x.1 y.1 || (decide (x.1 = y.1) && lt2 x.2 y.2)
theorem Sto.lex [DecidableEq α] (o : Sto lt) (o2 : Sto lt2) : Sto (lexB lt lt2) where
  irr := fun a => by unfold lexB; rw [o.irr, o2.irr]; simp
  trans := fun a b c h1 h2 => by
    unfold lexB at *
    simp only [Bool.or_eq_true, Bool.and_eq_true, decide_eq_true_eq] at *
    rcases h1 with h1 | ⟨e1, h1⟩
    · rcases h2 with h2 | ⟨e2, h2⟩
      · exact .inl (o.trans _ _ _ h1 h2)
      · exact .inl (e2 ▸ h1)
    · rcases h2 with h2 | ⟨e2, h2⟩
      · exact .inl (e1.symm ▸ h2)
      · exact .inr ⟨e1.trans e2, o2.trans _ _ _ h1 h2⟩
  tri := fun a b h1 h2 => by
    unfold lexB at *
    simp only [Bool.or_eq_false_iff, Bool.and_eq_false_imp, decide_eq_true_eq] at *
    have e1 := o.tri _ _ h1.1 h2.1
    have e2 := o2.tri _ _ (h1.2 e1) (h2.2 e1.symm)
    exact Prod.ext e1 e2
theorem sto_int : Sto fun a b : Int => decide (a < b) := ⟨fun a => by simp, fun a b c h1 h2 => by simp only [decide_eq_true_eq] at *; (first | lia | omega), fun a b h1 h2 => by simp only [decide_eq_false_iff_not] at *; (first | lia | omega)⟩
theorem list_lt_tri : ∀ a b : List Nat, ¬ a < b → ¬ b < a → a = b
  | [], [], _, _ => rfl
  | [], b :: bs, h, _ => absurd (List.nil_lt_cons b bs) h
  | a :: as, [], _, h => absurd (List.nil_lt_cons a as) h
  | a :: as, b :: bs, h1, h2 => by
    rw [List.cons_lt_cons_iff] at h1 h2
    have e : a = b := by
      rcases Nat.lt_trichotomy a b with z | z | z
      · exact absurd (.inl z) h1
      · exact z
      · exact absurd (.inl z) h2
    subst e
    rw [list_lt_tri as bs (fun z => h1 (.inr ⟨rfl, z⟩)) (fun z => h2 (.inr ⟨rfl, z⟩))]
theorem list_lt_irr : ∀ a : List Nat, ¬ a < a
  | [], h => by cases h
  | a :: as, h => by
    rw [List.cons_lt_cons_iff] at h
    rcases h with h | ⟨_, h⟩
    · (first | lia | omega)
    · exact list_lt_irr as h
theorem list_lt_trans : ∀ a b c : List Nat, a < b → b < c → a < c
  | [], _, [], _, h2 => by cases h2
  | [], _, c :: cs, _, _ => List.nil_lt_cons c cs
  | a :: as, [], _, h1, _ => by cases h1
  | a :: as, b :: bs, [], _, h2 => by cases h2
  | a :: as, b :: bs, c :: cs, h1, h2 => by
    rw [List.cons_lt_cons_iff] at *
    rcases h1 with h1 | ⟨e1, h1⟩
    · rcases h2 with h2 | ⟨e2, h2⟩
      · exact .inl (by (first | lia | omega))
      · exact .inl (by (first | lia | omega))
    · rcases h2 with h2 | ⟨e2, h2⟩
      · exact .inl (by (first | lia | omega))
      · exact .inr ⟨by (first | lia | omega), list_lt_trans as bs cs h1 h2⟩
theorem str_ext {x y : Str} (h : x.cps.toList = y.cps.toList) : x = y := by
  cases x
  cases y
  congr 1
  exact Array.toList_inj.mp h
theorem sto_str : Sto fun a b : Str => decide (a.cps.toList < b.cps.toList) := ⟨fun a => decide_eq_false (list_lt_irr _), fun a b c h1 h2 => decide_eq_true (list_lt_trans _ _ _ (of_decide_eq_true h1) (of_decide_eq_true h2)), fun a b h1 h2 => str_ext (list_lt_tri _ _ (of_decide_eq_false h1) (of_decide_eq_false h2))⟩
end
abbrev Qd := Int × Str × Int × Int
def qLt : Qd → Qd → Bool := lexB (fun a b : Int => decide (a < b)) (lexB (fun a b : Str => decide (a.cps.toList < b.cps.toList)) (lexB (fun a b : Int => decide (a < b)) fun a b : Int => decide (a < b)))
end Srd

namespace Stg
open PySem PyProof.Rows PySem.W Sts
end Stg

/-! strong sets of numbers; set(list) for any kind of set -/
namespace Stg
open PySem PyProof.Rows Sts
end Stg

/-! sorted(set(l)) and sorted(l), with all that can be said -/
namespace Srd
end Srd
namespace L2
open PySem PySem.Spec PyProof.Rows PySem.W Srd Sts Stg
def tq (q : Qd) : HO := .tup [.int q.1, .str q.2.1, .int q.2.2.1, .int q.2.2.2]
/-- tuples of an int, a text and two ints, as they lie -/
def QL (H : Hp) (zs : List V) (qs : List Qd) : Prop := Paired (fun z q => ∃ p, z = V.ref p ∧ H p = some (tq q)) zs qs
theorem QL.length {H : Hp} : ∀ {zs : List V} {qs : List Qd}, QL H zs qs → zs.length = qs.length
  | _, _, .nil => rfl
  | _, _, .cons _ t => by rw [List.length_cons, List.length_cons, QL.length t]
theorem QL.get {H : Hp} : ∀ {zs : List V} {qs : List Qd}, QL H zs qs → ∀ (i : Nat) z, zs[i]? = some z → ∃ p q, qs[i]? = some q ∧ z = V.ref p ∧ H p = some (tq q)
  | _, _, .cons ⟨p, e1, e2⟩ t, i, z, hz => by
    cases i with
    | zero =>
      injection hz with hz
      subst hz
      exact ⟨p, _, rfl, e1, e2⟩
    | succ i => exact QL.get t i z hz
theorem QL.keep {H H' : Hp} : ∀ {zs : List V} {qs : List Qd}, QL H zs qs → (∀ b xs, H b = some (.tup xs) → H' b = some (.tup xs)) → QL H' zs qs
  | _, _, .nil, _ => .nil
  | _, _, .cons ⟨p, e1, e2⟩ t, k => .cons ⟨p, e1, k _ _ e2⟩ (QL.keep t k)
end L2

namespace L2
open PySem PySem.Spec PyProof.Rows PySem.W Srd Sts Stg
end L2

/-! for x, y in zip(xs, ys) -/
namespace L2
open PySem PySem.Spec PyProof.Rows
end L2

/-! sorted(l) of tuples (int, str, int, int) and of ints: the same items, rising -/
namespace L2
open PySem PySem.Spec PyProof.Rows PySem.W Srd
end L2

/-! range(a, b, 2) -/
namespace L2
open PySem PySem.Spec PyProof.Rows
end L2

namespace L2
open PySem PySem.Spec PyProof.Rows
end L2

/-! len(set(l)) of tuples (int, str, int, int): how many unlike ones -/
namespace L2
open PySem PySem.Spec PyProof.Rows PySem.W Srd Sts Stg
end L2

/-! sets of texts: sorted(set(l)) -/
namespace Stg
open PySem PyProof.Rows Sts
end Stg
namespace L2
open PySem PySem.Spec PyProof.Rows PySem.W Srd Sts Stg
end L2

/-! for x in reversed(l) -/
namespace L2
open PySem PySem.Spec PyProof.Rows
end L2

/-! forms in the heap, as lists of all that they hold; what their makers promise; kinds of groves -/
namespace Fg
open PySem L2 FgM
theorem pg_tupK {X : Cx} {K : PySem.W.Frag} {es : List Expr} {k : Nat} {t : TGs} {n : Nat} {pos : Pos} (hK : X.K = K) (hc : X.calm = true) (h : PGs X es t) (hn : (assignEach es X.env).length = n := by rfl) (hst : (assignEach es X.env).findIdx? (·.1) = none := by rfl) : PG X (.Tuple es k pos) (gTup K n t) := by
  subst hK
  exact pg_tup hc h hn hst
theorem bt_sorted : bootBuiltins "sorted" = some (.builtin "sorted") := by decide +kernel
theorem comp_tup {K : PySem.W.Frag} {a p : Addr} {xs : List V} {g : TG} {te : TE} {R : Hp → Prop} {σ0 : St} {H0 : Hp} (Pv : Nat → List V → St → Hp → Prop) (h0 : Pv 0 [] σ0 H0)
    (hl : ∀ i ys σ H, i ≤ xs.length → Pv i ys σ H → SqT K H a xs ∧ H p = some (.lst ys))
    (hs : ∀ i ys x σ H, i < xs.length → xs[i]? = some x → Pv i ys σ H → g x σ H fun σ3 H4 => te σ3 H4 fun v H5 => H5 p = some (.lst ys) ∧ ys.length < sizeLine ∧ ∃ m', m' < xs.length - i ∧ CW xs.length Pv (i + 1) m' (ys ++ [v]) σ3 (upd H5 p (.lst (ys ++ [v]))))
    (hd : ∀ ys σ H, Pv xs.length ys σ H → R H) :
    ∃ W : Nat → Nat → List V → St → Hp → Prop, (∃ m, W 0 m [] σ0 H0) ∧ ∀ i m ys σc H2, W i m ys σc H2 → H2 p = some (.lst ys) ∧ (((Itt K a).stop i H2 ∧ R H2) ∨ ((Itt K a).go i H2 ∧ ∀ x H3, (Itt K a).yld i H2 x H3 → g x σc H3 fun σ3 H4 => te σ3 H4 fun v H5 =>
      H5 p = some (.lst ys) ∧ ys.length < sizeLine ∧ ∃ m', m' < m ∧ W (i + 1) m' (ys ++ [v]) σ3 (upd H5 p (.lst (ys ++ [v]))))) := by
  refine ⟨CW xs.length Pv, ⟨_, rfl, Nat.zero_le _, h0⟩, ?_⟩
  rintro i m ys σ H ⟨rfl, hi, hp⟩
  obtain ⟨h1, h2⟩ := hl i ys σ H hi hp
  refine ⟨h2, ?_⟩
  by_cases hlt : i < xs.length
  · refine .inr ⟨⟨xs, xs[i], h1, List.getElem?_eq_getElem hlt⟩, ?_⟩
    rintro x H3 ⟨rfl, hx⟩
    exact hs i ys x σ _ hlt (hx xs h1) hp
  · refine .inl ⟨⟨xs, h1, by (first | lia | omega)⟩, hd ys σ H ?_⟩
    have e : i = xs.length := by (first | lia | omega)
    rw [← e]
    exact hp
theorem take_succ' {α : Type} {l : List α} {i : Nat} {x : α} (h : l[i]? = some x) : l.take (i + 1) = l.take i ++ [x] := by
  rw [List.take_add_one, h]
  rfl
theorem comp_range {lo : Int} {n : Nat} {p : Addr} {g : TG} {te : TE} {R : Hp → Prop} {σ0 : St} {H0 : Hp} (Pv : Nat → List V → St → Hp → Prop) (h0 : Pv 0 [] σ0 H0)
    (hl : ∀ i ys σ H, i ≤ n → Pv i ys σ H → H p = some (.lst ys))
    (hs : ∀ i ys σ H, i < n → Pv i ys σ H → g (.int (lo + i)) σ H fun σ3 H4 => te σ3 H4 fun v H5 => H5 p = some (.lst ys) ∧ ys.length < sizeLine ∧ ∃ m', m' < n - i ∧ CW n Pv (i + 1) m' (ys ++ [v]) σ3 (upd H5 p (.lst (ys ++ [v]))))
    (hd : ∀ ys σ H, Pv n ys σ H → R H) :
    ∃ W : Nat → Nat → List V → St → Hp → Prop, (∃ m, W 0 m [] σ0 H0) ∧ ∀ i m ys σc H2, W i m ys σc H2 → H2 p = some (.lst ys) ∧ (((Itr lo n).stop i H2 ∧ R H2) ∨ ((Itr lo n).go i H2 ∧ ∀ x H3, (Itr lo n).yld i H2 x H3 → g x σc H3 fun σ3 H4 => te σ3 H4 fun v H5 =>
      H5 p = some (.lst ys) ∧ ys.length < sizeLine ∧ ∃ m', m' < m ∧ W (i + 1) m' (ys ++ [v]) σ3 (upd H5 p (.lst (ys ++ [v]))))) := by
  refine ⟨CW n Pv, ⟨_, rfl, Nat.zero_le _, h0⟩, ?_⟩
  rintro i m ys σ H ⟨rfl, hi, hp⟩
  refine ⟨hl i ys σ H hi hp, ?_⟩
  by_cases hlt : i < n
  · refine .inr ⟨hlt, ?_⟩
    rintro x H3 ⟨rfl, rfl⟩
    exact hs i ys σ _ hlt hp
  · have e : i = n := by (first | lia | omega)
    subst e
    exact .inl ⟨Nat.le_refl _, hd ys σ H hp⟩
theorem ix_nat {n k : Nat} (h : k < n) : ixN n ((k : Nat) : Int) = some k := by
  unfold ixN
  rw [if_pos (by (first | lia | omega)), if_pos (by (first | lia | omega))]
  rfl
theorem tup_upd {H : Hp} {p : Addr} {ys zs : List V} (hp : H p = some (.lst ys)) : ∀ b xs, H b = some (.tup xs) → (upd H p (.lst zs)) b = some (.tup xs) := fun b xs h => by
  rw [upd_ne (fun e => by rw [e, hp] at h; cases h)]
  exact h
theorem modN (x : Int) {n : Nat} (h : 0 < n) : ∃ k : Nat, x % (n : Int) = (k : Int) ∧ k < n := by
  have h1 := Int.emod_nonneg x (by (first | lia | omega) : (n : Int) ≠ 0)
  have h2 := Int.emod_lt_of_pos x (by (first | lia | omega) : (0 : Int) < (n : Int))
  obtain ⟨k, hk⟩ := Int.eq_ofNat_of_zero_le h1
  exact ⟨k, hk, by (first | lia | omega)⟩
/-! forms with all that is known of them -/
structure FQ where
  n : Int
  hs : List Int
  ts : List Int
  qs : List Srd.Qd
abbrev Rise (l : List Int) : Prop := l.Pairwise (· < ·)
abbrev RiseQ (l : List Srd.Qd) : Prop := l.Pairwise (fun a b => Srd.qLt a b = true)
def FmQ (H : Hp) (a : Addr) (f : FQ) : Prop := ∃ (h1 h2 h3 : Addr) (zs : List V), H a = some (.tup [.int f.n, .ref h1, .ref h2, .ref h3]) ∧ H h1 = some (.tup (f.hs.map V.int)) ∧ H h2 = some (.tup (f.ts.map V.int)) ∧ H h3 = some (.tup zs) ∧ QL H zs f.qs
def QB (n : Int) (qs : List Srd.Qd) : Prop := ∀ q ∈ qs, (0 ≤ q.1 ∧ q.1 < n) ∧ (0 ≤ q.2.2.1 ∧ q.2.2.1 < n) ∧ 0 ≤ q.2.2.2 ∧ q.2.2.2 < n
def IB (n : Int) (xs : List Int) : Prop := ∀ x ∈ xs, 0 ≤ x ∧ x < n
/-- a comprehension over a tuple, with a test -/
theorem comp_tupT {K : PySem.W.Frag} {a p : Addr} {xs : List V} {g : TG} {tt : TT} {te : TE} {R : Hp → Prop} {σ0 : St} {H0 : Hp} (Pv : Nat → List V → St → Hp → Prop) (h0 : Pv 0 [] σ0 H0)
    (hl : ∀ i ys σ H, i ≤ xs.length → Pv i ys σ H → SqT K H a xs ∧ H p = some (.lst ys))
    (hs : ∀ i ys x σ H, i < xs.length → xs[i]? = some x → Pv i ys σ H → g x σ H fun σ3 H4 => tt σ3 H4 fun b H4' => if b = true then te σ3 H4' fun v H5 => H5 p = some (.lst ys) ∧ ys.length < sizeLine ∧ ∃ m', m' < xs.length - i ∧ CW xs.length Pv (i + 1) m' (ys ++ [v]) σ3 (upd H5 p (.lst (ys ++ [v])))
      else ∃ m', m' < xs.length - i ∧ CW xs.length Pv (i + 1) m' ys σ3 H4')
    (hd : ∀ ys σ H, Pv xs.length ys σ H → R H) :
    ∃ W : Nat → Nat → List V → St → Hp → Prop, (∃ m, W 0 m [] σ0 H0) ∧ ∀ i m ys σc H2, W i m ys σc H2 → H2 p = some (.lst ys) ∧ (((Itt K a).stop i H2 ∧ R H2) ∨ ((Itt K a).go i H2 ∧ ∀ x H3, (Itt K a).yld i H2 x H3 → g x σc H3 fun σ3 H4 => tt σ3 H4 fun b H4' => if b = true then te σ3 H4' fun v H5 =>
      H5 p = some (.lst ys) ∧ ys.length < sizeLine ∧ ∃ m', m' < m ∧ W (i + 1) m' (ys ++ [v]) σ3 (upd H5 p (.lst (ys ++ [v]))) else ∃ m', m' < m ∧ W (i + 1) m' ys σ3 H4')) := by
  refine ⟨CW xs.length Pv, ⟨_, rfl, Nat.zero_le _, h0⟩, ?_⟩
  rintro i m ys σ H ⟨rfl, hi, hp⟩
  obtain ⟨h1, h2⟩ := hl i ys σ H hi hp
  refine ⟨h2, ?_⟩
  by_cases hlt : i < xs.length
  · refine .inr ⟨⟨xs, xs[i], h1, List.getElem?_eq_getElem hlt⟩, ?_⟩
    rintro x H3 ⟨rfl, hx⟩
    exact hs i ys x σ _ hlt (hx xs h1) hp
  · have e : i = xs.length := by (first | lia | omega)
    subst e
    exact .inl ⟨⟨xs, h1, Nat.le_refl _⟩, hd ys σ H hp⟩
end Fg

namespace Fg
open PySem L2 FgM
/-! kinds of groves by a form; words gone through from the last one -/
end Fg

namespace Fg
open PySem L2 FgM
/-! lists of kinds, one for each rest of a row -/
/-! what the makers of words and forms promise -/
end Fg

/-! rows again and again -/
namespace Fg
open PySem L2 FgM
end Fg

/-! d.setdefault(k, x); sorted(d, reverse=True) of a dict with whole numbers as keys -/
namespace L2
open PySem PySem.Spec PyProof.Rows
def tDSetD (td ty tx : TE) : TE := fun σ H Q => td σ H fun x H1 => ∃ a, x = .ref a ∧ IsD H1 a ∧ ty σ H1 fun y H2 => tx σ H2 fun z H3 => ∃ kvs k, H3 a = some (.dK kvs) ∧ y = kV k ∧ kvs.length < sizeLine ∧
  (∀ v, valV kvs k = some v → Q v H3) ∧ (valV kvs k = none → Q z (upd H3 a (.dK (putK kvs k z))))
section
variable {X : Cx} {o e f : Expr} {apos cpos : Pos} {td ty tx : TE}
theorem pe_dsetd (ho : PE X o td) (he : PE X e ty) (hf : PE X f tx) (m : M2 X o "setdefault" apos e f cpos) : PE X (.Call (.Attribute o "setdefault" apos) [e, f] [] cpos) (tDSetD td ty tx) := by
  intro pins s σ H Q I h
  refine wpAny_Call_method m.base m.few m.line PySem.F.plainAttrs_dict PySem.F.slot_dict_setdefault PySem.F.type_dict_setdefault (thn (ho pins s σ H _ I h) fun u s1 ⟨x, H1, I1, rx, a, ex, d, q1⟩ => ?_)
  subst ex
  obtain rfl : u = Value.ref a := rx
  obtain ⟨t1, t2, _⟩ := isD_at I1 d
  refine ⟨t1, t2, ?_⟩
  rw [m.trees]
  refine Calls.callWith_builtin rfl (Calls.evalArgs_plain (Calls.spliced_cons (thn (he pins s1 σ H1 _ I1 q1) fun iv s2 ⟨y, H2, I2, ry, q2⟩ =>
    Calls.spliced_cons (thn (hf pins s2 σ H2 _ I2 q2) fun fv s3 ⟨z, H3, I3, rz, kvs, k, e3, ey, hl, g1, g2⟩ => Calls.spliced_nil ?_))))
  subst ey
  obtain ⟨zz, hd, vs, rel, dd⟩ := dk_of I3.hok e3
  have hz : vs.length ≤ sizeLine := by rw [← rel.length]; exact zz
  have rv := rel.val k
  refine call_meetsIn PySem.F.slot_dict_setdefault dd.typeIs PySem.F.entry_dict_setdefault (PySem.F.args_dict_setdefault_3 _ _ _) (kt_meets_setdefault (mixKind X.prog X.w) a (kV_is ry) hd fv) ⟨vs, dd, hz, fun v hv => ?_, fun hn h' dd' hs => ?_⟩
  · rw [hv] at rv
    cases hk : valV kvs k with
    | none =>
      rw [hk] at rv
      exact (show False from rv).elim
    | some x =>
      rw [hk] at rv
      exact ⟨x, H3, I3.tok _, rv, g1 x hk⟩
  · rw [hn] at rv
    cases hk : valV kvs k with
    | some x =>
      rw [hk] at rv
      exact (show False from rv).elim
    | none =>
      have he : ∃ q, h'.get? a = some q := let ⟨q, _, _, hq, _⟩ := dd'; ⟨q, hq⟩
      have hl2 : (putK kvs k z).length ≤ sizeLine := by have := length_putK kvs k z; (first | lia | omega)
      exact ⟨z, _, d_write I3 (by rw [e3]; exact True.intro) hs he (dk_new hl2 hd (rel.put k rz) dd'), rz, g2 hk⟩
end
end L2

/-! places of tags and of their ends; dicts by whole numbers -/
namespace Fg
open PySem L2 FgM
/-- a dict whose keys are these numbers -/
def DI (H : Hp) (p : Addr) (ns : List Int) : Prop := ∃ m : List (Key × V), H p = some (.dK m) ∧ m.map (·.1) = ns.map Sum.inl
theorem DI.has {m : List (Key × V)} {ns : List Int} (h : m.map (·.1) = ns.map Sum.inl) (x : Int) : (valV m (Sum.inl x)).isSome = decide (x ∈ ns) := by
  rw [← valV_any]
  have e1 : (m.any fun kv => decide (kv.1 = (Sum.inl x : Key))) = (m.map (·.1)).any (fun y => decide (y = (Sum.inl x : Key))) := by rw [List.any_map]; rfl
  rw [e1, h, List.any_map, Bool.eq_iff_iff, List.any_eq_true, decide_eq_true_eq]
  constructor
  · rintro ⟨y, hy, h⟩
    have := of_decide_eq_true h
    injection this with this
    rw [← this]
    exact hy
  · intro hx
    exact ⟨x, hx, decide_eq_true rfl⟩
theorem DI.put {m : List (Key × V)} {ns : List Int} (h : m.map (·.1) = ns.map Sum.inl) (x : Int) (v : V) : (putK m (Sum.inl x) v).map (·.1) = (if x ∈ ns then ns else ns ++ [x]).map Sum.inl := by
  have hh := DI.has h x
  unfold putK
  rw [valV_any, hh]
  by_cases hx : x ∈ ns
  · rw [decide_eq_true hx, if_pos rfl, if_pos hx, List.map_map, ← h]
    refine List.map_congr_left fun kv _ => ?_
    show (if kv.1 = Sum.inl x then (kv.1, v) else kv).1 = kv.1
    split <;> rfl
  · rw [decide_eq_false hx, if_neg (by decide), if_neg hx, List.map_append, List.map_append, h]
    rfl
end Fg

namespace L2
open PySem PySem.Spec PyProof.Rows
/-- a comprehension over a list, with a test -/
theorem comp_listT {K : PySem.W.Frag} {a p : Addr} {xs : List V} {g : TG} {tt : TT} {te : TE} {R : Hp → Prop} {σ0 : St} {H0 : Hp} (Pv : Nat → List V → St → Hp → Prop) (h0 : Pv 0 [] σ0 H0)
    (hl : ∀ i ys σ H, i ≤ xs.length → Pv i ys σ H → SqL K H a xs ∧ H p = some (.lst ys))
    (hs : ∀ i ys x σ H, i < xs.length → xs[i]? = some x → Pv i ys σ H → g x σ H fun σ3 H4 => tt σ3 H4 fun b H4' => if b = true then te σ3 H4' fun v H5 => H5 p = some (.lst ys) ∧ ys.length < sizeLine ∧ ∃ m', m' < xs.length - i ∧ CW xs.length Pv (i + 1) m' (ys ++ [v]) σ3 (upd H5 p (.lst (ys ++ [v])))
      else ∃ m', m' < xs.length - i ∧ CW xs.length Pv (i + 1) m' ys σ3 H4')
    (hd : ∀ ys σ H, Pv xs.length ys σ H → R H) :
    ∃ W : Nat → Nat → List V → St → Hp → Prop, (∃ m, W 0 m [] σ0 H0) ∧ ∀ i m ys σc H2, W i m ys σc H2 → H2 p = some (.lst ys) ∧ (((Itl K a).stop i H2 ∧ R H2) ∨ ((Itl K a).go i H2 ∧ ∀ x H3, (Itl K a).yld i H2 x H3 → g x σc H3 fun σ3 H4 => tt σ3 H4 fun b H4' => if b = true then te σ3 H4' fun v H5 =>
      H5 p = some (.lst ys) ∧ ys.length < sizeLine ∧ ∃ m', m' < m ∧ W (i + 1) m' (ys ++ [v]) σ3 (upd H5 p (.lst (ys ++ [v]))) else ∃ m', m' < m ∧ W (i + 1) m' ys σ3 H4')) := by
  refine ⟨CW xs.length Pv, ⟨_, rfl, Nat.zero_le _, h0⟩, ?_⟩
  rintro i m ys σ H ⟨rfl, hi, hp⟩
  obtain ⟨h1, h2⟩ := hl i ys σ H hi hp
  refine ⟨h2, ?_⟩
  by_cases hlt : i < xs.length
  · refine .inr ⟨⟨xs, xs[i], h1, List.getElem?_eq_getElem hlt⟩, ?_⟩
    rintro x H3 ⟨rfl, hx⟩
    exact hs i ys x σ _ hlt (hx xs h1) hp
  · have e : i = xs.length := by (first | lia | omega)
    subst e
    exact .inl ⟨⟨xs, h1, Nat.le_refl _⟩, hd ys σ H hp⟩
end L2

/-! len of a dict; the place of a number in a list -/
namespace L2
open PySem PySem.Spec PyProof.Rows PySem.W
end L2

/-! pairs of numbers in order; sorted of a dict whose keys are such pairs -/
namespace Srd
open PySem PyProof.Rows Srt PySem.W
abbrev Pr := Int × Int
def pLt : Pr → Pr → Bool := lexB (fun a b : Int => decide (a < b)) fun a b : Int => decide (a < b)
end Srd
namespace L2
open PySem PySem.Spec PyProof.Rows PySem.W Srd
def tp (q : Pr) : HO := .tup [.int q.1, .int q.2]
/-- pairs in the heap, one behind another -/
def PL (H : Hp) (zs : List V) (qs : List Pr) : Prop := Paired (fun z q => ∃ p, z = V.ref p ∧ H p = some (tp q)) zs qs
theorem PL.length {H : Hp} : ∀ {zs : List V} {qs : List Pr}, PL H zs qs → zs.length = qs.length
  | _, _, .nil => rfl
  | _, _, .cons _ t => by rw [List.length_cons, List.length_cons, PL.length t]
theorem PL.keep {H H' : Hp} : ∀ {zs : List V} {qs : List Pr}, PL H zs qs → (∀ b xs, H b = some (.tup xs) → H' b = some (.tup xs)) → PL H' zs qs
  | _, _, .nil, _ => .nil
  | _, _, .cons ⟨p, e1, e2⟩ t, k => .cons ⟨p, e1, k _ _ e2⟩ (PL.keep t k)
theorem PL.snoc {H : Hp} {q : Pr} {p : Addr} (e : H p = some (tp q)) : ∀ {zs : List V} {qs : List Pr}, PL H zs qs → PL H (zs ++ [.ref p]) (qs ++ [q])
  | _, _, .nil => .cons ⟨p, rfl, e⟩ .nil
  | _, _, .cons r t => .cons r (PL.snoc e t)
end L2

/-! list(d): the keys of a dict, in its order -/
namespace L2
open PySem PySem.Spec PyProof.Rows PySem.W Srd
end L2

/-! l.extend(d): the keys of a dict behind what l has -/
namespace L2
open PySem PySem.Spec PyProof.Rows PySem.W Srd
end L2

/-! for i, x in enumerate(tuple); min(list of ints) -/
namespace L2
open PySem PySem.Spec PyProof.Rows
end L2

/-! runs: the first rule at each tag -/
namespace Fg
open PySem L2 FgM
end Fg

/-! list.insert; a quad in a tuple of quads, and its place there -/
namespace L2
open PySem PySem.Spec PyProof.Rows Srd
end L2

/-! an own class called with arguments; isinstance of an own class -/
namespace L2
open PySem PySem.Spec PyProof.Rows
section
variable {X : Cx} {C : Addr} {m x : Str} {ps : List Str} {j k : Nat} {sp : Sp} {o e : Expr} {es : List Expr} {ta : TE} {t : TA} {p pos apos : Pos}
theorem pe_hasc (G : HasC X.prog X.w X.K X.mg X.base C x ps j sp) (hr : Room k X.A) (hg : Gl X x) (ha : PA X (e :: es) t) (hk : j + 1 ≤ k := by decide) (hdb : (x == ("__debug__" : Str)) = false := by decide)
    (he : starEach (e :: es) X.env = (false, eval e X.env) :: starEach es X.env := by rfl) (hpl : (backTo pos (starEach es X.env)).any (·.1) = false := by rfl) : PE X (.Call (.Name x p) (e :: es) [] pos) (tMake C sp [] E0 t) := by
  obtain ⟨f, fd, F, b, M, hm⟩ := G.ex
  exact pe_make M F (hr.mono hk) hg hm b .nil pass0 ha hdb he hpl
end
end L2

/-! sorted(set(l)) of a list of texts of any length, of which few are unlike -/
namespace Stg
open PySem PyProof.Rows Sts
end Stg
namespace L2
open PySem PySem.Spec PyProof.Rows PySem.W Srd Sts Stg
end L2
namespace L2
open PySem PySem.Spec PyProof.Rows
end L2
namespace L2
open PySem PySem.Spec PyProof.Rows
end L2

/-! the reader: its state, in the heap and as lists of pairs -/
namespace Fg
open PySem L2 FgM
/-- the kinds that lead to an end -/
inductive LvQ (f : FQ) : Int → Prop
  | e {x : Int} : x ∈ f.ts → LvQ f x
  | r {q : Srd.Qd} : q ∈ f.qs → LvQ f q.2.2.1 → LvQ f q.2.2.2 → LvQ f q.1
/-- how many kinds are not among these -/
def outN (n : Nat) (S : List Int) : Nat := ((List.range n).map fun k : Nat => if (k : Int) ∈ S then 0 else 1).sum
theorem sum_le {g g' : Nat → Nat} : ∀ {l : List Nat}, (∀ x ∈ l, g' x ≤ g x) → (l.map g').sum ≤ (l.map g).sum
  | [], _ => Nat.le_refl _
  | y :: l, h => by
    rw [List.map_cons, List.map_cons, List.sum_cons, List.sum_cons]
    have h1 := h y (List.mem_cons_self ..)
    have h2 := sum_le fun x hx => h x (List.mem_cons_of_mem (a := x) y hx)
    (first | lia | omega)
theorem sum_less {g g' : Nat → Nat} {k : Nat} (hs : g' k + 1 ≤ g k) : ∀ {l : List Nat}, (∀ x ∈ l, g' x ≤ g x) → k ∈ l → (l.map g').sum + 1 ≤ (l.map g).sum
  | [], _, hk => nomatch hk
  | y :: l, h, hk => by
    rw [List.map_cons, List.map_cons, List.sum_cons, List.sum_cons]
    have hy := h y (List.mem_cons_self ..)
    have hl := fun x hx => h x (List.mem_cons_of_mem (a := x) y hx)
    rcases List.mem_cons.mp hk with rfl | hk
    · have := sum_le hl
      (first | lia | omega)
    · have := sum_less hs hl hk
      (first | lia | omega)
theorem outN_put {n : Nat} {k : Int} {S : List Int} (h0 : 0 ≤ k) (hk : k < (n : Int)) (h : k ∉ S) : outN n (S ++ [k]) + 1 ≤ outN n S := by
  unfold outN
  have ek : ((k.toNat : Nat) : Int) = k := Int.toNat_of_nonneg h0
  refine sum_less (k := k.toNat) ?_ (fun x _ => ?_) (List.mem_range.mpr (by (first | lia | omega)))
  · rw [ek, if_pos (List.mem_append_right _ (List.mem_singleton.mpr rfl)), if_neg h]
    exact Nat.le_refl _
  · by_cases hx : (x : Int) ∈ S
    · rw [if_pos (List.mem_append_left _ hx), if_pos hx]
      exact Nat.le_refl _
    · rw [if_neg hx]
      split <;> (first | lia | omega)
theorem outN_le (n : Nat) (S : List Int) : outN n S ≤ n := by
  have h : ∀ l : List Nat, (l.map fun k : Nat => if (k : Int) ∈ S then 0 else 1).sum ≤ l.length := by
    intro l
    induction l with
    | nil => exact Nat.le_refl _
    | cons a l ih =>
      rw [List.map_cons, List.sum_cons, List.length_cons]
      split <;> (first | lia | omega)
  have := h (List.range n)
  rw [List.length_range] at this
  exact this
/-- pairs of a number and True, in the heap -/
def PT (H : Hp) (ys : List V) (es : List Int) : Prop := Paired (fun (y : V) (e : Int) => ∃ t, y = V.ref t ∧ H t = some (.tup [.int e, .bl true])) ys es
theorem PT.keep {H H' : Hp} : ∀ {ys : List V} {es : List Int}, PT H ys es → (∀ b xs, H b = some (.tup xs) → H' b = some (.tup xs)) → PT H' ys es
  | _, _, .nil, _ => .nil
  | _, _, .cons ⟨p, e1, e2⟩ t, k => .cons ⟨p, e1, k _ _ e2⟩ (PT.keep t k)
theorem PT.snoc {H : Hp} {e : Int} {p : Addr} (h : H p = some (.tup [.int e, .bl true])) : ∀ {ys : List V} {es : List Int}, PT H ys es → PT H (ys ++ [.ref p]) (es ++ [e])
  | _, _, .nil => .cons ⟨p, rfl, h⟩ .nil
  | _, _, .cons r t => .cons r (PT.snoc h t)
theorem PT.length {H : Hp} : ∀ {ys : List V} {es : List Int}, PT H ys es → ys.length = es.length
  | _, _, .nil => rfl
  | _, _, .cons _ t => by rw [List.length_cons, List.length_cons, PT.length t]
def kB (e : Int) : Key × V := (Sum.inl e, V.bl true)
theorem PT.pairs {H : Hp} : ∀ {ys : List V} {es : List Int}, PT H ys es → Paired (fun (y : V) (kv : Key × V) => ∃ t, y = .ref t ∧ H t = some (.tup [kV kv.1, kv.2])) ys (es.map kB)
  | _, _, .nil => .nil
  | _, _, .cons ⟨p, e1, e2⟩ t => .cons ⟨p, e1, e2⟩ (PT.pairs t)
def addS (S : List Int) (x : Int) : List Int := if x ∈ S then S else S ++ [x]
theorem mem_addS {S : List Int} {x y : Int} : y ∈ addS S x ↔ y ∈ S ∨ y = x := by
  unfold addS
  split
  · rename_i h
    exact ⟨.inl, fun z => z.elim id fun z => z ▸ h⟩
  · rw [List.mem_append, List.mem_singleton]
theorem di_all : ∀ (es : List Int) (m : List (Key × V)) (S : List Int), m.map (·.1) = S.map Sum.inl → ∃ S' : List Int, ((es.map kB).foldl (fun m kv => putK m kv.1 kv.2) m).map (·.1) = S'.map Sum.inl ∧ ∀ x, x ∈ S' ↔ x ∈ S ∨ x ∈ es
  | [], m, S, h => ⟨S, h, fun x => ⟨.inl, fun z => z.elim id fun z => nomatch z⟩⟩
  | e :: es, m, S, h => by
    obtain ⟨S', h1, h2⟩ := di_all es (putK m (Sum.inl e) (V.bl true)) (addS S e) (DI.put h e (V.bl true))
    refine ⟨S', h1, fun x => (h2 x).trans ?_⟩
    rw [mem_addS, List.mem_cons, or_assoc]
theorem keys_len {m : List (Key × V)} {S : List Int} (h : m.map (·.1) = S.map Sum.inl) : m.length = S.length := by
  have := congrArg List.length h
  simpa using this
def ShutQ (qs : List Srd.Qd) (S : List Int) : Prop := ∀ q ∈ qs, q.2.2.1 ∈ S → q.2.2.2 ∈ S → q.1 ∈ S
theorem shut_all {f : FQ} {S : List Int} (he : ∀ e ∈ f.ts, e ∈ S) (hs : ShutQ f.qs S) {k : Int} (h : LvQ f k) : k ∈ S := by
  induction h with
  | e h => exact he _ h
  | r h _ _ h1 h2 => exact hs _ h h1 h2

abbrev Pr := Srd.Pr
abbrev RiseP (l : List Pr) : Prop := l.Pairwise (fun a b => Srd.pLt a b = true)
/-- a form in order, as the laws of the reader make it -/
structure OkR (f : FQ) : Prop where
  n0 : 0 ≤ f.n
  n8 : f.n ≤ 64
  hs : Rise f.hs
  ts : Rise f.ts
  qs : RiseQ f.qs
  hb : IB f.n f.hs
  tb : IB f.n f.ts
  qb : QB f.n f.qs
  hl : f.hs.length ≤ 70
  tl : f.ts.length ≤ 70
  ql : f.qs.length ≤ 100
  lt : ∀ q ∈ f.qs, q.2.1 ≠ SL
def spLiveR (K : PySem.W.Frag) : Sp := fun vs H Q _ => ∃ (a : Addr) (f : FQ), vs = [.ref a] ∧ FmQ H a f ∧ OkR f ∧ ∀ (d : Addr) (S : List Int) (H' : Hp), Same H H' → H d = none → DI H' d S → S.length ≤ 200 → (∀ x, x ∈ S ↔ LvQ f x) → Q (.ref d) H'
/-- the rules whose inner and rest are live -/
def ROk (f : FQ) (R : List Srd.Qd) : Prop := ∀ q, q ∈ R ↔ q ∈ f.qs ∧ LvQ f q.2.2.1 ∧ LvQ f q.2.2.2
def rlA (A : List Int) (qs : List Srd.Qd) : List Srd.Qd := qs.filter fun q => decide (q.2.2.1 ∈ A) && decide (q.2.2.2 ∈ A)
theorem rlA_ok {f : FQ} {A : List Int} (h : ∀ x, x ∈ A ↔ LvQ f x) : ROk f (rlA A f.qs) := fun q => by
  unfold rlA
  rw [List.mem_filter, Bool.and_eq_true, decide_eq_true_eq, decide_eq_true_eq, h, h]
def pr2 (q : Srd.Qd) : Pr := (q.2.2.1, q.2.2.2)
def wayL (R : List Srd.Qd) (k : Int) (t : Str) : List Pr := (R.filter fun q => decide (q.1 = k) && decide (q.2.1 = t)).map pr2
theorem wayL_snoc (R : List Srd.Qd) (q : Srd.Qd) (k : Int) (t : Str) : wayL (R ++ [q]) k t = wayL R k t ++ if q.1 = k ∧ q.2.1 = t then [pr2 q] else [] := by
  unfold wayL
  rw [List.filter_append, List.map_append]
  congr 1
  rw [List.filter_cons]
  by_cases h : q.1 = k ∧ q.2.1 = t
  · rw [if_pos (by rw [decide_eq_true h.1, decide_eq_true h.2]; rfl), if_pos h]
    rfl
  · rw [if_neg (by rw [Bool.and_eq_true, decide_eq_true_eq, decide_eq_true_eq]; exact h), if_neg h]
    rfl
theorem wayL_len (R : List Srd.Qd) (k : Int) (t : Str) : (wayL R k t).length ≤ R.length := by
  unfold wayL
  rw [List.length_map]
  exact List.length_filter_le ..
def dup (x : Int) : Pr := (x, x)
structure RdOk (n : Int) (lv : List (List Pr)) (tg : List Str) : Prop where
  len : lv.length = tg.length + 1
  ri : ∀ l ∈ lv, RiseP l
  bd : ∀ l ∈ lv, ∀ p ∈ l, (0 ≤ p.1 ∧ p.1 < n) ∧ 0 ≤ p.2 ∧ p.2 < n
theorem pLt_iff {a b : Pr} : Srd.pLt a b = true ↔ a.1 < b.1 ∨ (a.1 = b.1 ∧ a.2 < b.2) := by
  simp only [Srd.pLt, Srd.lexB, Bool.or_eq_true, Bool.and_eq_true, decide_eq_true_eq]
theorem riseP_dup {ks : List Int} (h : Rise ks) : RiseP (ks.map dup) := List.pairwise_map.mpr (h.imp fun hab => pLt_iff.mpr (.inl hab))
/-! in the heap -/
def KeepX (ex : List Addr) (H H' : Hp) : Prop := ∀ b o, b ∉ ex → H b = some o → H' b = some o
/-- the pairs of a kind's rules, by their tags -/
def WK (ex : List Addr) (H : Hp) (a : Addr) (W : Str → List Pr) : Prop := a ∉ ex ∧ ∃ (mk : List (Key × V)) (ts : List Str), H a = some (.dK mk) ∧ mk.map (·.1) = ts.map Sum.inr ∧ ts.length ≤ 900 ∧ ∀ t, (valV mk (Sum.inr t) = none ∧ W t = []) ∨ ∃ l zs, valV mk (Sum.inr t) = some (.ref l) ∧ l ∉ ex ∧ H l = some (.lst zs) ∧ PL H zs (W t) ∧ W t ≠ []
def WI (ex : List Addr) (H : Hp) (d : Addr) (R : List Srd.Qd) : Prop := d ∉ ex ∧ ∃ (m : List (Key × V)) (D : Int → Option Addr), H d = some (.dK m) ∧ (∀ k, valV m (Sum.inl k) = (D k).map V.ref) ∧ (∀ k, D k = none → ∀ t, wayL R k t = []) ∧ ∀ k a, D k = some a → WK ex H a fun t => wayL R k t
theorem KS.new {m : List (Key × V)} {ts : List Str} (h : m.map (·.1) = ts.map Sum.inr) {x : Str} (v : V) (hn : valV m (Sum.inr x) = none) : (putK m (Sum.inr x) v).map (·.1) = (ts ++ [x]).map Sum.inr := by
  rw [putK_new v hn, List.map_append, List.map_append, h]
  rfl
/-- lists of pairs, in the heap -/
def LVs (ex : List Addr) (H : Hp) (zs : List V) (lv : List (List Pr)) : Prop := Paired (fun z l => ∃ p xs, z = V.ref p ∧ p ∉ ex ∧ H p = some (.lst xs) ∧ PL H xs l) zs lv
def rdF (p df dw L T : Addr) : List (Str × V) := [("form", .ref p), ("final", .ref df), ("ways", .ref dw), ("levels", .ref L), ("tags", .ref T)]
structure RdC (K : PySem.W.Frag) (C : Addr) : Prop where
  cls : Cls K C
  n1 : NoAttr K C "form"
  n2 : NoAttr K C "final"
  n3 : NoAttr K C "ways"
  n4 : NoAttr K C "levels"
  n5 : NoAttr K C "tags"
/-- a reader of this form, in this state; its levels and tags are in the lists L and T -/
structure RdAt (C : Addr) (H : Hp) (a L T : Addr) (ex : List Addr) (f : FQ) (R : List Srd.Qd) (lv : List (List Pr)) (tg : List Str) : Prop where
  ok : OkR f
  rk : ROk f R
  st : RdOk f.n lv tg
  ne : L ≠ T
  al : ∀ x ∈ ex, x ∉ [L, T] ∧ ∃ xs, H x = some (.lst xs)
  ho : ∃ (dx p df dw : Addr) (ns : List Int) (zs : List V), H a = some (.ins C dx (rdF p df dw L T)) ∧ FmQ H p f ∧ DI H df ns ∧ (∀ x, x ∈ ns ↔ x ∈ f.ts) ∧ WI (L :: T :: ex) H dw R ∧ H L = some (.lst zs) ∧ LVs (L :: T :: ex) H zs lv ∧ H T = some (.lst (tg.map V.str))
theorem notin2 {b L T : Addr} (h1 : b ≠ L) (h2 : b ≠ T) : b ∉ [L, T] := fun h => by
  rcases List.mem_cons.mp h with h | h
  · exact h1 h
  · exact h2 (List.mem_singleton.mp h)
/-- the ways under way -/
structure WS (H5 H : Hp) (d : Addr) (m : List (Key × V)) (D : Int → Option Addr) (mk : Int → List (Key × V)) (tf : Int → List Str) (Lf : Int → Str → Option Addr) (W : Int → Str → List Pr) (c : Nat) : Prop where
  kp : ∀ b o, b ≠ d → H5 b = some o → H b = some o
  h5 : ∃ o, H5 d = some o
  hm : H d = some (.dK m)
  ml : m.length ≤ c
  vm : ∀ k, valV m (Sum.inl k) = (D k).map V.ref
  dk : ∀ k a, D k = some a → H5 a = none ∧ H a = some (.dK (mk k)) ∧ (mk k).map (·.1) = (tf k).map Sum.inr ∧ (tf k).length ≤ c ∧ ∀ t, valV (mk k) (Sum.inr t) = (Lf k t).map V.ref
  dn : ∀ k t, D k = none → Lf k t = none
  ln : ∀ k t, Lf k t = none → W k t = []
  ls : ∀ k t l, Lf k t = some l → H5 l = none ∧ ∃ zs, H l = some (.lst zs) ∧ PL H zs (W k t)
  di : ∀ k k' a, D k = some a → D k' = some a → k = k'
  li : ∀ k t k' t' l, Lf k t = some l → Lf k' t' = some l → k = k' ∧ t = t'
section
variable {H5 H : Hp} {d : Addr} {m : List (Key × V)} {D : Int → Option Addr} {mk : Int → List (Key × V)} {tf : Int → List Str} {Lf : Int → Str → Option Addr} {W : Int → Str → List Pr} {c : Nat}
theorem WS.same {H' : Hp} (h : WS H5 H d m D mk tf Lf W c) (s : Same H H') : WS H5 H' d m D mk tf Lf W c where
  kp := fun b o hb e => s _ _ (h.kp b o hb e)
  h5 := h.h5
  hm := s _ _ h.hm
  ml := h.ml
  vm := h.vm
  dk := fun k a e => by
    obtain ⟨a1, a2, a3⟩ := h.dk k a e
    exact ⟨a1, s _ _ a2, a3⟩
  dn := h.dn
  ln := h.ln
  ls := fun k t l e => by
    obtain ⟨a1, zs, a2, a3⟩ := h.ls k t l e
    exact ⟨a1, zs, s _ _ a2, a3.keep fun b xs e => s _ _ e⟩
  di := h.di
  li := h.li
theorem WS.ned (h : WS H5 H d m D mk tf Lf W c) {b : Addr} (hb : H5 b = none) : b ≠ d := fun z => by
  obtain ⟨o, ho⟩ := h.h5
  rw [z, ho] at hb
  cases hb
theorem WS.newk (h : WS H5 H d m D mk tf Lf W c) {k : Int} {d0 : Addr} (hk : D k = none) (e0 : H d0 = some (.dK [])) (f0 : H5 d0 = none) (hf : ∀ k', D k' ≠ some d0) :
    WS H5 (upd H d (.dK (putK m (Sum.inl k) (.ref d0)))) d (putK m (Sum.inl k) (.ref d0)) (fun k' => if k' = k then some d0 else D k') (fun k' => if k' = k then [] else mk k') (fun k' => if k' = k then [] else tf k') Lf W (c + 1) where
  kp := fun b o hb e => by rw [upd_ne hb]; exact h.kp b o hb e
  h5 := h.h5
  hm := upd_same
  ml := by have := length_putK m (Sum.inl k) (.ref d0); have := h.ml; (first | lia | omega)
  vm := fun k' => by
    rw [valV_put]
    by_cases e : k' = k
    · subst e
      rw [if_pos rfl, if_pos rfl]
      rfl
    · rw [if_neg (fun z => e (by injection z)), if_neg e]
      exact h.vm k'
  dk := fun k' a e => by
    by_cases e1 : k' = k
    · subst e1
      simp only [if_pos] at e ⊢
      injection e with e
      subst e
      refine ⟨f0, by rw [upd_ne (h.ned f0)]; exact e0, rfl, Nat.zero_le _, fun t => ?_⟩
      rw [h.dn k' t hk]
      rfl
    · simp only [if_neg e1] at e ⊢
      obtain ⟨a1, a2, a3, a4, a5⟩ := h.dk k' a e
      exact ⟨a1, by rw [upd_ne (h.ned a1)]; exact a2, a3, by (first | lia | omega), a5⟩
  dn := fun k' t e => by
    by_cases e1 : k' = k
    · subst e1
      simp only [if_pos] at e
      cases e
    · simp only [if_neg e1] at e
      exact h.dn k' t e
  ln := h.ln
  ls := fun k' t l e => by
    obtain ⟨a1, zs, a2, a3⟩ := h.ls k' t l e
    refine ⟨a1, zs, by rw [upd_ne (h.ned a1)]; exact a2, a3.keep fun b xs z => ?_⟩
    rw [upd_ne (fun y => by rw [y, h.hm] at z; cases z)]
    exact z
  di := fun k1 k2 a e1 e2 => by
    by_cases c1 : k1 = k
    · by_cases c2 : k2 = k
      · rw [c1, c2]
      · simp only [if_pos c1, if_neg c2] at e1 e2
        injection e1 with e1
        rw [← e1] at e2
        exact absurd e2 (hf k2)
    · by_cases c2 : k2 = k
      · simp only [if_neg c1, if_pos c2] at e1 e2
        injection e2 with e2
        rw [← e2] at e1
        exact absurd e1 (hf k1)
      · simp only [if_neg c1, if_neg c2] at e1 e2
        exact h.di k1 k2 a e1 e2
  li := h.li
theorem WS.newl (h : WS H5 H d m D mk tf Lf W c) {k : Int} {t : Str} {a l0 : Addr} (hk : D k = some a) (hl : Lf k t = none) (e0 : H l0 = some (.lst [])) (f0 : H5 l0 = none) (hf : ∀ k' t', Lf k' t' ≠ some l0) :
    WS H5 (upd H a (.dK (putK (mk k) (Sum.inr t) (.ref l0)))) d m D (fun k' => if k' = k then putK (mk k) (Sum.inr t) (.ref l0) else mk k') (fun k' => if k' = k then tf k ++ [t] else tf k') (fun k' t' => if k' = k ∧ t' = t then some l0 else Lf k' t') W (c + 1) := by
  obtain ⟨b1, b2, b3, b4, b5⟩ := h.dk k a hk
  have hv : valV (mk k) (Sum.inr t) = none := by rw [b5, hl]; rfl
  have nl : l0 ≠ a := fun z => by rw [z, b2] at e0; cases e0
  have kt : ∀ b xs, H b = some (.tup xs) → (upd H a (.dK (putK (mk k) (Sum.inr t) (.ref l0)))) b = some (.tup xs) := fun b xs z => by
    rw [upd_ne (fun y => by rw [y, b2] at z; cases z)]
    exact z
  refine ⟨fun b o hb e => ?_, h.h5, ?_, ?_, h.vm, fun k' a' e => ?_, fun k' t' e => ?_, fun k' t' e => ?_, fun k' t' l e => ?_, h.di, fun k1 t1 k2 t2 l e1 e2 => ?_⟩
  · rw [upd_ne (ne_of_none e b1)]
    exact h.kp b o hb e
  · rw [upd_ne (h.ned b1).symm]
    exact h.hm
  · have := h.ml
    (first | lia | omega)
  · by_cases e1 : k' = k
    · subst e1
      rw [hk] at e
      injection e with e
      subst e
      simp only [if_pos]
      refine ⟨b1, upd_same, KS.new b3 _ hv, by rw [List.length_append, List.length_singleton]; (first | lia | omega), fun t' => ?_⟩
      rw [valV_put]
      by_cases e2 : t' = t
      · subst e2
        simp only [if_true, true_and]
        rfl
      · rw [if_neg (fun z => e2 (by injection z))]
        simp only [e2, and_false, if_false]
        exact b5 t'
    · simp only [if_neg e1]
      obtain ⟨a1, a2, a3, a4, a5⟩ := h.dk k' a' e
      have na : a' ≠ a := fun z => by
        subst z
        exact e1 (h.di k' k _ e hk)
      refine ⟨a1, by rw [upd_ne na]; exact a2, a3, by (first | lia | omega), fun t' => ?_⟩
      rw [if_neg (fun z => e1 z.1)]
      exact a5 t'
  · have hno : ¬ (k' = k ∧ t' = t) := fun z => by rw [z.1, hk] at e; cases e
    simp only [if_neg hno]
    exact h.dn k' t' e
  · by_cases hh : k' = k ∧ t' = t
    · simp only [if_pos hh] at e
      cases e
    · simp only [if_neg hh] at e
      exact h.ln k' t' e
  · by_cases hh : k' = k ∧ t' = t
    · obtain ⟨rfl, rfl⟩ := hh
      simp only [and_self, if_true] at e
      injection e with e
      subst e
      exact ⟨f0, [], by rw [upd_ne nl]; exact e0, by rw [h.ln _ _ hl]; exact .nil⟩
    · simp only [if_neg hh] at e
      obtain ⟨a1, zs, a2, a3⟩ := h.ls k' t' l e
      exact ⟨a1, zs, by rw [upd_ne (fun y => by rw [y, b2] at a2; cases a2)]; exact a2, a3.keep kt⟩
  · by_cases c1 : k1 = k ∧ t1 = t
    · by_cases c2 : k2 = k ∧ t2 = t
      · exact ⟨c1.1.trans c2.1.symm, c1.2.trans c2.2.symm⟩
      · simp only [if_pos c1, if_neg c2] at e1 e2
        injection e1 with e1
        rw [← e1] at e2
        exact absurd e2 (hf k2 t2)
    · by_cases c2 : k2 = k ∧ t2 = t
      · simp only [if_neg c1, if_pos c2] at e1 e2
        injection e2 with e2
        rw [← e2] at e1
        exact absurd e1 (hf k1 t1)
      · simp only [if_neg c1, if_neg c2] at e1 e2
        exact h.li _ _ _ _ l e1 e2
theorem WS.app (h : WS H5 H d m D mk tf Lf W c) {k : Int} {t : Str} {l pt : Addr} {zs : List V} {p : Pr} {W' : Int → Str → List Pr} (hl : Lf k t = some l) (e1 : H l = some (.lst zs)) (ep : H pt = some (tp p)) (hW : ∀ k' t', W' k' t' = W k' t' ++ if k = k' ∧ t = t' then [p] else []) :
    WS H5 (upd H l (.lst (zs ++ [.ref pt]))) d m D mk tf Lf W' c := by
  obtain ⟨b1, zs', b2, b3⟩ := h.ls k t l hl
  rw [e1] at b2
  injection b2 with b2
  injection b2 with b2
  subst b2
  have kt := tup_upd (zs := zs ++ [.ref pt]) e1
  refine ⟨fun b o hb e => ?_, h.h5, ?_, h.ml, h.vm, fun k' a' e => ?_, h.dn, fun k' t' e => ?_, fun k' t' l' e => ?_, h.di, h.li⟩
  · rw [upd_ne (ne_of_none e b1)]
    exact h.kp b o hb e
  · rw [upd_ne (h.ned b1).symm]
    exact h.hm
  · obtain ⟨a1, a2, a3⟩ := h.dk k' a' e
    exact ⟨a1, by rw [upd_ne (fun y => by rw [y, e1] at a2; cases a2)]; exact a2, a3⟩
  · have hno : ¬ (k = k' ∧ t = t') := fun z => by rw [← z.1, ← z.2, hl] at e; cases e
    rw [hW, if_neg hno, h.ln k' t' e]
    rfl
  · by_cases hh : k = k' ∧ t = t'
    · obtain ⟨rfl, rfl⟩ := hh
      rw [hl] at e
      injection e with e
      subst e
      refine ⟨b1, _, upd_same, ?_⟩
      rw [hW, if_pos ⟨rfl, rfl⟩]
      exact (PL.snoc ep b3).keep kt
    · obtain ⟨a1, zs', a2, a3⟩ := h.ls k' t' l' e
      have nl : l' ≠ l := fun y => by
        subst y
        have := h.li k' t' k t _ e hl
        exact hh ⟨this.1.symm, this.2.symm⟩
      refine ⟨a1, zs', by rw [upd_ne nl]; exact a2, ?_⟩
      rw [hW, if_neg hh, List.append_nil]
      exact a3.keep kt
theorem WS.out {R : List Srd.Qd} {ex : List Addr} (h : WS H5 H d m D mk tf Lf (wayL R) c) (hex : ∀ b ∈ ex, H b = none) (hc : c ≤ 900) (hne : ∀ k t l, Lf k t = some l → wayL R k t ≠ []) : WI ex H d R := by
  have no : ∀ b o, H b = some o → b ∉ ex := fun b o e hb => by
    rw [hex b hb] at e
    cases e
  refine ⟨no _ _ h.hm, m, D, h.hm, h.vm, fun k e t => h.ln k t (h.dn k t e), fun k a e => ?_⟩
  obtain ⟨a1, a2, a3, a4, a5⟩ := h.dk k a e
  refine ⟨no _ _ a2, mk k, tf k, a2, a3, by (first | lia | omega), fun t => ?_⟩
  cases hl : Lf k t with
  | none => exact .inl ⟨by rw [a5, hl]; rfl, h.ln k t hl⟩
  | some l =>
    obtain ⟨b1, zs, b2, b3⟩ := h.ls k t l hl
    exact .inr ⟨l, zs, by rw [a5, hl]; rfl, no _ _ b2, b2, b3, hne k t l hl⟩
end
/-! the promises of the reader's methods -/
def spRInit (K : PySem.W.Frag) (C : Addr) : Sp := fun vs H Q _ => ∃ (a p dx : Addr) (f : FQ), vs = [.ref a, .ref p] ∧ H a = some (.ins C dx []) ∧ FmQ H p f ∧ OkR f ∧ ∀ (H' : Hp) (L T : Addr) (R : List Srd.Qd) (hs : List Int), (∀ b o, b ≠ a → H b = some o → H' b = some o) → H L = none → H T = none → Rise hs → (∀ x, x ∈ hs ↔ x ∈ f.hs ∧ LvQ f x) → RdAt C H' a L T [] f R [hs.map dup] [] → Q .non H'
end Fg

/-! what the laws of the reader build -/
namespace Fg
open PySem L2 FgM
end Fg
namespace L2
open PySem PySem.Spec PyProof.Rows
end L2
namespace L2
open PySem PySem.Spec PyProof.Rows
/-- is, is not of two bools -/
theorem op_isB {X : Cx} : OpR X (compareOp .Is) (fun x y H Q => ∃ a b, x = .bl a ∧ y = .bl b ∧ Q (.bl (decide (a = b))) H) := by
  intro pins s σ H x y v u Q I rx ry h
  obtain ⟨a, b, rfl, rfl, q⟩ := h
  cases rx
  cases ry
  cases a <;> cases b <;> exact wpAny_pure (fin_bl I q rfl)
end L2
namespace Fg
open PySem L2 FgM
end Fg
namespace Fg
open PySem L2 FgM
/-- a cut within a block whose parts have names -/
theorem via {u t : TS} {D : Ends} {σ : St} {H : Hp} (R : St → Hp → Prop) (h2 : ∀ σ' H', R σ' H' → t D σ' H') (h1 : (∀ σ' H', R σ' H' → t D σ' H') → u D σ H) : u D σ H := h1 h2
end Fg
namespace Fg
open PySem L2 FgM
end Fg

/-! sorted(list of pairs), sorted(list of texts) -/
namespace L2
open PySem PySem.Spec PyProof.Rows PySem.W Srd Sts Stg
end L2
namespace Fg
open PySem L2 FgM
end Fg
namespace Fg
open PySem L2 FgM
end Fg
namespace L2
open PySem PySem.Spec PyProof.Rows
/-! a display of many written numbers -/
end L2
namespace L2
open PySem PySem.Spec PyProof.Rows
end L2
namespace Fg
open PySem L2 FgM
end Fg

/-! sorted(set(l)) of a list of pairs of numbers; a pair in a list of pairs -/
namespace L2
open PySem PySem.Spec PyProof.Rows PySem.W Srd Sts Stg
end L2

/-! sum(list of ints) -/
namespace L2
open PySem PySem.Spec PyProof.Rows
end L2

/-! min(list of ints, default=d) -/
namespace L2
open PySem PySem.Spec PyProof.Rows PySem.SeqAt
end L2

/-! a grove under way: rows and tags that are open; one tag opened, one shut -/
namespace Fg
open PySem L2 FgM
/-! how many tags, how deep, what is within each -/
end Fg

/-! where the tags of a grove end; what stands at each place; how far two groves are apart -/
namespace Fg
open PySem L2 FgM
end Fg

/-! a tuple times an int; max(list of ints) -/
namespace L2
open PySem PySem.Spec PyProof.Rows
section
variable {X : Cx}
theorem call_len_seqK {K : PySem.W.Frag} (hK : X.K = K) : CallR X (.builtin "len") (fun xs H Q => ∃ p ys, xs = [.ref p] ∧ (SqL K H p ys ∨ SqT K H p ys) ∧ Q (.int ys.length) H) := hK ▸ call_len_seq
end
end L2

/-! a table: a list of lists of ints, each row a list of its own -/
namespace Fg
open PySem L2 FgM
end Fg

/-! how far groves are apart: steps, and what they tell -/
namespace Fg
open PySem L2 FgM
end Fg

/-! groves changed tree by tree; == of groves -/
namespace Fg
open PySem L2 FgM
end Fg

/-! dict(list of pairs) whose keys are tuples -/
namespace Srd
open PySem PyProof.Rows
section
variable {prog : Program} {w : World} {A : Around} {E : Value → Shared → Prop} {R : Result → Shared → Prop}
abbrev TK3 := List L2.Key × Addr × Value
def mergedH (m : List TK3) (ps : List TK3) : List TK3 := ps.foldl (fun m p => storedH m p.1 p.2.1 p.2.2) m
theorem storedH_mem {m : List TK3} {k : List L2.Key} {a : Addr} {v : Value} {x : TK3} (h : x ∈ storedH m k a v) : (∃ y ∈ m, y.1 = x.1 ∧ y.2.1 = x.2.1) ∨ (x.1 = k ∧ x.2.1 = a) := by
  unfold storedH at h
  split at h
  · obtain ⟨y, hy, rfl⟩ := List.mem_map.mp h
    refine .inl ⟨y, hy, ?_⟩
    unfold putAt
    split <;> exact ⟨rfl, rfl⟩
  · rcases List.mem_append.mp h with h | h
    · exact .inl ⟨x, h, rfl, rfl⟩
    · rw [List.mem_singleton.mp h]
      exact .inr ⟨rfl, rfl⟩
theorem storedH_len (m : List TK3) (k : List L2.Key) (a : Addr) (v : Value) : (storedH m k a v).length ≤ m.length + 1 := by
  unfold storedH
  split
  · rw [List.length_map]; (first | lia | omega)
  · rw [List.length_append]; exact Nat.le_refl _
theorem mergedH_len : ∀ (ps m : List TK3), (mergedH m ps).length ≤ m.length + ps.length
  | [], m => Nat.le_refl _
  | p :: ps, m => by
    have h1 := mergedH_len ps (storedH m p.1 p.2.1 p.2.2)
    have h2 := storedH_len m p.1 p.2.1 p.2.2
    show (mergedH (storedH m p.1 p.2.1 p.2.2) ps).length ≤ _
    rw [List.length_cons]
    (first | lia | omega)
theorem mergedH_lt {D : Addr} : ∀ (ps m : List TK3), (∀ x ∈ m, x.2.1 < D) → (∀ x ∈ ps, x.2.1 < D) → ∀ x ∈ mergedH m ps, x.2.1 < D
  | [], m, h, _ => h
  | p :: ps, m, h, hp => mergedH_lt ps _ (fun x hx => by
      rcases storedH_mem hx with ⟨y, hy, _, e⟩ | ⟨_, e⟩
      · rw [← e]; exact h y hy
      · rw [e]; exact hp p (List.mem_cons_self ..)) fun x hx => hp x (List.mem_cons_of_mem _ hx)
theorem mergedH_succ (ps : List TK3) (i : Nat) (p : TK3) (h : ps[i]? = some p) : mergedH [] (ps.take (i + 1)) = storedH (mergedH [] (ps.take i)) p.1 p.2.1 p.2.2 := by
  unfold mergedH
  have e : ps.take (i + 1) = ps.take i ++ [p] := by
    obtain ⟨hi, e⟩ := List.getElem?_eq_some_iff.mp h
    rw [List.take_succ_eq_append_getElem hi, e]
  rw [e, List.foldl_append]
  rfl
abbrev tkn (prog : Program) (w : World) : HeapKind prog w (List L2.Key) := tupleKind (L2.mixKind prog w)
theorem key_keep {h h' : Heap} {k : List L2.Key} {a : Addr} (x : (tkn prog w).is h k a) (e : ∀ o, h.get? a = some o → h'.get? a = some o) : (tkn prog w).is h' k a := by
  obtain ⟨o, its, n, h1, h2⟩ := x
  exact ⟨o, its, n, e o h1, h2⟩
def PairH (prog : Program) (w : World) (h : Heap) (v : Value) (p : TK3) : Prop := ∃ b o n, v = .ref b ∧ h.get? b = some o ∧ o.cls = .type "tuple" ∧ o.data = .seq #[.ref p.2.1, p.2.2] n ∧ (tkn prog w).is h p.1 p.2.1
def PairsH (prog : Program) (w : World) (h0 : Heap) (d : Addr) (items : Array Value) (ps : List TK3) : Prop := items.size = ps.length ∧ (∀ p ∈ ps, p.2.1 < d) ∧ ∀ (i : Nat) v p, items[i]? = some v → ps[i]? = some p → ∀ h : Heap, (∀ b o, b < d → h0.get? b = some o → h.get? b = some o) → PairH prog w h v p
theorem pair_itemsH {s : Shared} {v : Value} {p : TK3} {Q : List Value → Shared → Prop} (hp : PairH prog w s.heap v p) (q : (tkn prog w).is s.heap p.1 p.2.1 → Q [.ref p.2.1, p.2.2] s) : wpAny (model prog w) A (Builtin.Dict.pairItems v) Q E s := by
  obtain ⟨b, o, n, rfl, ho, hc, hd, hk⟩ := hp
  unfold Builtin.Dict.pairItems
  refine wpAny_bind (wpAny_typeOf (T := "tuple") ⟨o, ho, hc⟩ ?_)
  rw [if_pos (by decide)]
  exact wpAny_bind (wpAny_seqItems ho hd (wpAny_pure (q hk)))
set_option maxHeartbeats 1000000 in
theorem dict_loopH {h0 : Heap} {D I l : Addr} {items : Array Value} {ps : List TK3} (hh : A.in1.handled = none) (hu : (tkn prog w).room A.in1) (ht : PairsH prog w h0 D items ps) (hDI : D < I) (hlI : l ≠ I) (hn : items.size ≤ 100000) : ∀ (k i : Nat) (j : Int) (jt : Tok) (s : Shared), items.size - i = k → i ≤ items.size → (s.heap.IsListIter I l i ∧ s.heap.IsList l items) → l < D → s.heap.DictOfH (tkn prog w) D (mergedH [] (ps.take i)) → (∀ b o, b < D → h0.get? b = some o → s.heap.get? b = some o) →
      (∀ h' tk, h'.DictOfH (tkn prog w) D (mergedH [] ps) → (∀ b o, b < D → h0.get? b = some o → h'.get? b = some o) → R (.ok (.ret .none)) { s with heap := h', toks := tk }) → codeAny (model prog w) A (.builtin "dict.update.loop" ⟨[.ref D, .ref I, .int j jt, .none], []⟩) R s := by
  have W := Walks.list (prog := prog) (w := w) (A := A.in1) hh I l hlI items
  have DK : ∀ {h h' : Heap} {i : Nat}, h.DictOfH (tkn prog w) D (mergedH [] (ps.take i)) → (∀ b o, b ≤ D → h.get? b = some o → h'.get? b = some o) → h'.DictOfH (tkn prog w) D (mergedH [] (ps.take i)) := fun {h h' i} ⟨o, es, ep, ho, h1, h2, h3, h4, h5⟩ hk => ⟨o, es, ep, hk D o (Nat.le_refl _) ho, h1, h2, h3, fun x hx => key_keep (h4 x hx) fun o e => hk _ o (Nat.le_of_lt (mergedH_lt _ [] (fun _ h => nomatch h) (fun y hy => ht.2.1 y (List.mem_of_mem_take hy)) x hx)) e, h5⟩
  intro k
  induction k with
  | zero =>
    intro i j jt s hk hi hst hlD hd hb hR
    obtain rfl : i = items.size := by (first | lia | omega)
    refine codeAny_builtin entry_dict_update_loop ?_
    rw [Around.under_plainId plain_dict_update_loop _]
    change wpAny _ A.in1 (pyNext (.ref I) >>= _) _ _ s
    refine wpAny_bind (W.done s _ _ hst fun h' tk hm => ?_)
    change wpAny _ A.in1 (Builtin.Dict.addKeywords D [] >>= fun _ => ret Value.none) _ _ _
    refine wpAny_bind ?_
    unfold Builtin.Dict.addKeywords
    refine wpAny_pure (wpAny_pure ?_)
    have hd' := DK hd fun b o hb' e => hm b o (fun z => Nat.lt_irrefl _ (Nat.lt_of_le_of_lt (List.mem_singleton.mp z ▸ hb') hDI)) e
    rw [ht.1, List.take_length] at hd'
    exact hR h' tk hd' fun b o hb' e => hm b o (fun z => Nat.lt_irrefl _ (Nat.lt_trans (List.mem_singleton.mp z ▸ hb') hDI)) (hb b o hb' e)
  | succ k ih =>
    intro i j jt s hk hi hst hlD hd hb hR
    have hlt : i < items.size := by (first | lia | omega)
    refine codeAny_builtin entry_dict_update_loop ?_
    rw [Around.under_plainId plain_dict_update_loop _]
    change wpAny _ A.in1 (pyNext (.ref I) >>= _) _ _ s
    refine wpAny_bind (W.item i s _ _ hlt hst fun v h' tk hP hst' hm => ?_)
    have hd' := DK hd fun b o hb' e => hm b o (fun z => Nat.lt_irrefl _ (Nat.lt_of_le_of_lt (List.mem_singleton.mp z ▸ hb') hDI)) e
    have hb1 : ∀ b o, b < D → h0.get? b = some o → h'.get? b = some o := fun b o hb' e => hm b o (fun z => Nat.lt_irrefl _ (Nat.lt_trans (List.mem_singleton.mp z ▸ hb') hDI)) (hb b o hb' e)
    have hpl : i < ps.length := by have := ht.1; (first | lia | omega)
    have hp := ht.2.2 i v ps[i] hP (List.getElem?_eq_getElem hpl) h' hb1
    refine wpAny_bind (wpAny_holding (wpAny_bind (wpAny_tryCatch (pair_itemsH (s := { s with heap := h', toks := tk }) hp fun huk => ?_))))
    dsimp only
    have hml : (mergedH [] (ps.take i)).length ≤ sizeLine := by
      have := mergedH_len (ps.take i) []
      rw [List.length_take] at this
      have h0l : ([] : List TK3).length = 0 := rfl
      have := ht.1
      rw [sizeLine_eq]
      (first | lia | omega)
    refine wpAny_holding (wpAny_dictSet_heap (s := { s with heap := h', toks := tk }) (hsz := hml) hu huk hd' fun h2 hd2 sb => ?_)
    have hk2 : ∀ b o, b ≠ D → h'.get? b = some o → h2.get? b = some o := fun b o hb e => (sb.2 b hb).trans e
    refine wpAny_pure ⟨plainId_quiet plain_dict_update_loop _, ih (i + 1) (j + 1) 0 _ (by (first | lia | omega)) hlt ?_ hlD ?_ (fun b o hb' e => hk2 b o (Nat.ne_of_lt hb') (hb1 b o hb' e)) fun h3 tk3 hw3 hb3 => hR h3 tk3 hw3 hb3⟩
    · refine W.frame _ h' h2 hst' fun b hb o e => hk2 b o (fun z => ?_) e
      simp only [List.mem_cons, List.not_mem_nil, or_false] at hb
      rcases hb with rfl | rfl
      · exact Nat.lt_irrefl _ (z ▸ hDI)
      · exact Nat.lt_irrefl _ (z ▸ hlD)
    · rw [mergedH_succ ps i ps[i] (List.getElem?_eq_getElem hpl)]
      exact hd2
set_option maxHeartbeats 1000000 in
theorem call_dict_pairsH {s : Shared} {l : Addr} {items : Array Value} {n : Nat} {sl : Array (Option Value)} {ps : List TK3} {Q : Value → Shared → Prop} (hh : A.handled = none) (hu : A.units + 2 < cLine) (hl : s.heap.get? l = some { cls := .type "list", dict := none, data := .seq items n, slots := sl }) (ht : PairsH prog w s.heap s.heap.objs.size items ps) (hn : items.size ≤ 100000)
    (q : ∀ (h' : Heap) (tk : Nat), h'.DictOfH (tkn prog w) s.heap.objs.size (mergedH [] ps) → (∀ b o, s.heap.get? b = some o → h'.get? b = some o) → Q (.ref s.heap.objs.size) { s with heap := h', toks := tk }) :
    wpAny (model prog w) A (call (.type "dict") [.ref l]) Q E s := by
  refine callType_codes (Q₁ := fun obj s₁ => obj = .ref s.heap.objs.size ∧ s₁ = { s with heap := s.heap.push { cls := .type "dict", data := .dict #[] } }) F.kt_called_dict (F.kt_typeCall_dict_1 _) F.entry_dict_init (kt_code_dict_new _ ⟨rfl, rfl⟩) ?_
  rintro obj s₁ ⟨rfl, rfl⟩
  have hnew : (s.heap.push { cls := .type "dict", data := .dict #[] }).DictOfH (tkn prog w) s.heap.objs.size [] := Heap.DictOfH.new s.heap
  have hl1 : (s.heap.push { cls := .type "dict", data := .dict #[] }).get? l = some { cls := .type "list", dict := none, data := .seq items n, slots := sl } := Heap.get?_push_of_some _ hl
  have hlD : l < s.heap.objs.size := Heap.lt_size hl
  have k0 : ∀ b o, b < s.heap.objs.size → s.heap.get? b = some o → (s.heap.push { cls := .type "dict", data := .dict #[] }).get? b = some o := fun b o _ e => Heap.get?_push_of_some _ e
  have z0 : (s.heap.push { cls := .type "dict", data := .dict #[] }).objs.size = s.heap.objs.size + 1 := Heap.size_push ..
  refine ⟨hnew.typeIs, F.args_dict_init_2 _ _, ?_⟩
  generalize s.heap.push { cls := .type "dict", data := .dict #[] } = h1 at hnew hl1 k0 z0
  unfold Builtin.«dict.__init__»
  refine wpAny_bind ?_
  unfold Builtin.Dict.selfAndRest
  refine wpAny_bind (wpAny_notOrdered_dict hnew.typeIs ?_)
  show wpAny _ _ (pure (s.heap.objs.size, [Value.ref l])) _ _ _
  refine wpAny_pure ?_
  show wpAny _ _ (Builtin.Dict.updateFrom "dict.__init__" s.heap.objs.size (.ref l) [] .none) _ _ _
  unfold Builtin.Dict.updateFrom
  refine wpAny_bind (wpAny_typeOf (T := "list") ⟨_, hl1, rfl⟩ ?_)
  rw [if_pos (by decide)]
  refine wpAny_bind (miss_attr_list hh hl1 fun h2 tk2 k2 z2 => ?_)
  rw [if_pos (show (none : Option Value).isNone = true from rfl)]
  refine wpAny_bind (wpAny_rule ?_)
  have hl2 := k2 _ _ hl1
  have hL2 : h2.IsList l items := ⟨_, hl2, rfl, n, rfl⟩
  refine wpAny_bind (wpAny_pyIter_list hL2 ?_)
  have hd3 : (h2.push { cls := .type "list_iterator", data := .fields #[.ref l, .int 0 0] }).DictOfH (tkn prog w) s.heap.objs.size [] := by
    obtain ⟨o, es, ep, ho, h1, h2, h3, h4, h5⟩ := hnew
    exact ⟨o, es, ep, Heap.get?_push_of_some _ (k2 _ _ ho), h1, h2, h3, fun x hx => (nomatch hx), h5⟩
  have hsz : s.heap.objs.size < h2.objs.size := by (first | lia | omega)
  refine wpAny_pure ⟨plainId_quiet plain_dict_update_loop _, ?_⟩
  refine dict_loopH (h0 := s.heap) (by simpa using hh) ?_ ht hsz (Nat.ne_of_lt (Nat.lt_trans hlD hsz)) hn (items.size - 0) 0 0 0 _ rfl (Nat.zero_le _) ⟨⟨_, Heap.get?_push_size _ rfl, rfl, rfl⟩, hL2.push _⟩ hlD hd3 (fun b o hb e => Heap.get?_push_of_some _ (k2 _ _ (k0 b o hb e))) fun h' tk hd' hb' => ?_
  · exact tupleKind_room_in1 (by show _ < cLine; simp; (first | lia | omega))
  exact ⟨rfl, q h' tk hd' fun b o e => hb' b o (Heap.lt_size e) e⟩
end
end Srd
namespace L2
open PySem PySem.Spec PyProof.Rows PySem.W Srd
def putAllT (kvs : List (List Key × V)) : List (List Key × V) := kvs.foldl (fun m kv => putK m kv.1 kv.2) []
theorem putAllT_len_from : ∀ (kvs m : List (List Key × V)), (kvs.foldl (fun m kv => putK m kv.1 kv.2) m).length ≤ m.length + kvs.length
  | [], m => Nat.le_refl _
  | kv :: kvs, m => by
    have h1 := putAllT_len_from kvs (putK m kv.1 kv.2)
    have h2 := length_putK m kv.1 kv.2
    rw [List.length_cons, List.foldl_cons]
    (first | lia | omega)
theorem kt_all {H : Hp} : ∀ {kvs : List (List Key × V)} {ps : List TK3} {m : List (List Key × V)} {m' : List TK3}, KT H kvs ps → KT H m m' → KT H (kvs.foldl (fun m kv => putK m kv.1 kv.2) m) (mergedH m' ps)
  | _, _, _, _, .nil, h => h
  | _, _, m, m', .cons (a := kv) (b := p) r t, h => by
    have e : p.1 = kv.1 := r.1.symm
    have h1 := h.put kv.1 r.2.1 r.2.2
    have h2 := kt_all t h1
    show KT H (List.foldl _ (putK m kv.1 kv.2) _) (mergedH (storedH m' p.1 p.2.1 p.2.2) _)
    rw [e]
    exact h2
section
variable {X : Cx}
theorem call_dict_listT (hc : X.calm = true) (hu : X.A.units + 2 < cLine) : CallR X (.type "dict") (fun xs H Q => ∃ l ys kvs, xs = [.ref l] ∧ SqL X.K H l ys ∧ ys.length ≤ 90000 ∧ Paired (fun (y : V) (kv : List Key × V) => ∃ t b, y = .ref t ∧ H t = some (.tup [.ref b, kv.2]) ∧ H b = some (.tup (kv.1.map kV))) ys kvs ∧ ∀ d, H d = none → Q (.ref d) (upd H d (.dT (putAllT kvs)))) := by
  intro pins s σ H xs us Q I r h
  obtain ⟨l, ys, kvs, rfl, hq, hlen, hp, q⟩ := h
  obtain ⟨u, rfl, ru⟩ := vals1 r
  cases ru
  obtain ⟨its, rv, ⟨o, n, ho, ocl, odi, oda⟩, hz⟩ := I.list hq
  have hl := rv.length
  obtain ⟨ocls, odict, odata, oslots⟩ := o
  simp only at ocl odi oda
  subst ocl odi oda
  have key : ∀ {ys : List V} {kvs : List (List Key × V)} {its : List Value}, Paired (fun (y : V) (kv : List Key × V) => ∃ t b, y = .ref t ∧ H t = some (.tup [.ref b, kv.2]) ∧ H b = some (.tup (kv.1.map kV))) ys kvs → Vals ys its → ∃ ps : List TK3, KT H kvs ps ∧ its.length = ps.length ∧ (∀ p ∈ ps, p.2.1 < s.heap.objs.size) ∧ ∀ (i : Nat) v p, its[i]? = some v → ps[i]? = some p → PairH X.prog X.w s.heap v p := by
    intro ys kvs its hp
    induction hp generalizing its with
    | nil =>
      intro rv
      cases rv
      exact ⟨[], .nil, rfl, fun _ h => (nomatch h), fun i v p h => (nomatch h)⟩
    | @cons y kv ys kvs r t ih =>
      intro rv
      cases rv with
      | @cons _ v _ its ry rr =>
        obtain ⟨ps, h1, h2, h4, h3⟩ := ih rr
        obtain ⟨ta, tb, rfl, ht, hb⟩ := r
        obtain rfl : v = Value.ref ta := ry
        obtain ⟨_, us, rus, o, ho, hc', n, hd⟩ := I.hok ta _ ht
        obtain ⟨u1, u2, rfl, r1, r2⟩ := Vals.two rus
        obtain rfl : u1 = Value.ref tb := r1
        have hk := key_of I.hok hb
        refine ⟨(kv.1, tb, u2) :: ps, .cons ⟨rfl, hb, r2⟩ h1, by rw [List.length_cons, List.length_cons, h2], fun p hp => ?_, fun i v p e1 e2 => ?_⟩
        · rcases List.mem_cons.mp hp with rfl | hp
          · obtain ⟨o, its, n, h5, _⟩ := hk
            exact Heap.lt_size h5
          · exact h4 p hp
        · cases i with
          | zero =>
            injection e1 with e1
            injection e2 with e2
            subst e1 e2
            exact ⟨ta, o, n, rfl, ho, hc', hd, hk⟩
          | succ i => exact h3 i v p e1 e2
  obtain ⟨ps, h1, h2, h4, h3⟩ := key hp rv
  refine Srd.call_dict_pairsH (ps := ps) (I.ok.hd hc) hu ho ⟨by rw [List.size_toArray]; exact h2, h4, fun i v p e1 e2 h' hk => ?_⟩ (by rw [List.size_toArray]; (first | lia | omega)) fun h' tk hd' hk => ?_
  · obtain ⟨b, o, n, e, ho2, h5, h6, h7⟩ := h3 i v p (by rw [← e1]; simp) e2
    exact ⟨b, o, n, e, hk b o (Heap.lt_size ho2) ho2, h5, h6, key_keep h7 fun o e => hk _ o (Heap.lt_size e) e⟩
  · have hkl : kvs.length = ps.length := h1.length
    have hpl : (putAllT kvs).length ≤ kvs.length := by
      have := putAllT_len_from kvs []
      rw [List.length_nil, Nat.zero_add] at this
      exact this
    obtain ⟨o, es, ep, g1, g2, g3, g4, g5, g6⟩ := hd'
    have hf : H s.heap.objs.size = none := I.hok.fresh (Nat.le_refl _)
    exact ⟨.ref _, _, I.laid (t' := tk) (fun b o e => hk b o e) (Nat.le_refl _) (show ObjOk X.prog X.w _ h' _ (.dT (putAllT kvs)) from ⟨by rw [sizeLine_eq]; (first | lia | omega), beq_eq_false_iff_ne.mpr (Ne.symm (Nat.ne_of_lt I.big)), _, (kt_all h1 .nil).keeps fun b ys e => by rw [upd_ne (ne_of_none e hf)]; exact e, o, es, ep, g1, g2, g3, g4, g6⟩), rfl, q _ hf⟩
end
end L2

/-! pairs of a number and a text in order; sorted of a dict whose keys are such pairs -/
namespace Srd
open PySem PyProof.Rows Srt PySem.W
abbrev Ps := Int × Str
def psLt : Ps → Ps → Bool := lexB (fun a b : Int => decide (a < b)) fun a b : Str => decide (a.cps.toList < b.cps.toList)
theorem psLt_sto : Sto psLt := sto_int.lex sto_str
/-- such a tuple, as a value -/
def IsPs (h : Heap) (v : Value) (q : Ps) : Prop := ∃ a o t u n, v = .ref a ∧ h.get? a = some o ∧ o.cls = .type "tuple" ∧ o.data = .seq #[.int q.1 t, .str q.2 u] n
theorem IsPs.inj {h : Heap} {v : Value} {q q' : Ps} (x : IsPs h v q) (y : IsPs h v q') : q = q' := by
  obtain ⟨a, o, t, u, n, rfl, h1, _, h3⟩ := x
  obtain ⟨a', o', t', u', n', e, h1', _, h3'⟩ := y
  cases e
  rw [h1] at h1'
  cases h1'
  rw [h3] at h3'
  obtain ⟨q1, q2⟩ := q
  obtain ⟨r1, r2⟩ := q'
  simp only [Data.seq.injEq, Array.mk.injEq, List.cons.injEq, Value.int.injEq, Value.str.injEq, and_true] at h3'
  obtain ⟨⟨⟨e1, _⟩, ⟨e2, _⟩⟩, _⟩ := h3'
  rw [e1, e2]
theorem IsPs.keep {h h' : Heap} {v : Value} {q : Ps} (x : IsPs h v q) (k : ∀ b o, h.get? b = some o → h'.get? b = some o) : IsPs h' v q := by
  obtain ⟨a, o, t, u, n, rfl, h1, r⟩ := x
  exact ⟨a, o, t, u, n, rfl, k _ _ h1, r⟩
open Classical in
noncomputable def kps (h : Heap) (v : Value) : Ps := if x : ∃ q, IsPs h v q then x.choose else (0, Str.empty)
theorem kps_of {h : Heap} {v : Value} {q : Ps} (x : IsPs h v q) : kps h v = q := by
  unfold kps
  rw [dif_pos ⟨q, x⟩]
  exact (Exists.choose_spec (⟨q, x⟩ : ∃ q, IsPs h v q)).inj x
section
variable {prog : Program} {w : World} {A : Around} {s : Shared}
theorem pss_tups {h : Heap} : ∀ {vs : List Value}, (∀ v ∈ vs, ∃ q, IsPs h v q) → ∃ fs, KatTups h vs fs ∧ fs.length = vs.length ∧ ∀ f ∈ fs, ∃ i t, f = .int i t
  | [], _ => ⟨[], trivial, rfl, fun _ h => nomatch h⟩
  | v :: vs, hv => by
    obtain ⟨q, a, o, t, u, n, rfl, ho, hc, hd⟩ := hv v (List.mem_cons_self ..)
    obtain ⟨fs, kt, hl, hf⟩ := pss_tups (vs := vs) fun x hx => hv x (List.mem_cons_of_mem _ hx)
    refine ⟨.int q.1 t :: fs, KatTups.cons ho hc hd rfl kt, by simp [hl], fun f hm => ?_⟩
    rcases List.mem_cons.mp hm with rfl | hm
    · exact ⟨_, t, rfl⟩
    · exact hf f hm
theorem pss_sortableL {h0 : Heap} {vs : List Value} (hv : ∀ v ∈ vs, ∃ q, IsPs h0 v q) (k0 : ∀ b o, h0.get? b = some o → s.heap.get? b = some o) (h2 : 2 ≤ vs.length) : SortableL prog w A (fun u v => psLt (kps h0 u) (kps h0 v)) vs s := by
  have hv' : ∀ v ∈ vs, ∃ q, IsPs s.heap v q := fun v hm => let ⟨q, x⟩ := hv v hm; ⟨q, x.keep k0⟩
  obtain ⟨fs, k, hl, hf⟩ := pss_tups hv'
  refine ⟨tuples' true, fun Q E hq => ?_, ?_⟩
  · refine kat_kind (T := .type "int") k (by (first | lia | omega)) (fun v hm => ?_) rfl hq
    obtain ⟨i, t, rfl⟩ := hf v hm
    exact Looks.of_pure rfl
  · intro x y hx hy E
    rw [pairsOf_toList] at hx hy
    obtain ⟨q, xq⟩ := hv _ (mem_zip_self hx).2
    obtain ⟨q', yq⟩ := hv _ (mem_zip_self hy).2
    have e1 : (fun x y : Keyed => psLt (kps h0 x.1) (kps h0 y.1)) x y = psLt q q' := by
      show psLt (kps h0 x.1) (kps h0 y.1) = _
      have hx1 := (mem_zip_self hx)
      have hy1 := (mem_zip_self hy)
      rw [kps_of xq, kps_of yq]
    rw [e1]
    obtain ⟨a, o, t, u, n, e, ho, hc, hd⟩ := xq.keep k0
    obtain ⟨a', o', t', u', n', e', ho', hc', hd'⟩ := yq.keep k0
    rw [e, e']
    obtain ⟨q1, q2⟩ := q
    obtain ⟨r1, r2⟩ := q'
    refine kat_lt ho hd ho' hd' ?_
    have unf : psLt (q1, q2) (r1, r2) = (decide (q1 < r1) || (decide (q1 = r1) && decide (q2.cps.toList < r2.cps.toList))) := rfl
    rw [unf]
    refine kat_cons (wpAny_eqBool_int (kat_go (fun c1 => kat_yes ?_) (fun c1 => kat_no ?_)))
    · have c1' : q1 = r1 := eq_of_beq c1
      refine kat_cons (wpAny_eqBool_str (kat_go (fun c4 => kat_yes (kat_nil ⟨rfl, ?_⟩)) (fun c4 => kat_no ?_)))
      · have c4' : q2 = r2 := eq_of_beq c4
        subst c1' c4'
        simp [list_lt_irr]
      · refine kat_one _ _ (PyProof.Rows.lt_str ⟨rfl, ?_⟩)
        subst c1'
        simp
    · refine oneLt_int ⟨rfl, ?_⟩
      have c1' : ¬ q1 = r1 := fun z => by rw [z] at c1; simp at c1
      simp [c1']
end
end Srd
namespace L2
open PySem PySem.Spec PyProof.Rows PySem.W Srd
def tps (q : Ps) : HO := .tup [.int q.1, .str q.2]
def psK (q : Ps) : List Key := [Sum.inl q.1, Sum.inr q.2]
/-- pairs in the heap, one behind another -/
def PsL (H : Hp) (zs : List V) (qs : List Ps) : Prop := Paired (fun z q => ∃ p, z = V.ref p ∧ H p = some (tps q)) zs qs
theorem PsL.mem {H : Hp} : ∀ {zs : List V} {qs : List Ps}, PsL H zs qs → ∀ z ∈ zs, ∃ p, ∃ q ∈ qs, z = V.ref p ∧ H p = some (tps q)
  | _, _, .cons ⟨p, e1, e2⟩ t, z, hz => by
    rcases List.mem_cons.mp hz with rfl | hz
    · exact ⟨p, _, List.mem_cons_self .., e1, e2⟩
    · obtain ⟨p, q, hq, r⟩ := PsL.mem t z hz
      exact ⟨p, q, List.mem_cons_of_mem _ hq, r⟩
theorem PsL.length {H : Hp} : ∀ {zs : List V} {qs : List Ps}, PsL H zs qs → zs.length = qs.length
  | _, _, .nil => rfl
  | _, _, .cons _ t => by rw [List.length_cons, List.length_cons, PsL.length t]
theorem PsL.get {H : Hp} : ∀ {zs : List V} {qs : List Ps}, PsL H zs qs → ∀ (i : Nat) z, zs[i]? = some z → ∃ p q, qs[i]? = some q ∧ z = V.ref p ∧ H p = some (tps q)
  | _, _, .cons ⟨p, e1, e2⟩ t, i, z, hz => by
    cases i with
    | zero =>
      injection hz with hz
      subst hz
      exact ⟨p, _, rfl, e1, e2⟩
    | succ i => exact PsL.get t i z hz
theorem PsL.keep {H H' : Hp} : ∀ {zs : List V} {qs : List Ps}, PsL H zs qs → (∀ b xs, H b = some (.tup xs) → H' b = some (.tup xs)) → PsL H' zs qs
  | _, _, .nil, _ => .nil
  | _, _, .cons ⟨p, e1, e2⟩ t, k => .cons ⟨p, e1, k _ _ e2⟩ (PsL.keep t k)
theorem isPs_of {P : Program} {w : World} {H : Hp} {h : Heap} {t : Addr} {q : Ps} (ok : HOk P w H h) (e : H t = some (tps q)) : IsPs h (.ref t) q := by
  obtain ⟨_, us, rus, o, ho, hc', n, hd⟩ := ok t _ e
  obtain ⟨u1, us, rfl, r1, rus⟩ := Vals.inv rus
  obtain ⟨u2, us, rfl, r2, rus⟩ := Vals.inv rus
  obtain rfl := Vals.end_ rus
  obtain ⟨t1, rfl⟩ := r1
  obtain ⟨t2, rfl⟩ := r2
  exact ⟨t, o, t1, t2, n, rfl, ho, hc', hd⟩
theorem psl_sub {P : Program} {w : World} {H : Hp} {h0 : Heap} (ok : HOk P w H h0) {ys : List V} {its : List Value} {qs : List Ps} (rv : Vals ys its) (ql : PsL H ys qs) : ∀ us : List Value, (∀ u ∈ us, u ∈ its) → ∃ zs, Vals zs us ∧ PsL H zs (us.map (kps h0))
  | [], _ => ⟨[], .nil, .nil⟩
  | u :: us, h => by
    obtain ⟨y, hy, ry⟩ := vals_mem rv u (h u (List.mem_cons_self ..))
    obtain ⟨zs, rz, hz⟩ := psl_sub ok rv ql us fun x hx => h x (List.mem_cons_of_mem _ hx)
    obtain ⟨t, q, _, rfl, e2⟩ := ql.mem y hy
    have hu : u = Value.ref t := ry
    subst hu
    exact ⟨_, .cons ry rz, .cons ⟨t, rfl, by rw [kps_of (isPs_of ok e2)]; exact e2⟩ hz⟩
theorem kps_all {P : Program} {w : World} {H : Hp} {h0 : Heap} (ok : HOk P w H h0) : ∀ {ys : List V} {its : List Value} {qs : List Ps}, Vals ys its → PsL H ys qs → its.map (kps h0) = qs
  | _, _, _, .nil, .nil => rfl
  | _, _, _, .cons (b := u) r rr, .cons ⟨p, e1, e2⟩ t => by
    subst e1
    have hu : u = Value.ref p := r
    subst hu
    rw [List.map_cons, kps_all ok rr t, kps_of (isPs_of ok e2)]
/-- the keys of such a dict, in its object -/
theorem keys_psl {H : Hp} {kvs : List (List Key × V)} {xs : List (List Key × Addr × Value)} (h : Paired (fun (p : List Key × V) (q : List Key × Addr × Value) => p.1 = q.1 ∧ H q.2.1 = some (.tup (p.1.map kV)) ∧ RelV p.2 q.2.2) kvs xs) : ∀ {ps : List Ps}, kvs.map (·.1) = ps.map psK → ∃ ys, Vals ys (xs.map fun x => Value.ref x.2.1) ∧ PsL H ys ps := by
  induction h with
  | nil =>
    intro ps e
    cases ps with
    | nil => exact ⟨[], .nil, .nil⟩
    | cons n ns => cases e
  | @cons p q l m r t ih =>
    intro ps e
    cases ps with
    | nil => cases e
    | cons n ns =>
      rw [List.map_cons, List.map_cons] at e
      obtain ⟨e1, e2⟩ := List.cons.inj e
      obtain ⟨ys, h1, h2⟩ := ih e2
      refine ⟨.ref q.2.1 :: ys, .cons rfl h1, .cons ⟨q.2.1, rfl, ?_⟩ h2⟩
      have h3 := r.2.1
      rw [e1] at h3
      exact h3
section
variable {X : Cx}
theorem call_sorted_dPs (hc : X.calm = true) : CallR X (.builtin "sorted") (fun xs H Q => ∃ (d : Addr) (kvs : List (List Key × V)) (ps : List Ps), xs = [.ref d] ∧ H d = some (.dT kvs) ∧ kvs.length ≤ 90000 ∧ kvs.map (·.1) = ps.map psK ∧ ∀ (r : Addr) (zs : List V) (ms : List Ps), H r = none → ms.Perm ps → ms.Pairwise (fun a b => psLt b a = false) → PsL H zs ms → Q (.ref r) (upd H r (.lst zs))) := by
  intro pins s σ H xs us Q I r h
  obtain ⟨d, kvs, ps, rfl, hd, hlen, hkn, q⟩ := h
  obtain ⟨u, rfl, rx⟩ := vals1 r
  obtain rfl : u = .ref d := rx
  obtain ⟨z, lo, xs, rel, o, es, ep, ho, hx, hdat, hes, hnd⟩ := (show ObjOk X.prog X.w H s.heap d (.dT kvs) from I.hok d _ hd)
  obtain ⟨ys, rv, pl⟩ := keys_psl rel hkn
  have hek : es.toList.map (·.key) = xs.map fun x => Value.ref x.2.1 := by
    rw [hes, List.map_map]
    rfl
  have hxl : kvs.length = xs.length := rel.length
  have hel : es.size = xs.length := by rw [← Array.length_toList, hes, List.length_map]
  refine sorted_colL (lv := fun u v => psLt (kps s.heap u) (kps s.heap v)) (C := fun ys => ys = xs.map fun x => Value.ref x.2.1) (psLt_sto.swo (kps s.heap)) (fun Q' E' hq => ?_) (fun ys' h6 tk6 d6 hC k6 h2l => ?_) fun pa ys' out h3 tk3 d3 c hC hperm hso k3 e3 hle hos => ?_
  · refine collect_src (raw_src lo) (I.ok.hd hc) (⟨o, ho, hx, hdat⟩ : RawD s.heap d es ep) (by rw [sizeLine_eq]; (first | lia | omega)) fun acc h' tk kp hit hle => ?_
    have hacc : acc.toList = es.toList.map (·.key) := by
      refine List.ext_getElem? fun j => ?_
      rw [Array.getElem?_toList, List.getElem?_map, Array.getElem?_toList]
      cases hj : acc[j]? with
      | none =>
        have h3 : acc.size ≤ j := Array.getElem?_eq_none_iff.mp hj
        rw [hit.1] at h3
        rw [Array.getElem?_eq_none h3]
        rfl
      | some v =>
        obtain ⟨e, h1, rfl⟩ := hit.2 j v hj
        rw [h1]
        rfl
    rw [hacc, hek]
    exact hq _ h' tk s.drawn kp rfl (by rw [List.length_map]; (first | lia | omega)) hle
  · subst hC
    refine pss_sortableL (h0 := s.heap) (fun v hv => ?_) k6 h2l
    obtain ⟨y, hy, ry⟩ := vals_mem rv v hv
    obtain ⟨t, q1, _, rfl, e2⟩ := pl.mem y hy
    obtain rfl : v = Value.ref t := ry
    exact ⟨q1, isPs_of I.hok e2⟩
  · subst hC
    obtain ⟨zs, rz, hzq⟩ := psl_sub I.hok rv pl out.toList fun u hu => hperm.mem_iff.mp hu
    have hzl : zs.length = out.size := rz.length.trans (Array.length_toList ..)
    have hol : out.size = xs.length := by
      have := hperm.length_eq
      rw [Array.length_toList, List.length_map] at this
      exact this
    have I2 := I.laid (h' := h3) (t' := tk3) (a := pa) (o := .lst zs) (fun b o e => k3 b o e) hle (show ObjOk X.prog X.w _ h3 _ (.lst zs) from ⟨by rw [sizeLine_eq]; (first | lia | omega), out.toList, c, rz, e3⟩)
    refine ⟨.ref pa, _, I2.draws (d := d3), rfl, q pa zs _ (I.hok.fresh hle) ?_ (List.pairwise_map.mpr hso) hzq⟩
    rw [← kps_all I.hok rv pl]
    exact hperm.map _
end
end L2

/-! parts of changers in the heap, streams; text.index, list.index of a tuple -/
namespace L2
open PySem PySem.Spec PyProof.Rows PySem.W
section
variable {X : Cx}
theorem occ_az {c : Nat} (h1 : 97 ≤ c) (h2 : c ≤ 122) : ∃ (i : Nat) (r : List Nat), Builtin.Str.occurrences Fg.ABC ⟨#[c]⟩ 0 Fg.ABC.length 1 = i :: r := by
  have h := Fg.notin_az (c := c) (by (first | lia | omega))
  have e : azB c = true := by
    unfold azB
    simp
    (first | lia | omega)
  rw [e] at h
  cases hh : Builtin.Str.occurrences Fg.ABC ⟨#[c]⟩ 0 Fg.ABC.length 1 with
  | nil => rw [hh] at h; cases h
  | cons i r => exact ⟨i, r, rfl⟩
/-- the alphabet's index(letter): some number -/
theorem mt_sindex : MtM X "str.index" (fun x vs H Q => ∃ c : Nat, x = .str Fg.ABC ∧ vs = [.str ⟨#[c]⟩] ∧ 97 ≤ c ∧ c ≤ 122 ∧ ∀ i : Nat, Q (.int (i : Int)) H) := by
  intro pins s σ H x vs v us Q I rx rv h
  obtain ⟨c, rfl, rfl, h1, h2, q⟩ := h
  obtain ⟨t, rfl⟩ := rx
  obtain ⟨u, rfl, ru⟩ := rv.one
  obtain ⟨t2, rfl⟩ := ru
  obtain ⟨i, r, e⟩ := occ_az h1 h2
  exact call_gives PySem.F.slot_str_index (typeIs_str _ _ _) PySem.F.entry_str_index (PySem.F.args_str_index_2 _ _) (gives_str_index _ _ _ _ i r e) ⟨.int (i : Int), H, I.tok _, ⟨_, rfl⟩, q i⟩
end
end L2
namespace Fg
open PySem L2 FgM
/-- parts -/
inductive Pa where
  | nil
  | kids (m : Int) (o : Pa)
  | tag (t : Str) (w o : Pa)
inductive RepP (H : Hp) : List V → Pa → Prop
  | nil : RepP H [] .nil
  | kids {a : Addr} {m : Int} {vs : List V} {o : Pa} : H a = some (.tup [.str "kids", .int m]) → RepP H vs o → RepP H (.ref a :: vs) (.kids m o)
  | tag {a q : Addr} {t : Str} {ys vs : List V} {w o : Pa} : H a = some (.tup [.str "tag", .str t, .ref q]) → H q = some (.tup ys) → RepP H ys w → RepP H vs o → RepP H (.ref a :: vs) (.tag t w o)
theorem RepP.mono {H H' : Hp} (k : TK H H') : ∀ {vs : List V} {g : Pa}, RepP H vs g → RepP H' vs g
  | _, _, .nil => .nil
  | _, _, .kids h1 h2 => .kids (k _ _ h1) (h2.mono k)
  | _, _, .tag h1 h2 h3 h4 => .tag (k _ _ h1) (k _ _ h2) (h3.mono k) (h4.mono k)
namespace Pa
def app : Pa → Pa → Pa
  | .nil, q => q
  | .kids m o, q => .kids m (app o q)
  | .tag t w o, q => .tag t w (app o q)
/-- how many kids -/
def nk : Pa → Nat
  | .nil => 0
  | .kids _ o => 1 + nk o
  | .tag _ w o => nk w + nk o
def sz : Pa → Nat
  | .nil => 0
  | .kids _ o => 1 + sz o
  | .tag _ w o => 1 + sz w + sz o
def dep : Pa → Nat
  | .nil => 0
  | .kids _ o => dep o
  | .tag _ w o => max (dep w + 1) (dep o)
/-- the kids, from the left -/
def ks : Pa → List Int
  | .nil => []
  | .kids m o => m :: ks o
  | .tag _ w o => ks w ++ ks o
/-- all tags -/
def tags : Pa → List Str
  | .nil => []
  | .kids _ o => tags o
  | .tag t w o => t :: (tags w ++ tags o)
theorem ks_len : ∀ p : Pa, (ks p).length = nk p
  | .nil => rfl
  | .kids m o => by simp [ks, nk, ks_len o]; (first | lia | omega)
  | .tag t w o => by simp [ks, nk, ks_len w, ks_len o]
theorem dep_le : ∀ p : Pa, dep p ≤ sz p
  | .nil => Nat.le_refl _
  | .kids m o => by have := dep_le o; simp only [dep, sz]; (first | lia | omega)
  | .tag t w o => by have := dep_le w; have := dep_le o; simp only [dep, sz]; (first | lia | omega)
theorem nk_app : ∀ p q : Pa, nk (app p q) = nk p + nk q
  | .nil, q => by simp [app, nk]
  | .kids m o, q => by simp only [app, nk, nk_app o q]; (first | lia | omega)
  | .tag t w o, q => by simp only [app, nk, nk_app o q]; (first | lia | omega)
theorem sz_app : ∀ p q : Pa, sz (app p q) = sz p + sz q
  | .nil, q => by simp [app, sz]
  | .kids m o, q => by simp only [app, sz, sz_app o q]; (first | lia | omega)
  | .tag t w o, q => by simp only [app, sz, sz_app o q]; (first | lia | omega)
theorem tags_app : ∀ p q : Pa, tags (app p q) = tags p ++ tags q
  | .nil, q => rfl
  | .kids m o, q => by simp [app, tags, tags_app o q]
  | .tag t w o, q => by simp [app, tags, tags_app o q]
/-- the first i -/
def take : Nat → Pa → Pa
  | 0, _ => .nil
  | _ + 1, .nil => .nil
  | i + 1, .kids m o => .kids m (take i o)
  | i + 1, .tag t w o => .tag t w (take i o)
end Pa
theorem RepP.app {H : Hp} : ∀ {xs ys : List V} {p q : Pa}, RepP H xs p → RepP H ys q → RepP H (xs ++ ys) (p.app q)
  | _, _, _, _, .nil, h => h
  | _, _, _, _, .kids h1 h2, h => .kids h1 (h2.app h)
  | _, _, _, _, .tag h1 h2 h3 h4, h => .tag h1 h2 h3 (h4.app h)
theorem RepP.length {H : Hp} : ∀ {xs : List V} {p : Pa}, RepP H xs p → xs.length ≤ p.sz
  | _, _, .nil => Nat.le_refl _
  | _, _, .kids _ h => by have := h.length; simp only [Pa.sz, List.length_cons]; (first | lia | omega)
  | _, _, .tag _ _ _ h => by have := h.length; simp only [Pa.sz, List.length_cons]; (first | lia | omega)
theorem RepP.at {H : Hp} : ∀ {xs : List V} {p : Pa}, RepP H xs p → ∀ (i : Nat) z, xs[i]? = some z → ∃ a, z = V.ref a ∧ ((∃ m, H a = some (.tup [.str "kids", .int m]) ∧ p.take (i + 1) = (p.take i).app (Pa.kids m Pa.nil)) ∨ ∃ t q ys w, H a = some (.tup [.str "tag", .str t, .ref q]) ∧ H q = some (.tup ys) ∧ RepP H ys w ∧ p.take (i + 1) = (p.take i).app (Pa.tag t w Pa.nil) ∧ w.dep < p.dep ∧ w.sz < p.sz)
  | _, _, .kids h1 h2, i, z, hz => by
    cases i with
    | zero =>
      injection hz with hz
      subst hz
      exact ⟨_, rfl, .inl ⟨_, h1, rfl⟩⟩
    | succ i =>
      obtain ⟨a, e, h⟩ := h2.at i z hz
      refine ⟨a, e, ?_⟩
      rcases h with ⟨m, g1, g2⟩ | ⟨t, q, ys, w, g1, g2, g3, g4, g5, g6⟩
      · exact .inl ⟨m, g1, by show Pa.kids _ (Pa.take (i + 1) _) = Pa.kids _ ((Pa.take i _).app _); rw [g2]⟩
      · exact .inr ⟨t, q, ys, w, g1, g2, g3, by show Pa.kids _ (Pa.take (i + 1) _) = Pa.kids _ ((Pa.take i _).app _); rw [g4], g5, by simp only [Pa.sz]; (first | lia | omega)⟩
  | _, _, .tag h1 h2 h3 h4, i, z, hz => by
    cases i with
    | zero =>
      injection hz with hz
      subst hz
      exact ⟨_, rfl, .inr ⟨_, _, _, _, h1, h2, h3, rfl, by simp only [Pa.dep]; (first | lia | omega), by simp only [Pa.sz]; (first | lia | omega)⟩⟩
    | succ i =>
      obtain ⟨a, e, h⟩ := h4.at i z hz
      refine ⟨a, e, ?_⟩
      rcases h with ⟨m, g1, g2⟩ | ⟨t, q, ys, w, g1, g2, g3, g4, g5, g6⟩
      · exact .inl ⟨m, g1, by show Pa.tag _ _ (Pa.take (i + 1) _) = Pa.tag _ _ ((Pa.take i _).app _); rw [g2]⟩
      · exact .inr ⟨t, q, ys, w, g1, g2, g3, by show Pa.tag _ _ (Pa.take (i + 1) _) = Pa.tag _ _ ((Pa.take i _).app _); rw [g4], by simp only [Pa.dep]; (first | lia | omega), by simp only [Pa.sz]; (first | lia | omega)⟩
theorem RepP.take_all {H : Hp} : ∀ {xs : List V} {p : Pa}, RepP H xs p → p.take xs.length = p
  | _, _, .nil => rfl
  | _, _, .kids _ h => by show Pa.kids _ (Pa.take _ _) = _; rw [h.take_all]
  | _, _, .tag _ _ _ h => by show Pa.tag _ _ (Pa.take _ _) = _; rw [h.take_all]
theorem Pa.take_sz : ∀ (i : Nat) (p : Pa), (p.take i).sz ≤ p.sz
  | 0, _ => Nat.zero_le _
  | _ + 1, .nil => Nat.le_refl _
  | i + 1, .kids m o => by have := Pa.take_sz i o; simp only [Pa.take, Pa.sz]; (first | lia | omega)
  | i + 1, .tag t w o => by have := Pa.take_sz i o; simp only [Pa.take, Pa.sz]; (first | lia | omega)
/-- the words that come ahead, the mode within, the words behind -/
abbrev Kn := Int → Str → Option Pa
/-- rules known: the dict in the heap -/
def KnR (H : Hp) (m : List (List Key × V)) (kn : Kn) : Prop := ∀ (i : Int) (t : Str), (valV m [Sum.inl i, Sum.inr t] = none ∧ kn i t = none) ∨ ∃ q ys p, valV m [Sum.inl i, Sum.inr t] = some (.ref q) ∧ H q = some (.tup ys) ∧ RepP H ys p ∧ kn i t = some p
theorem KnR.tk {H H' : Hp} {m : List (List Key × V)} {kn : Kn} (h : KnR H m kn) (k : TK H H') : KnR H' m kn := fun i t => by
  rcases h i t with h | ⟨q, ys, p, h1, h2, h3, h4⟩
  · exact .inl h
  · exact .inr ⟨q, ys, p, h1, k _ _ h2, h3.mono k, h4⟩
/-- the class of streams -/
structure StC (K : PySem.W.Frag) (C : Addr) : Prop where
  cls : Cls K C
  n1 : NoAttr K C "known"
  n2 : NoAttr K C "taken"
  n3 : NoAttr K C "begun"
end Fg

/-! methods that may raise; isinstance of an exception, of any class -/
namespace L2
open PySem PySem.Spec PyProof.Rows PySem.W
structure XNot (K : Frag) (C D : Addr) : Prop where
  ca : findIn K (.ref C) "__class__" = some (some (.builtin "object.__class__"))
  gt : specialIn K (.builtin "object.__class__") "__get__" = some (some (.builtin "getset_descriptor.__get__"))
  tk : takesIn K (.builtin "object.__class__") = some true
  ob : mroIn K C (.type "object") = some true
  ty : typeIn K (.ref D) = some (.type "type")
section
variable {prog : Program} {w : World} {A : Around} {E : Value → Shared → Prop} {s : Shared} {K : Frag} {x C D : Addr} {ox od : Obj} {f : Str}
theorem xclass {Q : Option Value → Shared → Prop} (X : K.In s.heap) (I : InstAt s.heap x ox C (some od)) (Y : XFld K C f) (N : XNot K C D) (h : Q (some (.ref C)) { s with toks := s.toks + 1 }) : wpAny (model prog w) A (getAttr? (.ref x) "__class__") Q E s := by
  have hf : findObj K C (some od) "__class__" = some (.bind (.builtin "getset_descriptor.__get__") (.builtin "object.__class__")) := findObj_data (by obtain ⟨cd, hc, _⟩ := any_some Y.hd; rw [hc]; rfl) N.ca N.gt N.tk
  obtain ⟨hp, g, d, t, os⟩ := s
  have L0 := I.type (M := model prog w)
  have L1 := looks_findIn (M := model prog w) X Y.ga
  have L2 := looks_find (M := model prog w) X I hf
  have L3 : Looks (model prog w) hp (hookBefore (.ref C)) none := looks_hook X ((if_pos (show onTheHeap (Value.ref C) = true from rfl)).trans Y.gt)
  have L4 : Looks (model prog w) hp (isInstance (.ref x) (.type "BaseException")) true := L0.andThen (looks_mroIn X Y.mb)
  have F0 := F.excAttr_ValueError
  unfold getAttr? getAttrBy? getAttrBy
  refine wpAny_bind (wpAny_mkText (wpAny_bind (wpAny_attempt (wpAny_holding (wpAny_bind (L0.at (wpAny_bind (L1.at ?_))))))))
  have hne : (onTheHeap (Value.ref C) && Value.builtin "BaseException.__getattribute__" == Value.builtin "object.__getattribute__") = false := by
    rw [show (Value.builtin "BaseException.__getattribute__" == Value.builtin "object.__getattribute__") = false by decide +kernel, Bool.and_false]
  dsimp only
  rw [hne, if_neg Bool.false_ne_true]
  unfold getAttrByItsOwn
  refine wpAny_bind (L3.at (wpAny_bind (wpAny_attempt (wpAny_holding ?_))))
  unfold callGetattribute boundAndCalled
  rw [show (false && onTheHeap (Value.builtin "BaseException.__getattribute__")) = false from rfl, if_neg Bool.false_ne_true, F0.ga.bind]
  refine wpAny_bind (wpAny_pure ?_)
  show wpAny _ _ (call (.builtin "BaseException.__getattribute__") [.ref x, .str "__class__" t]) _ _ _
  refine wpAny_call (codeAny_call_builtin F0.ga.plain F.entry_bexc_ga ?_)
  refine @check_slot (model prog w) _ _ ⟨hp, g, d, t + 1, os⟩ "BaseException.__getattribute__" "BaseException" "__getattribute__" (.ref x) [.str "__class__" t] [] _ (by decide +kernel) (by decide +kernel) L4 (bga_args _ _) ?_
  show wpAny _ _ (Builtin.«object.__getattribute__» _) _ _ _
  unfold Builtin.«object.__getattribute__»
  refine wpAny_bind (wpAny_pure (wpAny_bind (wpAny_pure (wpAny_bind (L0.at (wpAny_bind (L2.at ?_)))))))
  refine wpAny_bind (wpAny_holding (wpAny_call (class_get (s := ⟨hp, g, d, t + 1, os⟩) (ox := ox) (od := some od) X I N.ob (wpAny_pure ?_))))
  show wpAny _ _ (handedOut (.ref C)) _ _ _
  rw [handedOut_of rfl]
  exact wpAny_pure (wpAny_pure h)
theorem xis_false {c : Value} {Q : Value → Shared → Prop} (X : K.In s.heap) (I : InstAt s.heap x ox C (some od)) (Y : XFld K C f) (N : XNot K C D) (hne : (Value.ref C == c) = false) (e : kitCls K (.ref C) c = some false)
    (h : Q (.bool false) { s with toks := s.toks + 1 }) : wpAny (model prog w) A (call (.builtin "isinstance") [.ref x, c]) Q E s := by
  obtain ⟨cdD, hcD, _⟩ := any_some Y.hd
  refine call_isinstance (S := fun _ R s => (K.In s.heap ∧ InstAt s.heap x ox C (some od)) ∧ R (.ok (.ret (.bool false))) { s with toks := s.toks + 1 }) (fun prog w A R s hs => isinstance_outer ?_ (fun z => nomatch z)) ⟨⟨X, I⟩, h⟩
  obtain ⟨⟨X, I⟩, hq⟩ := hs
  have hisD : Looks (model prog w) s.heap (isType (.ref C)) true := by
    unfold clsIn at hcD
    split at hcD
    · rename_i c' d' cd' sl' ho
      intro A' Q' E' s' k q
      unfold isType loadHead
      exact wpAny_bind (wpAny_loadPart (k _ _ (X _ _ ho)) (wpAny_pure q))
    · cases hcD
  obtain ⟨h0, g, d, tt, os⟩ := s
  have L0 := I.type (M := model prog w)
  unfold Builtin.«isinstance.nested»
  refine wpAny_bind (L0.at ?_)
  rw [if_neg (by rw [hne]; decide)]
  obtain ⟨hty, his, hsub⟩ := kit_cls (M := model prog w) X e
  refine wpAny_bind (hty.at ?_)
  rw [if_pos (by decide)]
  k_delta "plainIsInstance"
  refine wpAny_bind (wpAny_bind (his.at ?_))
  simp only [Bool.not_true, Bool.false_eq_true, if_false]
  refine wpAny_bind ((L0.andThen hsub).at ?_)
  simp only [Bool.false_eq_true, if_false]
  refine wpAny_bind (xclass X I Y N ?_)
  refine wpAny_bind (hisD.at ?_)
  simp only [Bool.not_true, Bool.false_eq_true, if_false]
  refine wpAny_bind (wpAny_rule ?_)
  refine hsub.at ?_
  first
    | exact wpAny_pure hq
    | exact wpAny_pure (wpAny_pure hq)
    | exact wpAny_bind (wpAny_pure (wpAny_pure hq))
theorem xis_same {Q : Value → Shared → Prop} (ty : ∀ M, Looks M s.heap (typeOf (.ref x)) (.ref C)) (h : Q (.bool true) s) : wpAny (model prog w) A (call (.builtin "isinstance") [.ref x, .ref C]) Q E s := by
  refine call_isinstance (S := fun _ R s => (∀ M, Looks M s.heap (typeOf (.ref x)) (.ref C)) ∧ R (.ok (.ret (.bool true))) s) (fun prog w A R s hs => isinstance_outer ?_ (fun z => nomatch z)) ⟨ty, h⟩
  obtain ⟨LT, hq⟩ := hs
  obtain ⟨h0, g, d, tt, os⟩ := s
  unfold Builtin.«isinstance.nested»
  refine wpAny_bind ((LT _).at ?_)
  rw [if_pos (beq_self_eq_true _)]
  first
    | exact wpAny_bind (wpAny_rule (wpAny_pure hq))
    | exact wpAny_bind (wpAny_rule hq)
    | ((repeat lk); exact hq)
end
section
variable {X : Cx}
theorem call_xisAK {K : Frag} (hK : X.K = K) : CallR X (.builtin "isinstance") (fun xs H Q => ∃ a oe C D b, xs = [.ref a, .ref D] ∧ H a = some (Known a oe) ∧ oe.cls = .ref C ∧
    ((C = D ∧ b = true) ∨ (C ≠ D ∧ isClsIn K D = true ∧ typeIn K (.ref D) = some (.type "type") ∧ mroIn K C (.ref D) = some true ∧ b = true) ∨
     (C ≠ D ∧ isClsIn K D = true ∧ mroIn K C (.ref D) = some false ∧ b = false ∧ ∃ dx fs f, oe.dict = some dx ∧ (∃ vs, oe.data = .fields vs) ∧ H dx = some (.xd fs) ∧ XFld K C f ∧ XNot K C D)) ∧ Q (.bl b) H) := by
  subst hK
  intro pins s σ H xs us Q I r h
  obtain ⟨a, oe, C, D, b, rfl, hk, hc, h1, q⟩ := h
  rcases h1 with ⟨rfl, rfl⟩ | ⟨h1, h2, h3, h4, rfl⟩ | ⟨h1, h2, h3, rfl, dx, fs, f, hd, ⟨vs, hf⟩, hx, Y, N⟩
  · obtain ⟨u, v, rfl, rx, ry⟩ := Vals.two r
    obtain rfl : u = Value.ref a := rx
    obtain rfl : v = Value.ref C := ry
    have ho : s.heap.get? a = some oe := (I.hok a _ hk).1
    exact xis_same (fun M => hc ▸ (Looks.ld ho).andThen .now) ⟨.bl true, H, I, rfl, q⟩
  · exact call_xisR pins s σ H _ us Q I r ⟨a, oe, C, D, rfl, hk, hc, h1, h2, h3, h4, q⟩
  · obtain ⟨u, v, rfl, rx, ry⟩ := Vals.two r
    obtain rfl : u = Value.ref a := rx
    obtain rfl : v = Value.ref D := ry
    have ho : s.heap.get? a = some oe := (I.hok a _ hk).1
    obtain ⟨mA, n, hr⟩ := (show ObjOk X.prog X.w H s.heap dx (.xd fs) from I.hok dx _ hx)
    obtain ⟨od, hod, hlk⟩ := lookIn_ns n
    have J : InstAt s.heap a oe C (some od) := ⟨ho, hc, by unfold notCls; rw [hf], by rw [hd]; exact hod⟩
    refine xis_false I.kIn J Y N (by simpa using h1) ?_ ⟨.bl false, H, I.tok _, rfl, q⟩
    unfold kitCls
    dsimp only
    unfold isClsIn at h2
    rw [h2, N.ty, if_pos (by decide)]
    exact h3
end
end L2
namespace L2
open PySem PySem.Spec PyProof.Rows
end L2
namespace L2
open PySem PySem.Spec PyProof.Rows
section
variable {X : Cx} {rest : List ExceptHandler} {pos : Pos}
theorem ph_asD {t : Expr} {n : Str} {b₀ : Stmt} {sb : List Stmt} {tt : TE} {tu : Addr → TS} {i : Nat} (ht : ∀ e, PE (X.hd e) t tt) (hN : X.N.Nodup) (hi : X.N[i]? = some n) (hk : X.env.scope.names.lookup n = some .local) (hs : ∀ e, PSs (X.hd e) (b₀ :: sb) (tu e)) : PH X (.ExceptHandler (some t) (some n) (b₀ :: sb) pos :: rest)
    (fun D σ H e oe => tt σ H fun v H1 => ∃ Ds C f, Spec X.K H1 v Ds ∧ oe.cls = .ref C ∧ (∀ D ∈ Ds, PySem.W.mroIn X.K C (.ref D) = some (f D)) ∧ Ds.any f = true ∧ H1 e = some (Known e oe) ∧ tu e (unb D i) (σ.set i (some (.ref e))) H1) := by
  intro pins s σ H D e oe T oT ts vs I fT hd h1 hdT h3 he h
  refine wpAny_handleBy_cons (codeAny_handlers_test (wpAny_mono ((ht e) ((T, oT) :: pins) s σ H _ (I.hd e) h) (fun u s1 q => ?_) fun _ _ z => z.elim)) (by intro z; cases z)
  obtain ⟨v, H1, I1, r, Ds, C, f, hsp, hc, hb, hany, hkn, q⟩ := q
  have I1' := I1.unhd I.ok
  have hoe := (I1'.hok e _ hkn).1
  refine em_ok (f := f) I1' hsp r hoe hc hb ?_
  rw [hany]
  refine codeAny_handlers_suite_as ?_
  have hTo := (I1'.pin (T, oT) (List.mem_append_right _ (List.mem_cons_self ..))).1
  refine flight_same hoe hd h1 hTo hdT h3 ?_
  refine store_ok I1'.drop1 hN hi (.inl hk) (show RelV (.ref e) (.ref e) from rfl) (fun s2 I2 => ?_) (.inr hk)
  refine wpAny_mono ((hs e) pins s2 _ H1 (unb D i) (I2.hd e) q) (fun fl s3 q3 => ?_) fun _ _ z => z.elim
  show wpAny _ X.A (bindName X.env n .none >>= fun _ => unbindBehindTheSuite X.env n pos) _ _ s3
  cases fl with
  | next =>
    obtain ⟨σ', H', I3, q3⟩ := q3
    exact unbind_ok (I3.unhd I.ok) hN hi hk fun s' I' => ⟨_, _, I', q3⟩
  | brk =>
    obtain ⟨σ', H', I3, q3⟩ := q3
    exact unbind_ok (I3.unhd I.ok) hN hi hk fun s' I' => ⟨_, _, I', q3⟩
  | cont =>
    obtain ⟨σ', H', I3, q3⟩ := q3
    exact unbind_ok (I3.unhd I.ok) hN hi hk fun s' I' => ⟨_, _, I', q3⟩
  | ret u =>
    obtain ⟨v3, σ', H', I3, r3, q3⟩ := q3
    exact unbind_ok (I3.unhd I.ok) hN hi hk fun s' I' => ⟨v3, _, _, I', r3, q3⟩
end
end L2

/-! for k in d: a dict by ints or texts, walked; it is held fast while it is walked -/
namespace L2
open PySem PySem.Spec PyProof.Rows PySem.W
end L2

/-! C() where the class has no __init__ of its own -/
namespace L2
open PySem PySem.Spec PyProof.Rows PySem.W
end L2

/-! a def with defaults -/
namespace L2
open PySem PySem.Spec PyProof.Rows
end L2

/-! what comes of a grove by a changer, in any sense; the changed grove, its tags and depth -/
namespace Fg
open PySem L2 FgM
end Fg
namespace Fg
open PySem L2 FgM
end Fg

/-! sorted(d, reverse=True) at any length; defs with defaults that may raise -/
namespace Srd
open PySem PyProof.Rows Srt PySem.W
end Srd
namespace L2
open PySem PySem.Spec PyProof.Rows PySem.W
end L2
namespace L2
open PySem PySem.Spec PyProof.Rows
end L2

/-! a text put into a text by its repr: f'{x!r}' -/
namespace L2
open PySem PySem.Spec PyProof.Rows
end L2

/-! a dict by tuples, walked; sorted of a list of pairs of a number and a text; range with any step -/
namespace L2
open PySem PySem.Spec PyProof.Rows PySem.W
section
variable {X : Cx} {pins : List (Addr × Obj)} {σ : St} {H : Hp} {s : Shared} {d : Addr} {ob : Obj} {kvs : List (List Key × V)}
theorem Inv.freezeT (I : Inv X pins σ H s) (hd : H d = some (.dT kvs)) (ho : s.heap.get? d = some ob) : Inv X pins σ (upd H d (.frz ob (.dT kvs))) s := by
  have q := I.hok d _ hd
  exact I.write (x := d) (e := d) (h' := s.heap) (t' := s.toks) (by rw [hd]; trivial) (.inl rfl) (fun b u _ q => q) ⟨ob, ho⟩ ⟨ho, q.stay (fun c v _ q => q) (fun c q => by rw [upd_ne (fun z => by rw [z, hd] at q; cases q)]; exact q) fun c xs q => by rw [upd_ne (fun z => by rw [z, hd] at q; cases q)]; exact q⟩
end
def ItdT (d : Addr) (ob : Obj) (kvs : List (List Key × V)) : It := ⟨fun i H => H d = some (.frz ob (.dT kvs)) ∧ i < kvs.length, fun i H x H' => H' = H ∧ ∃ k v b, kvs[i]? = some (k, v) ∧ x = .ref b ∧ H b = some (.tup (k.map kV)), fun i H => H d = some (.frz ob (.dT kvs)) ∧ kvs.length ≤ i⟩
theorem kt_at {H : Hp} {kvs : List (List Key × V)} {xs : List (List Key × Addr × Value)} (h : Paired (fun (p : List Key × V) (q : List Key × Addr × Value) => p.1 = q.1 ∧ H q.2.1 = some (.tup (p.1.map kV)) ∧ RelV p.2 q.2.2) kvs xs) : ∀ (i : Nat) (x : List Key × Addr × Value), xs[i]? = some x → ∃ k v, kvs[i]? = some (k, v) ∧ H x.2.1 = some (.tup (k.map kV)) := by
  induction h with
  | nil => intro i x e; cases i <;> cases e
  | @cons p q l m r t ih =>
    intro i x e
    cases i with
    | zero =>
      injection e with e
      subst e
      exact ⟨p.1, p.2, rfl, r.2.1⟩
    | succ i => exact ih i x e
theorem turn_dictT {P : Program} {w : World} {K : PySem.W.Frag} {tg : Expr} (d : Addr) (ob : Obj) (kvs : List (List Key × V)) (es : Array DictEntry) (ep : Nat) (hx : ob.ExactDict) (hdat : ob.data = .dict es ep) (hl : es.size = kvs.length) (it : Addr) :
    Turn P w K tg (ItdT d ob kvs) [it] it (fun i h => h.IsKeyIter it d i es.size ep) where
  mem := by simp
  obj := fun i h st b hb => by
    have e : b = it := by simpa using hb
    subst e
    obtain ⟨o, e, c, dd⟩ := st
    exact ⟨o, e, fun v z => by rw [dd] at z; cases z⟩
  keep := fun i h h' st k => st.at fun o e => k it (by simp) o e
  item := by
    intro X hP hw hK hc i pins s σ H E I hf st hg
    subst hP hw hK
    obtain ⟨hH, hi⟩ := hg
    obtain ⟨hob, z, lo, xs, rel, o2, es2, ep2, ho2, hx2, hdat2, hes2, hnd2⟩ := (show ObjOk X.prog X.w H s.heap d (.frz ob (.dT kvs)) from I.hok d _ hH)
    rw [hob] at ho2
    cases ho2
    rw [hdat] at hdat2
    cases hdat2
    have hi' : i < es.size := by (first | lia | omega)
    obtain ⟨f0, f1, f2, f3, f4, f5⟩ := hf it (by simp)
    refine raw_item st (⟨ob, hob, hx, hdat⟩ : RawD s.heap d es ep) hi' fun h' st' sb => ?_
    have I1 : Inv X pins σ H { s with heap := h' } := I.turned (t' := s.toks) (fun b o hb e => (sb.2 b hb).trans e) f0 f1 f3 f4 f5
    have hxi : i < xs.length := by
      have := rel.length
      (first | lia | omega)
    have hk : es[i].key = Value.ref xs[i].2.1 := by
      have e1 : es.toList[i]? = some es[i] := by simp
      rw [hes2, List.getElem?_map, List.getElem?_eq_getElem hxi] at e1
      injection e1 with e1
      rw [← e1]
      rfl
    obtain ⟨k, v, hkv, hb⟩ := kt_at rel i xs[i] (List.getElem?_eq_getElem hxi)
    obtain ⟨o, e, c, dd⟩ := id st'
    exact ⟨_, rfl, go_of (s := { s with heap := h' }) e c dd (by decide) ⟨.ref xs[i].2.1, H, I1, hk, ⟨rfl, k, v, _, hkv, rfl, hb⟩, st', fun b hb => (hf b hb).1⟩⟩
  done := by
    intro X hP hw hK hc i pins s σ H E I hf st hg
    subst hP hw hK
    obtain ⟨hH, hi⟩ := hg
    obtain ⟨hob, _⟩ := (show ObjOk X.prog X.w H s.heap d (.frz ob (.dT kvs)) from I.hok d _ hH)
    obtain ⟨f0, f1, f2, f3, f4, f5⟩ := hf it (by simp)
    exact raw_end (I.ok.hd hc) st (⟨ob, hob, hx, hdat⟩ : RawD s.heap d es ep) (by (first | lia | omega)) fun h' eb => ⟨rfl, I.turned (t' := s.toks) (fun b o hb e => eb b o hb e) f0 f1 f3 f4 f5⟩
  self := fun _ _ _ _ _ st h => wpAny_pyIter_keyiter st h
section
variable {X : Cx} {tg : Expr}
def iDictT (tl : TE) : TI := fun σ H R => tl σ H fun x H1 => ∃ d kvs, x = .ref d ∧ H1 d = some (.dT kvs) ∧ ∀ ob, R (ItdT d ob kvs) (upd H1 d (.frz ob (.dT kvs)))
theorem pi_dictT {l : Expr} {tl : TE} (hl : PE X l tl) : PI X tg l (iDictT tl) := by
  intro pins s σ H R I h
  refine thn (hl pins s σ H _ I h) fun v s1 ⟨x, H1, I1, r1, q1⟩ => ?_
  obtain ⟨d, kvs, e, hq, q⟩ := q1
  subst e
  cases r1
  obtain ⟨z, lo, xs, rel, ob, es, ep, ho, hx, hdat, hes, hnd⟩ := (show ObjOk X.prog X.w H1 s1.heap d (.dT kvs) from I1.hok d _ hq)
  have I2 := I1.freezeT hq ho
  have hel : es.size = kvs.length := by rw [← Array.length_toList, hes, List.length_map, rel.length]
  refine raw_iter lo (⟨ob, ho, hx, hdat⟩ : RawD s1.heap d es ep) ?_
  refine ⟨s1.heap.objs.size, [s1.heap.objs.size], _, _, _, rfl, I2.kept (t' := s1.toks) fun b o e => Heap.get?_push_of_some _ e, turn_dictT d ob kvs es ep hx hdat hel _, ⟨_, Heap.get?_push_size _ rfl, rfl, rfl⟩, fun b hb => ?_, q ob⟩
  have e : b = s1.heap.objs.size := by simpa using hb
  subst e
  exact I2.fpOk (Nat.le_refl _) (I2.hok.fresh (Nat.le_refl _))
end
/-- a comprehension over such a dict -/
theorem comp_dictT {d p : Addr} {ob : Obj} {kvs : List (List Key × V)} {g : TG} {te : TE} {R : Hp → Prop} {σ0 : St} {H0 : Hp} (Pv : Nat → List V → St → Hp → Prop) (h0 : Pv 0 [] σ0 H0)
    (hl : ∀ i ys σ H, i ≤ kvs.length → Pv i ys σ H → H d = some (.frz ob (.dT kvs)) ∧ H p = some (.lst ys))
    (hs : ∀ i ys k v b σ H, i < kvs.length → kvs[i]? = some (k, v) → H b = some (.tup (k.map kV)) → Pv i ys σ H → g (.ref b) σ H fun σ3 H4 => te σ3 H4 fun v H5 => H5 p = some (.lst ys) ∧ ys.length < sizeLine ∧ ∃ m', m' < kvs.length - i ∧ CW kvs.length Pv (i + 1) m' (ys ++ [v]) σ3 (upd H5 p (.lst (ys ++ [v]))))
    (hd : ∀ ys σ H, Pv kvs.length ys σ H → R H) :
    ∃ W : Nat → Nat → List V → St → Hp → Prop, (∃ m, W 0 m [] σ0 H0) ∧ ∀ i m ys σc H2, W i m ys σc H2 → H2 p = some (.lst ys) ∧ (((ItdT d ob kvs).stop i H2 ∧ R H2) ∨ ((ItdT d ob kvs).go i H2 ∧ ∀ x H3, (ItdT d ob kvs).yld i H2 x H3 → g x σc H3 fun σ3 H4 => te σ3 H4 fun v H5 =>
      H5 p = some (.lst ys) ∧ ys.length < sizeLine ∧ ∃ m', m' < m ∧ W (i + 1) m' (ys ++ [v]) σ3 (upd H5 p (.lst (ys ++ [v]))))) := by
  refine ⟨CW kvs.length Pv, ⟨_, rfl, Nat.zero_le _, h0⟩, ?_⟩
  rintro i m ys σ H ⟨rfl, hi, hp⟩
  obtain ⟨h1, h2⟩ := hl i ys σ H hi hp
  refine ⟨h2, ?_⟩
  by_cases hlt : i < kvs.length
  · refine .inr ⟨⟨h1, hlt⟩, ?_⟩
    rintro x H3 ⟨rfl, k, v, b, hk, rfl, hb⟩
    exact hs i ys k v b σ _ hlt hk hb hp
  · refine .inl ⟨⟨h1, by (first | lia | omega)⟩, hd ys σ H ?_⟩
    have e : i = kvs.length := by (first | lia | omega)
    rw [← e]
    exact hp
theorem DGet.tf {H : Hp} {a b : Addr} {ob : Obj} {kvs : List (List Key × V)} {k : List Key} (e : H a = some (.frz ob (.dT kvs))) (eb : H b = some (.tup (k.map kV))) : DGet H a (.ref b) (valV kvs k) := .inr ⟨kvs, k, b, .inr ⟨ob, e⟩, rfl, eb, rfl⟩
end L2
/-! a statement with a deep display, shut: pss_one would unfold it all -/
namespace L2
open PySem PySem.Spec PyProof.Rows
end L2

/-! an own class whose __init__ may raise -/
namespace L2
open PySem PySem.Spec PyProof.Rows PySem.W
structure HasCX (P : Program) (w : World) (K : PySem.W.Frag) (mg : Str → Option Value) (base : Heap) (C : Addr) (x : Str) (ps : List Str) (j : Nat) (sp : Sp) : Prop where
  ex : ∃ f fd, FnOk P w K mg base (CXE P w) j f fd ps sp ∧ Binds K fd ps [] ∧ Mk K C f ∧ mg x = some (.ref C)
def tMakeS (C : Addr) (sp : Sp) (E : XKS) (t : TA) : TE := fun σ H Q => t σ H fun vs H1 => ∀ x dx, H1 x = none → H1 dx = none → dx ≠ x →
  sp (.ref x :: vs) (upd (upd H1 dx (.own x)) x (.ins C dx [])) (fun v H2 => v = .non ∧ Q (.ref x) H2) (E σ)
section
variable {X : Cx} {C f : Addr} {fd : FuncData} {x : Str} {ps : List Str} {j k : Nat} {sp : Sp} {e : Expr} {es : List Expr} {t : TA} {p pos : Pos} {E : XKS}
theorem run_makeX {pins : List (Addr × Obj)} {σ : St} {H : Hp} {s : Shared} {Q : VK} {us : List Value} {vs : List V} (M : Mk X.K C f) (F : FnOk X.prog X.w X.K X.mg X.base (CXE X.prog X.w) k f fd ps sp) (hr : Room (k + 1) X.A) (hb : Binds X.K fd ps [])
    (hT : Takes X E) (I : Inv X pins σ H s) (r : Vals vs us)
    (h : ∀ x dx, H x = none → H dx = none → dx ≠ x → sp (.ref x :: vs) (upd (upd H dx (.own x)) x (.ins C dx [])) (fun v H2 => v = .non ∧ Q (.ref x) H2) (E σ)) :
    wpAny (model X.prog X.w) X.A (call (.ref C) us) (EP X pins σ Q) X.xe s := by
  have hq := h (s.heap.objs.size + 1) s.heap.objs.size (I.hok.fresh (Nat.le_succ _)) (I.hok.fresh (Nat.le_refl _)) (Nat.ne_of_lt (Nat.lt_succ_self _))
  have I2 := Inv.made (C := C) I
  have r2 : Vals (V.ref (s.heap.objs.size + 1) :: vs) (Value.ref (s.heap.objs.size + 1) :: us) := .cons rfl r
  have hl : (Value.ref (s.heap.objs.size + 1) :: us).length = ps.length := by
    have e := r2.length
    rw [F.len _ _ _ _ hq] at e
    exact e.symm
  have hbb := hb _ (Value.ref (s.heap.objs.size + 1) :: us) I2.kIn (by rw [List.append_nil]; exact hl)
  rw [List.append_nil] at hbb
  refine wpAny_call (make_map (f := f) I.kIn M.makes M.init (beq_iff_eq.mp M.fn) (codeAny_mono (F.run _ X.stack _ _ ⟨Value.ref (s.heap.objs.size + 1) :: us, []⟩ (Value.ref (s.heap.objs.size + 1) :: us) _ _ (E σ) (hr.make C us [])
    (I2.env0.make C us []) hbb r2 hq) fun r s' hq' => ?_))
  cases r with
  | error e => exact takes_pass hT I2 hq'
  | ok fl =>
    cases fl with
    | ret u =>
      obtain ⟨v, H', I3, rv, ev, q3⟩ := I2.after hq'
      subst ev
      exact ⟨rv, ⟨V.ref (s.heap.objs.size + 1), H', I3, rfl, q3⟩⟩
    | next => exact False.elim hq'
    | brk => exact False.elim hq'
    | cont => exact False.elim hq'
theorem pe_hascX (G : HasCX X.prog X.w X.K X.mg X.base C x ps j sp) (hT : Takes X E) (hr : Room k X.A) (hg : Gl X x) (ha : PA X (e :: es) t) (hk : j + 1 ≤ k := by decide) (hdb : (x == ("__debug__" : Str)) = false := by decide)
    (he : starEach (e :: es) X.env = (false, eval e X.env) :: starEach es X.env := by rfl) (hpl : (backTo pos (starEach es X.env)).any (·.1) = false := by rfl) : PE X (.Call (.Name x p) (e :: es) [] pos) (tMakeS C sp E t) := by
  obtain ⟨f, fd, F, b, M, hm⟩ := G.ex
  intro pins s σ H Q I h
  refine wpAny_Call_Name_kw (ld_glob I hg hm ?_ hdb)
  refine PySem.W.callWith_K (h₀ := X.base) I.ok.mod.kin M.kp (thn (ha pos pins s σ H _ I h) fun us s1 ⟨vs, H1, I1, r, q⟩ => ⟨I1.kIn, ?_⟩) he hpl
  exact run_makeX M F (hr.mono hk) b hT I1 r q
end
end L2
/-! a dict by tuples that was walked may be changed again; a dict of one pair -/
namespace L2
open PySem PySem.Spec PyProof.Rows PySem.W
section
variable {X : Cx} {pins : List (Addr × Obj)} {σ : St} {H : Hp} {s : Shared} {d : Addr} {ob : Obj} {kvs : List (List Key × V)}
theorem Inv.thawT (I : Inv X pins σ H s) (hd : H d = some (.frz ob (.dT kvs))) (nf : ∀ o u, X.H₀ d ≠ some (.frz o u)) : Inv X pins σ (upd H d (.dT kvs)) s := by
  obtain ⟨hob, q⟩ := (show ObjOk X.prog X.w H s.heap d (.frz ob (.dT kvs)) from I.hok d _ hd)
  have nn : ∀ b, H b = none → b ≠ d := fun b e z => by rw [z, hd] at e; cases e
  refine ⟨I.ok, I.os, I.bare, ⟨I.base.keep, I.base.slot, fun b o e n hx => ?_, I.base.there, fun b xs e => ?_, fun b o u e => ?_, fun b ps e => ?_⟩, I.loc, I.cell, ?_, fun x c e => ?_, fun p hp => ?_, fun b u e => ?_, I.len⟩
  · have := I.base.free b o e n hx
    rw [upd_ne (nn b this)]
    exact this
  · have := I.base.tups b xs e
    rw [upd_ne (fun z => by rw [z, hd] at this; cases this)]
    exact this
  · have := I.base.frzs b o u e
    rw [upd_ne (fun z => nf o u (by rw [← z]; exact e))]
    exact this
  · obtain ⟨m, this⟩ := I.base.tbls b ps e
    exact ⟨m, by rw [upd_ne (fun z => by rw [z, hd] at this; cases this)]; exact this⟩
  · rw [upd_ne (nn _ I.free)]
    exact I.free
  · rw [upd_ne (nn _ (I.freeC x c e))]
    exact I.freeC x c e
  · obtain ⟨e, n, r⟩ := I.pin p hp
    exact ⟨e, by rw [upd_ne (nn _ n)]; exact n, r⟩
  · by_cases hb : b = d
    · subst hb
      rw [upd_same] at e
      cases e
      exact q.stay (fun c v _ q => q) (fun c q => by rw [upd_ne (fun z => by rw [z, hd] at q; cases q)]; exact q) fun c xs q => by rw [upd_ne (fun z => by rw [z, hd] at q; cases q)]; exact q
    · rw [upd_ne hb] at e
      exact (I.hok b u e).stay (fun c v _ q => q) (fun c q => by rw [upd_ne (fun z => by rw [z, hd] at q; cases q)]; exact q) fun c xs q => by rw [upd_ne (fun z => by rw [z, hd] at q; cases q)]; exact q
end
section
variable {X : Cx}
def tThawT (X : Cx) (t : TS) : TS := fun D σ H => t { D with nx := fun σ' H' => ∃ d ob kvs, H' d = some (.frz ob (.dT kvs)) ∧ (∀ o u, X.H₀ d ≠ some (.frz o u)) ∧ D.nx σ' (upd H' d (.dT kvs)) } σ H
theorem ps_thawT {st : Stmt} {t : TS} (h : PS X st t) : PS X st (tThawT X t) := by
  intro pins s σ H D I hq
  refine thn (h pins s σ H _ I hq) fun f s1 z => ?_
  cases f with
  | next =>
    obtain ⟨σ', H', I', d, ob, kvs, e, nf, q⟩ := z
    exact ⟨σ', _, I'.thawT e nf, q⟩
  | brk => exact z
  | cont => exact z
  | ret u => exact z
def tDisp1T (tk tv : TE) : TE := fun σ H Q => ∀ p, H p = none → tk σ (upd H p (.dT [])) fun x H1 => tv σ H1 fun y H2 => ∃ b ks, x = .ref b ∧ H2 p = some (.dT []) ∧ H2 b = some (.tup (ks.map kV)) ∧ Q (.ref p) (upd H2 p (.dT [(ks, y)]))
theorem pe_disp1T {k v : Expr} {tk tv : TE} {pos : Pos} (hu : X.A.units + 1 < cLine) (hk : PE X k tk) (hv : PE X v tv) : PE X (.Dict [some k] [v] pos) (tDisp1T tk tv) := by
  intro pins s σ H Q I q
  have hn := I.hok.fresh (Nat.le_refl s.heap.objs.size)
  have I1 := I.laid (a := s.heap.objs.size) (o := .dT []) (h' := s.heap.push { cls := .type "dict", data := .dict #[] }) (t' := s.toks) (fun _ _ q => Heap.get?_push_of_some _ q) (Nat.le_refl _) (dt_empty s.heap I.big)
  refine wpAny_Dict_any rfl rfl (by simp) (by show 1 ≤ 15; decide) (pairTrees_cons_walk (thn (hk pins _ σ _ _ I1 (q _ hn)) fun kv s1 ⟨x, H1, I2, rx, q1⟩ => thn (hv pins s1 σ H1 _ I2 q1) fun vv s2 ⟨y, H2, I3, ry, b, ks, ex, e, eb, q2⟩ => pairTrees_nil_walk ?_))
  subst ex
  obtain rfl : kv = Value.ref b := rx
  obtain ⟨z, hd, xs, rel, dd⟩ := dt_of I3.hok e
  cases rel
  show wpAny _ _ (storeAll s.heap.objs.size [(Value.ref b, vv)]) _ _ s2
  unfold storeAll
  simp only [List.forIn_cons, List.forIn_nil]
  refine wpAny_bind (wpAny_bind (wpAny_dictSet_heap (hsz := Nat.zero_le _) (knd := tupleKind (mixKind X.prog X.w)) (show X.A.units < cLine by (first | lia | omega)) (key_of I3.hok eb) dd fun h' dd' hs => wpAny_pure (wpAny_pure ?_)))
  obtain ⟨o, es, ep, hq, h2, h3, h4, _, h5⟩ := dd'
  refine ⟨.ref s.heap.objs.size, upd H2 s.heap.objs.size (.dT [(ks, y)]), d_write (ob := .dT [(ks, y)]) I3 (by rw [e]; exact True.intro) hs ⟨o, hq⟩ (show ObjOk X.prog X.w _ h' s.heap.objs.size (.dT [(ks, y)]) from ⟨(by show 1 ≤ sizeLine; decide), hd, _, .cons ⟨rfl, ?_, ry⟩ .nil, o, es, ep, hq, h2, h3, h4, h5⟩), rfl, q2⟩
  show (upd H2 s.heap.objs.size (.dT [(ks, y)])) b = some (.tup (ks.map kV))
  rw [upd_ne (ne_of eb e (fun z => nomatch z))]
  exact eb
end
end L2
/-! isinstance of an exception without fields, of any class -/
namespace L2
open PySem PySem.Spec PyProof.Rows PySem.W
section
variable {prog : Program} {w : World} {A : Around} {E : Value → Shared → Prop} {s : Shared} {K : Frag} {x C D : Addr} {ox : Obj} {f : Str}
theorem findObj_dataN {a g : Value} {name : Str} (hc : (clsIn K C).isSome = true) (ha : findIn K (.ref C) name = some (some a)) (hg : specialIn K a "__get__" = some (some g)) (ht : takesIn K a = some true) : findObj K C none name = some (.bind g a) := by
  obtain ⟨cd, hc⟩ := Option.isSome_iff_exists.mp hc
  unfold findObj
  rw [hc, Option.bind_some, ha, Option.bind_some]
  simp [hg, ht]
theorem xclassN {Q : Option Value → Shared → Prop} (X : K.In s.heap) (I : InstAt s.heap x ox C none) (Y : XFld K C f) (N : XNot K C D) (h : Q (some (.ref C)) { s with toks := s.toks + 1 }) : wpAny (model prog w) A (getAttr? (.ref x) "__class__") Q E s := by
  have hf : findObj K C none "__class__" = some (.bind (.builtin "getset_descriptor.__get__") (.builtin "object.__class__")) := findObj_dataN (by obtain ⟨cd, hc, _⟩ := any_some Y.hd; rw [hc]; rfl) N.ca N.gt N.tk
  obtain ⟨hp, g, d, t, os⟩ := s
  have L0 := I.type (M := model prog w)
  have L1 := looks_findIn (M := model prog w) X Y.ga
  have L2 := looks_find (M := model prog w) X I hf
  have L3 : Looks (model prog w) hp (hookBefore (.ref C)) none := looks_hook X ((if_pos (show onTheHeap (Value.ref C) = true from rfl)).trans Y.gt)
  have L4 : Looks (model prog w) hp (isInstance (.ref x) (.type "BaseException")) true := L0.andThen (looks_mroIn X Y.mb)
  have F0 := F.excAttr_ValueError
  unfold getAttr? getAttrBy? getAttrBy
  refine wpAny_bind (wpAny_mkText (wpAny_bind (wpAny_attempt (wpAny_holding (wpAny_bind (L0.at (wpAny_bind (L1.at ?_))))))))
  have hne : (onTheHeap (Value.ref C) && Value.builtin "BaseException.__getattribute__" == Value.builtin "object.__getattribute__") = false := by
    rw [show (Value.builtin "BaseException.__getattribute__" == Value.builtin "object.__getattribute__") = false by decide +kernel, Bool.and_false]
  dsimp only
  rw [hne, if_neg Bool.false_ne_true]
  unfold getAttrByItsOwn
  refine wpAny_bind (L3.at (wpAny_bind (wpAny_attempt (wpAny_holding ?_))))
  unfold callGetattribute boundAndCalled
  rw [show (false && onTheHeap (Value.builtin "BaseException.__getattribute__")) = false from rfl, if_neg Bool.false_ne_true, F0.ga.bind]
  refine wpAny_bind (wpAny_pure ?_)
  show wpAny _ _ (call (.builtin "BaseException.__getattribute__") [.ref x, .str "__class__" t]) _ _ _
  refine wpAny_call (codeAny_call_builtin F0.ga.plain F.entry_bexc_ga ?_)
  refine @check_slot (model prog w) _ _ ⟨hp, g, d, t + 1, os⟩ "BaseException.__getattribute__" "BaseException" "__getattribute__" (.ref x) [.str "__class__" t] [] _ (by decide +kernel) (by decide +kernel) L4 (bga_args _ _) ?_
  show wpAny _ _ (Builtin.«object.__getattribute__» _) _ _ _
  unfold Builtin.«object.__getattribute__»
  refine wpAny_bind (wpAny_pure (wpAny_bind (wpAny_pure (wpAny_bind (L0.at (wpAny_bind (L2.at ?_)))))))
  refine wpAny_bind (wpAny_holding (wpAny_call (class_get (s := ⟨hp, g, d, t + 1, os⟩) (ox := ox) (od := none) X I N.ob (wpAny_pure ?_))))
  show wpAny _ _ (handedOut (.ref C)) _ _ _
  rw [handedOut_of rfl]
  exact wpAny_pure (wpAny_pure h)
theorem xis_falseN {c : Value} {Q : Value → Shared → Prop} (X : K.In s.heap) (I : InstAt s.heap x ox C none) (Y : XFld K C f) (N : XNot K C D) (hne : (Value.ref C == c) = false) (e : kitCls K (.ref C) c = some false)
    (h : Q (.bool false) { s with toks := s.toks + 1 }) : wpAny (model prog w) A (call (.builtin "isinstance") [.ref x, c]) Q E s := by
  obtain ⟨cdD, hcD, _⟩ := any_some Y.hd
  refine call_isinstance (S := fun _ R s => (K.In s.heap ∧ InstAt s.heap x ox C none) ∧ R (.ok (.ret (.bool false))) { s with toks := s.toks + 1 }) (fun prog w A R s hs => isinstance_outer ?_ (fun z => nomatch z)) ⟨⟨X, I⟩, h⟩
  obtain ⟨⟨X, I⟩, hq⟩ := hs
  have hisD : Looks (model prog w) s.heap (isType (.ref C)) true := by
    unfold clsIn at hcD
    split at hcD
    · rename_i c' d' cd' sl' ho
      intro A' Q' E' s' k q
      unfold isType loadHead
      exact wpAny_bind (wpAny_loadPart (k _ _ (X _ _ ho)) (wpAny_pure q))
    · cases hcD
  obtain ⟨h0, g, d, tt, os⟩ := s
  have L0 := I.type (M := model prog w)
  unfold Builtin.«isinstance.nested»
  refine wpAny_bind (L0.at ?_)
  rw [if_neg (by rw [hne]; decide)]
  obtain ⟨hty, his, hsub⟩ := kit_cls (M := model prog w) X e
  refine wpAny_bind (hty.at ?_)
  rw [if_pos (by decide)]
  k_delta "plainIsInstance"
  refine wpAny_bind (wpAny_bind (his.at ?_))
  simp only [Bool.not_true, Bool.false_eq_true, if_false]
  refine wpAny_bind ((L0.andThen hsub).at ?_)
  simp only [Bool.false_eq_true, if_false]
  refine wpAny_bind (xclassN X I Y N ?_)
  refine wpAny_bind (hisD.at ?_)
  simp only [Bool.not_true, Bool.false_eq_true, if_false]
  refine wpAny_bind (wpAny_rule ?_)
  refine hsub.at ?_
  first
    | exact wpAny_pure hq
    | exact wpAny_pure (wpAny_pure hq)
    | exact wpAny_bind (wpAny_pure (wpAny_pure hq))
end
section
variable {X : Cx}
theorem call_xisAN {K : Frag} (hK : X.K = K) : CallR X (.builtin "isinstance") (fun xs H Q => ∃ a oe C D b, xs = [.ref a, .ref D] ∧ H a = some (Known a oe) ∧ oe.cls = .ref C ∧
    ((C = D ∧ b = true) ∨ (C ≠ D ∧ isClsIn K D = true ∧ typeIn K (.ref D) = some (.type "type") ∧ mroIn K C (.ref D) = some true ∧ b = true) ∨
     (C ≠ D ∧ isClsIn K D = true ∧ mroIn K C (.ref D) = some false ∧ b = false ∧ ∃ f, oe.dict = none ∧ (∃ vs, oe.data = .fields vs) ∧ XFld K C f ∧ XNot K C D)) ∧ Q (.bl b) H) := by
  subst hK
  intro pins s σ H xs us Q I r h
  obtain ⟨a, oe, C, D, b, rfl, hk, hc, h1, q⟩ := h
  rcases h1 with ⟨rfl, rfl⟩ | ⟨h1, h2, h3, h4, rfl⟩ | ⟨h1, h2, h3, rfl, f, hd, ⟨vs, hf⟩, Y, N⟩
  · exact call_xisAK rfl pins s σ H _ us Q I r ⟨a, oe, C, C, true, rfl, hk, hc, .inl ⟨rfl, rfl⟩, q⟩
  · exact call_xisR pins s σ H _ us Q I r ⟨a, oe, C, D, rfl, hk, hc, h1, h2, h3, h4, q⟩
  · obtain ⟨u, v, rfl, rx, ry⟩ := Vals.two r
    obtain rfl : u = Value.ref a := rx
    obtain rfl : v = Value.ref D := ry
    have ho : s.heap.get? a = some oe := (I.hok a _ hk).1
    have J : InstAt s.heap a oe C none := ⟨ho, hc, by unfold notCls; rw [hf], by rw [hd]; trivial⟩
    refine xis_falseN I.kIn J Y N (by simpa using h1) ?_ ⟨.bl false, H, I.tok _, rfl, q⟩
    unfold kitCls
    dsimp only
    unfold isClsIn at h2
    rw [h2, N.ty, if_pos (by decide)]
    exact h3
end
end L2

namespace K68
open PySem L2 FgM Fg
def top (i : Nat) : Stmt := PySem.Challenge.pw_formgrove_k68_straight_changers.main.body.getD i (.Pass ⟨0, 0, 0, 0⟩)
abbrev s_all_parts : Stmt := top 8
abbrev s_parts_by_rule : Stmt := top 9
abbrev s_straight : Stmt := top 11
abbrev s_kids_in : Stmt := top 12
abbrev s_Stream___init__ : Stmt := inClass (top 13) 0
abbrev s_live_kinds : Stmt := top 15
abbrev s_Reader___init__ : Stmt := inClass (top 17) 0
abbrev s_Pipe___init__ : Stmt := inClass (top 19) 0
abbrev s_l_cell : Stmt := top 21
abbrev s_l_tags : Stmt := top 22
abbrev s_l_parts : Stmt := top 23
abbrev s_l_rules : Stmt := top 24
abbrev s_l_changer : Stmt := top 25
abbrev s_l_refused : Stmt := top 26
abbrev s_l_by_base : Stmt := top 27
abbrev s_l_pipe_refused : Stmt := top 28
abbrev s_l_good : Stmt := top 29
abbrev s_law : Stmt := top 30
theorem sc_all_parts : FnScope ["parts", "found", "part"] ["parts"] (defScope s_all_parts) := ⟨rfl, rfl, rfl, by decide +kernel, rfl, by decide +kernel, by decide +kernel⟩
theorem sc_parts_by_rule : FnScope ["changer"] ["changer"] (defScope s_parts_by_rule) := ⟨rfl, rfl, rfl, by decide +kernel, rfl, by decide +kernel, by decide +kernel⟩
theorem sc_straight : FnScope ["changer"] ["changer"] (defScope s_straight) := ⟨rfl, rfl, rfl, by decide +kernel, rfl, by decide +kernel, by decide +kernel⟩
theorem sc_kids_in : FnScope ["parts"] ["parts"] (defScope s_kids_in) := ⟨rfl, rfl, rfl, by decide +kernel, rfl, by decide +kernel, by decide +kernel⟩
theorem sc_Stream___init__ : FnScope ["self", "changer"] ["self", "changer"] (defScope s_Stream___init__) := ⟨rfl, rfl, rfl, by decide +kernel, rfl, by decide +kernel, by decide +kernel⟩
theorem sc_live_kinds : FnScope ["form", "found", "grown", "kind", "tag", "inner", "rest"] ["form"] (defScope s_live_kinds) := ⟨rfl, rfl, rfl, by decide +kernel, rfl, by decide +kernel, by decide +kernel⟩
theorem sc_Reader___init__ : FnScope ["self", "form", "alive", "kind", "tag", "inner", "rest"] ["self", "form"] (defScope s_Reader___init__) := ⟨rfl, rfl, rfl, by decide +kernel, rfl, by decide +kernel, by decide +kernel⟩
theorem sc_Pipe___init__ : FnScope ["self", "changer", "before", "behind"] ["self", "changer", "before", "behind"] (defScope s_Pipe___init__) := ⟨rfl, rfl, rfl, by decide +kernel, rfl, by decide +kernel, by decide +kernel⟩
theorem sc_l_cell : FnScope ["_law_script", "_law_k", "_law_number"] ["_law_script", "_law_k"] (defScope s_l_cell) := ⟨rfl, rfl, rfl, by decide +kernel, rfl, by decide +kernel, by decide +kernel⟩
theorem sc_l_tags : FnScope ["_law_cell_here", "_law_letters", "_law_base", "_law_tags_here", "_law_k", "_law_other", "_law_at", "_law_place"] ["_law_cell_here"] (defScope s_l_tags) := ⟨rfl, rfl, rfl, by decide +kernel, rfl, by decide +kernel, by decide +kernel⟩
theorem sc_l_parts : FnScope ["_law_cell_here", "_law_tags_here", "_law_modes", "_law_once", "_law_rows", "_law_opened", "_law_many", "_law_rest", "_law_k", "_law_turn", "_law_inner"] ["_law_cell_here", "_law_tags_here", "_law_modes", "_law_once"] (defScope s_l_parts) := ⟨rfl, rfl, rfl, by decide +kernel, rfl, by decide +kernel, by decide +kernel⟩
theorem sc_l_rules : FnScope ["_law_script", "_law_modes", "_law_tags_here", "_law_once", "_law_made", "_law_k", "_law_cell_here", "_law_parts_here", "_law_many"] ["_law_script", "_law_modes", "_law_tags_here", "_law_once"] (defScope s_l_rules) := ⟨rfl, rfl, rfl, by decide +kernel, rfl, by decide +kernel, by decide +kernel⟩
theorem sc_l_changer : FnScope ["_law_modes", "_law_made"] ["_law_modes", "_law_made"] (defScope s_l_changer) := ⟨rfl, rfl, rfl, by decide +kernel, rfl, by decide +kernel, by decide +kernel⟩
theorem sc_l_refused : FnScope ["_law_recipe", "e", "_law_others"] ["_law_recipe"] (defScope s_l_refused) := ⟨rfl, rfl, rfl, by decide +kernel, rfl, by decide +kernel, by decide +kernel⟩
theorem sc_l_by_base : FnScope ["_law_recipe", "e"] ["_law_recipe"] (defScope s_l_by_base) := ⟨rfl, rfl, rfl, by decide +kernel, rfl, by decide +kernel, by decide +kernel⟩
theorem sc_l_pipe_refused : FnScope ["_law_recipe", "_law_plain"] ["_law_recipe"] (defScope s_l_pipe_refused) := ⟨rfl, rfl, rfl, by decide +kernel, rfl, by decide +kernel, by decide +kernel⟩
theorem sc_l_good : FnScope ["_law_modes", "_law_made", "_law_way", "_law_recipe", "_law_due", "_law_found", "_law_told"] ["_law_modes", "_law_made", "_law_way"] (defScope s_l_good) := ⟨rfl, rfl, rfl, by decide +kernel, rfl, by decide +kernel, by decide +kernel⟩
theorem sc_law : FnScope ["_law_script", "_law_modes", "_law_tags_here", "_law_made", "_law_way", "_law_keys", "_law_left", "_law_fewer", "_law_key"] ["_law_script"] (defScope s_law) := ⟨rfl, rfl, rfl, by decide +kernel, rfl, by decide +kernel, by decide +kernel⟩
structure XC (K : PySem.W.Frag) (mg : Str → Option Value) (X_GroveError X_NoGrove X_BadChanger X_NotStraight X_NoChange : Addr) : Prop where
  n_GroveError : mg "GroveError" = some (.ref X_GroveError)
  n_NoGrove : mg "NoGrove" = some (.ref X_NoGrove)
  n_BadChanger : mg "BadChanger" = some (.ref X_BadChanger)
  n_NotStraight : mg "NotStraight" = some (.ref X_NotStraight)
  n_NoChange : mg "NoChange" = some (.ref X_NoChange)
  bas : XBas K X_GroveError
  isG : PySem.W.isClsIn K X_GroveError = true
  tyG : PySem.W.typeIn K (.ref X_GroveError) = some (.type "type")
  c_GroveError : XCl K X_GroveError
  c_NoGrove : XCl K X_NoGrove
  c_BadChanger : XCl K X_BadChanger
  c_NotStraight : XCl K X_NotStraight
  c_NoChange : XCl K X_NoChange
  top_NotStraight : XTop K X_NotStraight X_GroveError
  ini_NotStraight : PySem.W.findIn K (.ref X_NotStraight) "__init__" = some (some (.builtin "ValueError.__init__"))
  f_NotStraight_place : XFld K X_NotStraight "place"
  mV_NotStraight : PySem.W.mroIn K X_NotStraight (.type "ValueError") = some true
  ne_NotStraight : X_NotStraight ≠ X_GroveError
  not_NotStraight_BadChanger : XNot K X_NotStraight X_BadChanger
  nn_NotStraight_BadChanger : X_NotStraight ≠ X_BadChanger
  not_NotStraight_NoGrove : XNot K X_NotStraight X_NoGrove
  nn_NotStraight_NoGrove : X_NotStraight ≠ X_NoGrove
  not_NotStraight_NoChange : XNot K X_NotStraight X_NoChange
  nn_NotStraight_NoChange : X_NotStraight ≠ X_NoChange
  m_NotStraight_GroveError : PySem.W.mroIn K X_NotStraight (.ref X_GroveError) = some true
  m_NotStraight_NoGrove : PySem.W.mroIn K X_NotStraight (.ref X_NoGrove) = some false
  m_NotStraight_BadChanger : PySem.W.mroIn K X_NotStraight (.ref X_BadChanger) = some false
  m_NotStraight_NotStraight : PySem.W.mroIn K X_NotStraight (.ref X_NotStraight) = some true
  m_NotStraight_NoChange : PySem.W.mroIn K X_NotStraight (.ref X_NoChange) = some false
abbrev blts : List Str := ["ValueError", "all", "bool", "dict", "isinstance", "len", "list", "range", "sorted", "tuple"]
section
variable {P : Program} {w : World} {K : PySem.W.Frag} {mg : Str → Option Value} {base : Heap} {f : Addr} {fd : FuncData} {X_GroveError X_NoGrove X_BadChanger X_NotStraight X_NoChange : Addr}
/-- a part of the one sort or the other -/
def PtV (H : Hp) (z : V) (x : Option Int) : Prop := match x with | some m => ∃ a, z = .ref a ∧ H a = some (.tup [.str "kids", .int m]) | none => ∃ a t q, z = .ref a ∧ H a = some (.tup [.str "tag", .str t, .ref q])
def PtL (H : Hp) (zs : List V) (xs : List (Option Int)) : Prop := Paired (PtV H) zs xs
theorem PtL.tk {H H' : Hp} (k : TK H H') : ∀ {zs : List V} {xs : List (Option Int)}, PtL H zs xs → PtL H' zs xs
  | _, _, .nil => .nil
  | _, _, .cons (b := x) r t => .cons (by
      cases x with
      | some m => obtain ⟨a, e, h⟩ := r; exact ⟨a, e, k _ _ h⟩
      | none => obtain ⟨a, t', q, e, h⟩ := r; exact ⟨a, t', q, e, k _ _ h⟩) (PtL.tk k t)
def allP : Pa → List (Option Int)
  | .nil => []
  | .kids m o => some m :: allP o
  | .tag _ w o => none :: (allP w ++ allP o)
theorem allP_app : ∀ p q : Pa, allP (p.app q) = allP p ++ allP q
  | .nil, q => rfl
  | .kids m o, q => by simp [Pa.app, allP, allP_app o q]
  | .tag t w o, q => by simp [Pa.app, allP, allP_app o q]
theorem allP_ks : ∀ p : Pa, (allP p).filterMap id = p.ks
  | .nil => rfl
  | .kids m o => by simp [allP, Pa.ks, allP_ks o]
  | .tag t w o => by simp [allP, Pa.ks, allP_ks w, allP_ks o]
theorem allP_len : ∀ p : Pa, (allP p).length = p.sz
  | .nil => rfl
  | .kids m o => by simp [allP, Pa.sz, allP_len o]; (first | lia | omega)
  | .tag t w o => by simp [allP, Pa.sz, allP_len w, allP_len o]; (first | lia | omega)
def spAllP (d : Nat) : Sp := fun vs H Q _ => ∃ (q : Addr) (ys : List V) (p : Pa), vs = [.ref q] ∧ H q = some (.tup ys) ∧ RepP H ys p ∧ p.dep < d ∧ p.sz ≤ 1000 ∧ ∀ (r : Addr) (zs : List V) (H' : Hp), Same H H' → H r = none → H' r = some (.lst zs) → PtL H' zs (allP p) → Q (.ref r) H'
set_option maxHeartbeats 2000000 in
theorem ok_all_parts (d : Nat) (B : ∀ x ∈ blts, mg x = none) (g_all_parts : Has P w K mg base "all_parts" ["parts"] d (spAllP d)) (F : Fun K "all_parts" "all_parts" s_all_parts f fd) : FnOk P w K mg base CX0 (d + 1) f fd ["parts"] (spAllP (d + 1)) := by
  refine F.ok sc_all_parts (fun vs H Q E h => ?_) (fun cdv A outer s H vs Q E hr h => ?_)
  · obtain ⟨q, ys, p, rfl, _⟩ := h
    rfl
  obtain ⟨q, ys, p, rfl, hq, hP, hd, hz, qq⟩ := h
  have hpl := hP.length
  refine ⟨_, (pss_cons (ps_set (i := 1) sc_all_parts.nd rfl (Or.inl rfl) (pe_lst pa_nil))
    (pss_cons (ps_for PassesOwn.never rfl (pi_tup (pv 0)) (pg_name (i := 2) sc_all_parts.nd rfl (Or.inl rfl))
      (pss_cons (ps_expr (pe_bm PySem.F.plainAttrs_list PySem.F.slot_list_append PySem.F.type_list_append mt_append (pv 1) (pa_cons (pv 2) pa_nil)))
        (pss_one (ps_if (pt_cmpR op_eq (pe_ix ix_tup (pv 2) pe_int (fun _ _ => rfl)) pe_str (nomark _))
          (pss_one (ps_expr (pe_bm PySem.F.plainAttrs_list PySem.F.slot_list_extend PySem.F.type_list_extend mt_extend (pv 1) (pa_cons (pe_has g_all_parts hr rfl (pa_cons (pe_ix ix_tup (pv 2) pe_int (fun _ _ => rfl)) pa_nil) (by (first | lia | omega))) pa_nil))))
          pss_nil))))
    (pss_one (ps_ret (pv 1))))), ?_⟩
  refine ⟨by decide, fun L hL => ?_⟩
  have s0 : Same H (upd H L (.lst [])) := Same.new hL
  refine ⟨_, rfl, q, rfl, ⟨_, SqT.of (s0 _ _ hq)⟩, for_tup (K := K) (a := q) (xs := ys) (fun i σ H1 => ∃ (v2 : Option V) (zs : List V), σ = [some (.ref q), some (.ref L), v2] ∧ Same H H1 ∧ H1 L = some (.lst zs) ∧ PtL H1 zs (allP (p.take i)))
    ⟨none, [], rfl, s0, upd_same, .nil⟩ ?_ ?_ ?_⟩
  · rintro i σ H1 _ ⟨_, _, _, s1, _⟩
    exact SqT.of (s1 _ _ hq)
  · rintro i x σ H1 hx ⟨v2, zs, rfl, s1, hL1, hzs⟩
    obtain ⟨a, rfl, ha⟩ := hP.at i x hx
    have hts := p.take_sz i
    have hzl : zs.length = (p.take i).sz := (Paired.length hzs).trans (allP_len _)
    refine ⟨_, rfl, .inl ⟨rfl, _, SqL.of hL1⟩, _, rfl, L, _, _, rfl, rfl, hL1, len1000' (by (first | lia | omega)), ?_⟩
    have tk : TK H1 (upd H1 L (.lst (zs ++ [.ref a]))) := TK.lst hL1
    rcases ha with ⟨m, h1, h2⟩ | ⟨t, q', ys', w', h1, h2, h3, h4, h5, h6⟩
    · have h1' := tk _ _ (s1 _ _ h1)
      refine ⟨_, rfl, a, _, 0, _, rfl, rfl, SqT.of h1', rfl, rfl, _, rfl, iteF ?_⟩
      refine ⟨_, _, rfl, s1.upd_new hL, upd_same, ?_⟩
      rw [h2, allP_app]
      exact Paired.app (hzs.tk tk) (.cons ⟨a, rfl, h1'⟩ .nil)
    · have h1' := tk _ _ (s1 _ _ h1)
      refine ⟨_, rfl, a, _, 0, _, rfl, rfl, SqT.of h1', rfl, rfl, _, rfl, iteT ?_⟩
      have s2 : Same H (upd H1 L (.lst (zs ++ [.ref a]))) := s1.upd_new hL
      refine ⟨_, rfl, .inl ⟨rfl, _, SqL.of upd_same⟩, _, rfl, a, _, 2, _, rfl, rfl, SqT.of h1', rfl, q', ys', w', rfl, s2 _ _ h2, h3.mono s2.tk, by (first | lia | omega), by (first | lia | omega), fun r zr H3 s3 hr0 hr3 hzr => ?_⟩
      have hL3 := s3 _ _ (show (upd H1 L (.lst (zs ++ [.ref a]))) L = some (.lst (zs ++ [.ref a])) from upd_same)
      have hrl : zr.length = w'.sz := (Paired.length hzr).trans (allP_len _)
      refine ⟨L, r, _, _, rfl, rfl, hL3, hr3, len1000 (by rw [List.length_append, List.length_singleton]; (first | lia | omega)), ?_⟩
      have tk4 := TK.lst (o := .lst (zs ++ [.ref a] ++ zr)) hL3
      refine ⟨_, _, rfl, (s2.trans s3).upd_new hL, upd_same, ?_⟩
      rw [h4, allP_app]
      have e : allP (Pa.tag t w' .nil) = none :: allP w' := by simp [allP]
      rw [e]
      have k5 : PtL (upd H3 L (.lst (zs ++ [.ref a] ++ zr))) (zs ++ (.ref a :: zr)) (allP (p.take i) ++ none :: allP w') := Paired.app (((hzs.tk tk).tk s3.tk).tk tk4) (.cons ⟨a, t, q', rfl, tk4 _ _ (s3 _ _ h1')⟩ (hzr.tk tk4))
      rw [show zs ++ V.ref a :: zr = zs ++ [V.ref a] ++ zr by simp] at k5
      exact k5
  · rintro σ H1 ⟨v2, zs, rfl, s1, hL1, hzs⟩
    rw [hP.take_all] at hzs
    exact ⟨_, rfl, qq L zs H1 s1 hL hL1 hzs⟩
def KdL (H : Hp) (zs : List V) (ms : List Int) : Prop := Paired (fun z m => ∃ a, z = V.ref a ∧ H a = some (.tup [.str "kids", .int m])) zs ms
theorem KdL.tk {H H' : Hp} (k : TK H H') : ∀ {zs : List V} {xs : List Int}, KdL H zs xs → KdL H' zs xs
  | _, _, .nil => .nil
  | _, _, .cons ⟨a, e, h⟩ t => .cons ⟨a, e, k _ _ h⟩ (KdL.tk k t)
def spKidsIn (d : Nat) : Sp := fun vs H Q _ => ∃ (q : Addr) (ys : List V) (p : Pa), vs = [.ref q] ∧ H q = some (.tup ys) ∧ RepP H ys p ∧ p.dep < d ∧ p.sz ≤ 1000 ∧ ∀ (r : Addr) (zs : List V) (H' : Hp), Same H H' → H r = none → H' r = some (.lst zs) → KdL H' zs p.ks → Q (.ref r) H'
theorem PtL.get {H : Hp} : ∀ {zs : List V} {xs : List (Option Int)}, PtL H zs xs → ∀ (i : Nat) z, zs[i]? = some z → ∃ x, xs[i]? = some x ∧ PtV H z x
  | _, _, .cons r t, 0, z, hz => by
    injection hz with hz
    subst hz
    exact ⟨_, rfl, r⟩
  | _, _, .cons r t, i + 1, z, hz => PtL.get t i z hz
set_option maxHeartbeats 2000000 in
theorem ok_kids_in (B : ∀ x ∈ blts, mg x = none) (g_all_parts : Has P w K mg base "all_parts" ["parts"] 22 (spAllP 22)) (F : Fun K "kids_in" "kids_in" s_kids_in f fd) : FnOk P w K mg base CX0 23 f fd ["parts"] (spKidsIn 22) := by
  refine F.ok sc_kids_in (fun vs H Q E h => ?_) (fun cdv A outer s H vs Q E hr h => ?_)
  · obtain ⟨q, ys, p, rfl, _⟩ := h
    rfl
  obtain ⟨q, ys, p, rfl, hq, hP, hd, hz, qq⟩ := h
  refine ⟨_, (pss_one (ps_ret (pe_comp_if (cl := []) ["part"] [] (pi_list (pe_has g_all_parts hr rfl (pa_cons (pv 0) pa_nil))) (fun _ _ _ _ => (pg_name (i := 0) nd1 rfl (Or.inl rfl))) (fun _ _ _ _ => (pt_cmpR op_eq (pe_ix (ix_tupK (K := K) rfl) (pv 0) pe_int (fun _ _ => rfl)) pe_str (nomark _))) (fun _ _ _ _ => (pv 0)) rfl rfl (by decide) rfl (by decide) (fun _ _ h => nomatch h) (nofree (by decide)) (fun _ _ h => nomatch h) (fun _ => rfl)))), ?_⟩
  refine ⟨_, rfl, q, ys, p, rfl, hq, hP, hd, hz, fun r zr H1 s1 hr0 hr1 hzr => ?_⟩
  have hzl : zr.length = p.sz := (Paired.length hzr).trans (allP_len _)
  refine ⟨r, rfl, ⟨_, SqL.of hr1⟩, fun pc hpc => comp_listT (K := K) (a := r) (p := pc) (xs := zr) (fun i us σ H2 => ∃ (v0 : Option V), σ = [v0] ∧ Same H1 H2 ∧ H2 pc = some (.lst us) ∧ KdL H2 us (((allP p).take i).filterMap id))
    ⟨none, rfl, Same.new hpc, upd_same, .nil⟩ ?_ ?_ ?_⟩
  · rintro i us σ H2 _ ⟨_, _, s2, h, _⟩
    exact ⟨SqL.of (s2 _ _ hr1), h⟩
  · rintro i us x σ H2 hi hx ⟨v0, rfl, s2, hp, hus⟩
    obtain ⟨o, ho, hv⟩ := hzr.get i x hx
    have hul : us.length ≤ i := by
      rw [Paired.length hus]
      exact Nat.le_trans (List.length_filterMap_le _ _) (by rw [List.length_take]; (first | lia | omega))
    cases o with
    | some m =>
      obtain ⟨a, rfl, ha⟩ := hv
      refine ⟨_, rfl, a, _, 0, _, rfl, rfl, SqT.of (s2 _ _ ha), rfl, rfl, _, rfl, iteT ?_⟩
      refine ⟨_, rfl, hp, len1000' (by (first | lia | omega)), CW.next hi ⟨_, rfl, s2.upd_new hpc, upd_same, ?_⟩⟩
      rw [take_succ' ho, List.filterMap_append]
      exact Paired.app (hus.tk (TK.lst hp)) (.cons ⟨a, rfl, TK.lst hp _ _ (s2 _ _ ha)⟩ .nil)
    | none =>
      obtain ⟨a, t, q', rfl, ha⟩ := hv
      refine ⟨_, rfl, a, _, 0, _, rfl, rfl, SqT.of (s2 _ _ ha), rfl, rfl, _, rfl, iteF ?_⟩
      refine CW.next hi ⟨_, rfl, s2, hp, ?_⟩
      rw [take_succ' ho, List.filterMap_append]
      simpa using hus
  rintro us σ H2 ⟨v0, rfl, s2, hp, hus⟩
  rw [hzl, ← allP_len, List.take_length, allP_ks] at hus
  exact qq pc us H2 (s1.trans s2) (s1.free hpc) hp hus
/-- rules in the heap -/
def RlV (H : Hp) (z : V) (r : Int × Str × Pa) : Prop := ∃ a q ys, z = .ref a ∧ H a = some (.tup [.int r.1, .str r.2.1, .ref q]) ∧ H q = some (.tup ys) ∧ RepP H ys r.2.2
def RlL (H : Hp) (zs : List V) (rs : List (Int × Str × Pa)) : Prop := Paired (RlV H) zs rs
theorem RlL.tk {H H' : Hp} (k : TK H H') : ∀ {zs : List V} {rs : List (Int × Str × Pa)}, RlL H zs rs → RlL H' zs rs
  | _, _, .nil => .nil
  | _, _, .cons ⟨a, q, ys, e, h1, h2, h3⟩ t => .cons ⟨a, q, ys, e, k _ _ h1, k _ _ h2, h3.mono k⟩ (RlL.tk k t)
theorem RlL.get {H : Hp} : ∀ {zs : List V} {xs : List (Int × Str × Pa)}, RlL H zs xs → ∀ (i : Nat) z, zs[i]? = some z → ∃ x, xs[i]? = some x ∧ RlV H z x
  | _, _, .cons r t, 0, z, hz => by
    injection hz with hz
    subst hz
    exact ⟨_, rfl, r⟩
  | _, _, .cons r t, i + 1, z, hz => RlL.get t i z hz
/-- a changer in the heap -/
def ChR (H : Hp) (c : Addr) (rs : List (Int × Str × Pa)) : Prop := ∃ n rt zs, H c = some (.tup [.int n, .ref rt]) ∧ H rt = some (.tup zs) ∧ RlL H zs rs ∧ rs.length ≤ 100 ∧ ∀ r ∈ rs, r.2.2.sz ≤ 20
theorem ChR.tk {H H' : Hp} {c : Addr} {rs : List (Int × Str × Pa)} (h : ChR H c rs) (k : TK H H') : ChR H' c rs := by
  obtain ⟨n, rt, zs, h1, h2, h3, h4⟩ := h
  exact ⟨n, rt, zs, k _ _ h1, k _ _ h2, h3.tk k, h4⟩
def spStraight : Sp := fun vs H Q _ => ∃ (c : Addr) (rs : List (Int × Str × Pa)), vs = [.ref c] ∧ ChR H c rs ∧ ∀ H', Same H H' → Q (.bl (rs.all fun r => decide (r.2.2.nk ≤ 1))) H'
set_option maxHeartbeats 2000000 in
theorem ok_straight (B : ∀ x ∈ blts, mg x = none) (g_kids_in : Has P w K mg base "kids_in" ["parts"] 23 (spKidsIn 22)) (F : Fun K "straight" "straight" s_straight f fd) : FnOk P w K mg base CX0 24 f fd ["changer"] spStraight := by
  refine F.ok sc_straight (fun vs H Q E h => ?_) (fun cdv A outer s H vs Q E hr h => ?_)
  · obtain ⟨c, rs, rfl, _⟩ := h
    rfl
  obtain ⟨c, rs, rfl, ⟨n, rt, zs, h1, h2, h3, h4, h5⟩, qq⟩ := h
  have hzl : zs.length = rs.length := Paired.length h3
  refine ⟨_, (pss_one (ps_ret (pe_callB (call_all rfl) rfl (B "all" (by decide)) bt_all (pa_cons (pe_comp (cl := []) ["mode", "tag", "parts"] [] (pi_tup (pe_ix ix_tup (pv 0) pe_int (fun _ _ => rfl))) (fun _ _ _ _ => (pg_tupK (K := K) (n := 3) rfl rfl (pgs_cons (pg_name (i := 0) (show List.Nodup (["mode", "tag", "parts"] : List Str) by decide) rfl (Or.inl rfl)) (pgs_cons (pg_name (i := 1) (show List.Nodup (["mode", "tag", "parts"] : List Str) by decide) rfl (Or.inl rfl)) (pgs_cons (pg_name (i := 2) (show List.Nodup (["mode", "tag", "parts"] : List Str) by decide) rfl (Or.inl rfl)) pgs_nil))))) (fun _ _ _ _ => (pe_cmpR op_le (pe_callB (call_len_seqK (K := K) rfl) rfl (B "len" (by decide)) PySem.boot_len (pa_cons (pe_has g_kids_in hr rfl (pa_cons (pv 2) pa_nil)) pa_nil)) pe_int (nomark _))) rfl rfl (by decide) rfl (by decide) (fun _ _ h => nomatch h) (nofree (by decide)) (fun _ _ h => nomatch h) (fun _ => rfl)) pa_nil)))), ?_⟩
  refine ⟨_, rfl, c, _, 1, _, rfl, rfl, SqT.of h1, rfl, rt, rfl, ⟨_, SqT.of h2⟩, fun pc hpc => comp_tup (K := K) (a := rt) (p := pc) (xs := zs) (fun i us σ H2 => ∃ (v0 v1 v2 : Option V), σ = [v0, v1, v2] ∧ Same H H2 ∧ H2 pc = some (.lst us) ∧ us = ((rs.take i).map fun r => decide (r.2.2.nk ≤ 1)).map V.bl)
    ⟨none, none, none, rfl, Same.new hpc, upd_same, rfl⟩ ?_ ?_ ?_⟩
  · rintro i us σ H2 _ ⟨_, _, _, _, s2, h, _⟩
    exact ⟨SqT.of (s2 _ _ h2), h⟩
  · rintro i us x σ H2 hi hx ⟨v0, v1, v2, rfl, s2, hp, rfl⟩
    obtain ⟨r, hr1, a, q, ys, rfl, g1, g2, g3⟩ := h3.get i x hx
    have hsz := h5 r (List.mem_of_getElem? hr1)
    have hdp := r.2.2.dep_le
    refine ⟨a, _, rfl, SqT.of (s2 _ _ g1), rfl, _, _, rfl, _, _, rfl, _, _, rfl, rfl, ?_⟩
    refine ⟨_, rfl, q, ys, r.2.2, rfl, s2 _ _ g2, g3.mono s2.tk, by (first | lia | omega), by (first | lia | omega), fun r' zr H3 s3 hr0 hr3 hk => ?_⟩
    have hkl : zr.length = r.2.2.nk := (Paired.length hk).trans (Pa.ks_len _)
    refine ⟨r', _, rfl, .inl (SqL.of hr3), _, _, rfl, rfl, s3 _ _ hp, len1000' (by rw [List.length_map, List.length_map, List.length_take]; (first | lia | omega)), CW.next hi ⟨_, _, _, rfl, (s2.trans s3).upd_new hpc, upd_same, ?_⟩⟩
    rw [take_succ' hr1, List.map_append, List.map_append]
    congr 1
    show [V.bl (decide ((zr.length : Int) ≤ 1))] = [V.bl (decide (r.2.2.nk ≤ 1))]
    congr 2
    rw [decide_eq_decide]
    (first | lia | omega)
  rintro us σ H2 ⟨v0, v1, v2, rfl, s2, hp, rfl⟩
  rw [hzl, List.take_length] at hp
  refine ⟨pc, _, rfl, SqL.of hp, ?_⟩
  have := qq H2 s2
  rw [show (rs.map fun r => decide (r.2.2.nk ≤ 1)).all id = rs.all fun r => decide (r.2.2.nk ≤ 1) by rw [List.all_map]; rfl]
  exact this
def knPut (f : Kn) (r : Int × Str × Pa) : Kn := fun i t => if i = r.1 ∧ t = r.2.1 then some r.2.2 else f i t
def knOf (rs : List (Int × Str × Pa)) : Kn := rs.foldl knPut fun _ _ => none
def rkey (i : Int) (t : Str) : List Key := [Sum.inl i, Sum.inr t]
theorem rkey_inj {i j : Int} {t u : Str} (h : rkey i t = rkey j u) : i = j ∧ t = u := by
  unfold rkey at h
  simpa using h
def spByRule : Sp := fun vs H Q _ => ∃ (c : Addr) (rs : List (Int × Str × Pa)), vs = [.ref c] ∧ ChR H c rs ∧ ∀ (d : Addr) (m : List (List Key × V)) (H' : Hp), Same H H' → H d = none → H' d = some (.dT m) → KnR H' m (knOf rs) → Q (.ref d) H'
/-- pairs, as they make a dict -/
def PkV (H : Hp) (y : V) (kv : List Key × V) (r : Int × Str × Pa) : Prop := (∃ t b, y = .ref t ∧ H t = some (.tup [.ref b, kv.2]) ∧ H b = some (.tup (kv.1.map kV))) ∧ kv.1 = rkey r.1 r.2.1 ∧ ∃ q ys, kv.2 = .ref q ∧ H q = some (.tup ys) ∧ RepP H ys r.2.2
inductive PkL (H : Hp) : List V → List (List Key × V) → List (Int × Str × Pa) → Prop
  | nil : PkL H [] [] []
  | cons {y : V} {kv : List Key × V} {r : Int × Str × Pa} {ys : List V} {kvs : List (List Key × V)} {rs : List (Int × Str × Pa)} : PkV H y kv r → PkL H ys kvs rs → PkL H (y :: ys) (kv :: kvs) (r :: rs)
theorem PkL.tk {H H' : Hp} (k : TK H H') : ∀ {ys : List V} {kvs : List (List Key × V)} {rs : List (Int × Str × Pa)}, PkL H ys kvs rs → PkL H' ys kvs rs
  | _, _, _, .nil => .nil
  | _, _, _, .cons ⟨⟨t, b, e1, e2, e3⟩, e4, q, zs, e5, e6, e7⟩ t' => .cons ⟨⟨t, b, e1, k _ _ e2, k _ _ e3⟩, e4, q, zs, e5, k _ _ e6, e7.mono k⟩ (t'.tk k)
theorem PkL.snoc {H : Hp} {y : V} {kv : List Key × V} {r : Int × Str × Pa} (h : PkV H y kv r) : ∀ {ys : List V} {kvs : List (List Key × V)} {rs : List (Int × Str × Pa)}, PkL H ys kvs rs → PkL H (ys ++ [y]) (kvs ++ [kv]) (rs ++ [r])
  | _, _, _, .nil => .cons h .nil
  | _, _, _, .cons r t => .cons r (t.snoc h)
theorem PkL.pairs {H : Hp} : ∀ {ys : List V} {kvs : List (List Key × V)} {rs : List (Int × Str × Pa)}, PkL H ys kvs rs → Paired (fun (y : V) (kv : List Key × V) => ∃ t b, y = .ref t ∧ H t = some (.tup [.ref b, kv.2]) ∧ H b = some (.tup (kv.1.map kV))) ys kvs ∧ ys.length = rs.length
  | _, _, _, .nil => ⟨.nil, rfl⟩
  | _, _, _, .cons r t => ⟨.cons r.1 t.pairs.1, by simp [t.pairs.2]⟩
theorem PkL.kn {H : Hp} : ∀ {ys : List V} {kvs : List (List Key × V)} {rs : List (Int × Str × Pa)} {m : List (List Key × V)} {f : Kn}, PkL H ys kvs rs → KnR H m f → KnR H (kvs.foldl (fun m kv => putK m kv.1 kv.2) m) (rs.foldl knPut f)
  | _, _, _, _, _, .nil, h => h
  | _, _, _, m, f, .cons (kv := kv) (r := r) ⟨_, e4, q, zs, e5, e6, e7⟩ t, h => by
    refine t.kn (m := putK m kv.1 kv.2) (f := knPut f r) fun i u => ?_
    show (valV (putK m kv.1 kv.2) (rkey i u) = none ∧ knPut f r i u = none) ∨ ∃ q ys p, valV (putK m kv.1 kv.2) (rkey i u) = some (.ref q) ∧ H q = some (.tup ys) ∧ RepP H ys p ∧ knPut f r i u = some p
    rw [valV_put, e4]
    unfold knPut
    by_cases c : i = r.1 ∧ u = r.2.1
    · rw [if_pos (by rw [c.1, c.2]), if_pos c]
      exact .inr ⟨q, zs, r.2.2, by rw [e5], e6, e7, rfl⟩
    · rw [if_neg (fun z => c (rkey_inj (i := i) (t := u) z)), if_neg c]
      exact h i u
set_option maxHeartbeats 2000000 in
theorem ok_parts_by_rule (B : ∀ x ∈ blts, mg x = none) (F : Fun K "parts_by_rule" "parts_by_rule" s_parts_by_rule f fd) : FnOk P w K mg base CX0 1 f fd ["changer"] spByRule := by
  refine F.ok sc_parts_by_rule (fun vs H Q E h => ?_) (fun cdv A outer s H vs Q E hr h => ?_)
  · obtain ⟨c, rs, rfl, _⟩ := h
    rfl
  obtain ⟨c, rs, rfl, ⟨n, rt, zs, h1, h2, h3, h4, h5⟩, qq⟩ := h
  have hu2 : (A.deeper (PyProof.Rows.envOfC (Str.ofString "parts_by_rule") (defScope s_parts_by_rule) s.heap.objs.size f cdv)).units + 2 < cLine := by have := hr.un; (first | lia | omega)
  have hzl : zs.length = rs.length := Paired.length h3
  refine ⟨_, (pss_one (ps_ret (pe_callTy (call_dict_listT rfl hu2) rfl (B "dict" (by decide)) bt_dict (pa_cons (pe_comp (cl := []) ["mode", "tag", "parts"] [] (pi_tup (pe_ix ix_tup (pv 0) pe_int (fun _ _ => rfl))) (fun _ _ _ _ => (pg_tupK (K := K) (n := 3) rfl rfl (pgs_cons (pg_name (i := 0) (show List.Nodup (["mode", "tag", "parts"] : List Str) by decide) rfl (Or.inl rfl)) (pgs_cons (pg_name (i := 1) (show List.Nodup (["mode", "tag", "parts"] : List Str) by decide) rfl (Or.inl rfl)) (pgs_cons (pg_name (i := 2) (show List.Nodup (["mode", "tag", "parts"] : List Str) by decide) rfl (Or.inl rfl)) pgs_nil))))) (fun _ _ _ _ => (pe_tup (pa_cons (pe_tup (pa_cons (pv 0) (pa_cons (pv 1) pa_nil))) (pa_cons (pv 2) pa_nil)))) rfl rfl (by decide) rfl (by decide) (fun _ _ h => nomatch h) (nofree (by decide)) (fun _ _ h => nomatch h) (fun _ => rfl)) pa_nil)))), ?_⟩
  refine ⟨_, rfl, c, _, 1, _, rfl, rfl, SqT.of h1, rfl, rt, rfl, ⟨_, SqT.of h2⟩, fun pc hpc => comp_tup (K := K) (a := rt) (p := pc) (xs := zs) (fun i us σ H2 => ∃ (v0 v1 v2 : Option V) (kvs : List (List Key × V)), σ = [v0, v1, v2] ∧ Same H H2 ∧ H2 pc = some (.lst us) ∧ PkL H2 us kvs (rs.take i))
    ⟨none, none, none, [], rfl, Same.new hpc, upd_same, .nil⟩ ?_ ?_ ?_⟩
  · rintro i us σ H2 _ ⟨_, _, _, _, _, s2, h, _⟩
    exact ⟨SqT.of (s2 _ _ h2), h⟩
  · rintro i us x σ H2 hi hx ⟨v0, v1, v2, kvs, rfl, s2, hp, hpk⟩
    obtain ⟨r, hr1, a, q, ys, rfl, g1, g2, g3⟩ := h3.get i x hx
    have hul := hpk.pairs.2
    rw [List.length_take] at hul
    refine ⟨a, _, rfl, SqT.of (s2 _ _ g1), rfl, _, _, rfl, _, _, rfl, _, _, rfl, rfl, ?_⟩
    refine ⟨_, rfl, _, rfl, (by show 2 ≤ sizeLine; decide), fun t1 ht1 => ⟨_, rfl, (by show 2 ≤ sizeLine; decide), fun t2 ht2 => ?_⟩⟩
    obtain ⟨n21, ht2'⟩ := upd_none ht2
    have s4 : Same H2 (upd (upd H2 t1 (.tup [.int r.1, .str r.2.1])) t2 (.tup [.ref t1, .ref q])) := (Same.new ht1).upd_new ht2'
    refine ⟨s4 _ _ hp, len1000' (by (first | lia | omega)), CW.next hi ⟨_, _, _, kvs ++ [(rkey r.1 r.2.1, .ref q)], rfl, (s2.trans s4).upd_new hpc, upd_same, ?_⟩⟩
    rw [take_succ' hr1]
    have tk := s4.tk.trans (TK.lst (o := .lst (us ++ [.ref t2])) (s4 _ _ hp))
    have nt2 : t2 ≠ pc := fun z => by rw [z, hp] at ht2'; cases ht2'
    have nt1 : t1 ≠ pc := fun z => by rw [z, hp] at ht1; cases ht1
    refine (hpk.tk tk).snoc ⟨⟨t2, t1, rfl, ?_, ?_⟩, rfl, q, ys, rfl, tk _ _ (s2 _ _ g2), (g3.mono s2.tk).mono tk⟩
    · rw [upd_ne nt2]
      exact upd_same
    · rw [upd_ne nt1, upd_ne n21.symm, upd_same]
      rfl
  rintro us σ H2 ⟨v0, v1, v2, kvs, rfl, s2, hp, hpk⟩
  rw [hzl, List.take_length] at hpk
  obtain ⟨hpp, hul⟩ := hpk.pairs
  refine ⟨pc, us, kvs, rfl, SqL.of hp, by (first | lia | omega), hpp, fun d hd => ?_⟩
  have s3 : Same H2 (upd H2 d (.dT (putAllT kvs))) := Same.new hd
  refine qq d (putAllT kvs) _ (s2.trans s3) (s2.free hd) upd_same ?_
  exact (hpk.kn (m := []) (f := fun _ _ => none) (fun i t => .inl ⟨rfl, rfl⟩)).tk s3.tk
set_option maxHeartbeats 2000000 in
theorem ok_live_kinds (B : ∀ x ∈ blts, mg x = none) (F : Fun K "live_kinds" "live_kinds" s_live_kinds f fd) : FnOk P w K mg base CX0 1 f fd ["form"] (spLiveR K) := by
  refine F.ok sc_live_kinds (fun vs H Q E h => ?_) (fun cdv A outer s H vs Q E hr h => ?_)
  · obtain ⟨a, fm, rfl, _⟩ := h
    rfl
  obtain ⟨a, fm, rfl, hF, ok, q⟩ := h
  obtain ⟨f1, f2, f3, zf, a1, a2, a3, a4, a5⟩ := id hF
  have n0 := ok.n0
  have n64 := ok.n8
  have htl := ok.tl
  have zfl := a5.length
  obtain ⟨N, hN⟩ : ∃ N : Nat, fm.n = (N : Int) := ⟨fm.n.toNat, (Int.toNat_of_nonneg n0).symm⟩
  have hu1 : (A.deeper (PyProof.Rows.envOfC (Str.ofString "live_kinds") (defScope s_live_kinds) s.heap.objs.size f cdv)).units + 1 < cLine := by have := hr.un; (first | lia | omega)
  refine ⟨_, (pss_cons (ps_set (i := 1) sc_live_kinds.nd rfl (Or.inl rfl) (pe_callTy (call_dict_list rfl) rfl (B "dict" (by decide)) bt_dict (pa_cons (pe_comp (cl := []) ["end"] [] (pi_tup (pe_ix ix_tup (pv 0) pe_int (fun _ _ => rfl))) (fun _ _ _ _ => (pg_name (i := 0) nd1 rfl (Or.inl rfl))) (fun _ _ _ _ => (pe_tup (pa_cons (pv 0) (pa_cons pe_bl pa_nil)))) rfl rfl (by decide) rfl (by decide) (fun _ _ h => nomatch h) (nofree (by decide)) (fun _ _ h => nomatch h) (fun _ => rfl)) pa_nil)))
    (pss_cons (ps_set (i := 2) sc_live_kinds.nd rfl (Or.inl rfl) pe_bl)
    (pss_cons (ps_while PassesOwn.never (pt_truth (pv 2) (fun _ => rfl))
      (pss_cons (ps_set (i := 2) sc_live_kinds.nd rfl (Or.inl rfl) pe_bl)
        (pss_one (ps_for PassesOwn.never rfl (pi_tup (pe_ix ix_tup (pv 0) pe_int (fun _ _ => rfl))) (pg_tup rfl (pgs_cons (pg_name (i := 3) sc_live_kinds.nd rfl (Or.inl rfl)) (pgs_cons (pg_name (i := 4) sc_live_kinds.nd rfl (Or.inl rfl)) (pgs_cons (pg_name (i := 5) sc_live_kinds.nd rfl (Or.inl rfl)) (pgs_cons (pg_name (i := 6) sc_live_kinds.nd rfl (Or.inl rfl)) pgs_nil)))))
          (pss_one (ps_if (PW.pt (pw_and (pt_cmp (pc_dnotin hu1 (pv 3) (pv 1))) (pw_and (pt_cmp (pc_din hu1 (pv 5) (pv 1))) (pw_and1 (pt_cmp (pc_din hu1 (pv 6) (pv 1)))))))
              (pss_cons (ps_dput hu1 (pv 1) (pv 3) pe_bl rfl)
                (pss_one (ps_set (i := 2) sc_live_kinds.nd rfl (Or.inl rfl) pe_bl)))
              pss_nil))))))
    (pss_one (ps_ret (pv 1)))))), ?_⟩
  refine ⟨_, rfl, a, _, 2, _, rfl, rfl, SqT.of a1, rfl, f2, rfl, ⟨_, SqT.of a3⟩, fun pl hpl => comp_tup (K := K) (a := f2) (p := pl) (xs := fm.ts.map V.int) (fun i ys σ H2 => ∃ v0 : Option V, σ = [v0] ∧ Same H H2 ∧ H2 pl = some (.lst ys) ∧ PT H2 ys (fm.ts.take i))
    ⟨none, rfl, Same.new hpl, upd_same, .nil⟩ ?_ ?_ ?_⟩
  · rintro i ys σ H2 _ ⟨v0, _, sm, h, _⟩
    exact ⟨SqT.of (sm _ _ a3), h⟩
  · rintro i ys x σ H2 hi hx ⟨v0, rfl, sm, hp, hz⟩
    rw [List.getElem?_map] at hx
    obtain ⟨e, he, rfl⟩ := Option.map_eq_some_iff.mp hx
    refine ⟨_, rfl, by show (2 : Nat) ≤ sizeLine; decide, fun t ht0 => ?_⟩
    have s2 : Same H2 (upd H2 t (.tup [V.int e, .bl true])) := Same.new ht0
    refine ⟨s2 _ _ hp, len1000' (by rw [hz.length, List.length_take]; (first | lia | omega)), CW.next hi ⟨_, rfl, (sm.trans s2).upd_new hpl, upd_same, ?_⟩⟩
    rw [take_succ' he]
    have hz2 : PT (upd H2 t (.tup [V.int e, .bl true])) (ys ++ [.ref t]) (fm.ts.take i ++ [e]) := PT.snoc upd_same (hz.keep fun b xs e => s2 _ _ e)
    exact hz2.keep (tup_upd (s2 _ _ hp))
  rintro ys σ H2 ⟨v0, rfl, sm, hp, hz⟩
  rw [List.length_map, List.take_length] at hz
  refine ⟨pl, _, fm.ts.map kB, rfl, SqL.of hp, by rw [hz.length]; (first | lia | omega), hz.pairs, fun d hd => ?_⟩
  have hd0 := sm.free hd
  obtain ⟨S0, kn0, hS0⟩ := di_all fm.ts [] [] rfl
  have hm0 : (putAll (fm.ts.map kB)).length ≤ fm.ts.length := by
    have := putAll_len (fm.ts.map kB)
    rw [List.length_map] at this
    exact this
  have kn0' : (putAll (fm.ts.map kB)).map (·.1) = S0.map Sum.inl := kn0
  generalize putAll (fm.ts.map kB) = m0 at kn0' hm0
  have hS0l : S0.length ≤ fm.ts.length := by rw [← keys_len kn0']; exact hm0
  have sm1 : Same H (upd H2 d (.dK m0)) := sm.upd_new hd0
  let W : Nat → St → Hp → Prop := fun j σ H1 => ∃ (S : List Int) (m : List (Key × V)) (fl : Bool) (v3 v4 v5 v6 : Option V), σ = [some (.ref a), some (.ref d), some (.bl fl), v3, v4, v5, v6] ∧ Same H H1 ∧ H1 d = some (.dK m) ∧ m.map (·.1) = S.map Sum.inl ∧
    (∀ e ∈ fm.ts, e ∈ S) ∧ (∀ k ∈ S, LvQ fm k) ∧ S.length + outN N S ≤ 70 + N ∧ j = 2 * outN N S + (if fl = true then 1 else 0) ∧ (fl = false → ShutQ fm.qs S)
  have ho0 := outN_le N S0
  refine ⟨W, ⟨_, S0, m0, true, none, none, none, none, rfl, sm1, upd_same, kn0', fun e he => (hS0 e).mpr (.inr he), fun k hk => .e (((hS0 k).mp hk).resolve_left (fun z => nomatch z)), by (first | lia | omega), rfl, fun z => nomatch z⟩, ?_⟩
  rintro j σ H1 ⟨S, m, fl, v3, v4, v5, v6, rfl, smw, hdm, kn, hen, hsd, hsz, rfl, hsh⟩
  cases fl with
  | false =>
    refine ⟨_, rfl, false, rfl, iteF ⟨_, rfl, q d S H1 smw hd0 ⟨m, hdm, kn⟩ ?_ fun k => ⟨hsd k, fun hk => shut_all hen (hsh rfl) hk⟩⟩⟩
    (first | lia | omega)
  | true =>
    refine ⟨_, rfl, true, rfl, iteT ⟨fun σ' H' => ∃ m', m' < 2 * outN N S + (if true = true then 1 else 0) ∧ W m' σ' H', fun _ _ h => h, ?_⟩⟩
    refine ⟨_, rfl, a, _, 3, _, rfl, rfl, SqT.of (smw _ _ a1), rfl, f3, rfl, ⟨_, SqT.of (smw _ _ a4)⟩, for_tup (K := K) (a := f3) (xs := zf) (fun i σ H2 => ∃ (S' : List Int) (m' : List (Key × V)) (fl' : Bool) (v3 v4 v5 v6 : Option V), σ = [some (.ref a), some (.ref d), some (.bl fl'), v3, v4, v5, v6] ∧ Same H H2 ∧ H2 d = some (.dK m') ∧ m'.map (·.1) = S'.map Sum.inl ∧
      (∀ e ∈ fm.ts, e ∈ S') ∧ (∀ k ∈ S', LvQ fm k) ∧ S'.length + outN N S' ≤ 70 + N ∧ (fl' = false → S' = S ∧ ShutQ (fm.qs.take i) S) ∧ (fl' = true → outN N S' + 1 ≤ outN N S)) ⟨S, m, false, v3, v4, v5, v6, rfl, smw, hdm, kn, hen, hsd, hsz, fun _ => ⟨rfl, fun _ h => nomatch h⟩, fun z => nomatch z⟩ ?_ ?_ ?_⟩
    · rintro i σ H2 _ ⟨S', m', fl', v3, v4, v5, v6, _, sm2, _⟩
      exact SqT.of (sm2 _ _ a4)
    · rintro i x σ H2 hi ⟨S', m', fl', v3, v4, v5, v6, rfl, sm2, hdm2, kn2, hen2, hsd2, hsz2, hf1, hf2⟩
      obtain ⟨pq, q1, hq1, rfl, e4⟩ := a5.get i x hi
      have hqm : q1 ∈ fm.qs := List.mem_of_getElem? hq1
      have hkn := (ok.qb q1 hqm).1
      rw [hN] at hkn
      have hq4 := sm2 _ _ e4
      rw [take_succ' hq1]
      have hg := fun k : Int => DGet.k (k := Sum.inl k) hdm2
      have no : (q1.2.2.1 ∈ S' → q1.2.2.2 ∈ S' → q1.1 ∈ S') → ∃ (S'' : List Int) (m'' : List (Key × V)) (fl'' : Bool) (w3 w4 w5 w6 : Option V), [some (V.ref a), some (.ref d), some (.bl fl'), some (.int q1.1), some (.str q1.2.1), some (.int q1.2.2.1), some (.int q1.2.2.2)] = [some (.ref a), some (.ref d), some (.bl fl''), w3, w4, w5, w6] ∧ Same H H2 ∧ H2 d = some (.dK m'') ∧ m''.map (·.1) = S''.map Sum.inl ∧
          (∀ e ∈ fm.ts, e ∈ S'') ∧ (∀ k ∈ S'', LvQ fm k) ∧ S''.length + outN N S'' ≤ 70 + N ∧ (fl'' = false → S'' = S ∧ ShutQ (fm.qs.take i ++ [q1]) S) ∧ (fl'' = true → outN N S'' + 1 ≤ outN N S) := fun hc => by
        refine ⟨S', m', fl', _, _, _, _, rfl, sm2, hdm2, kn2, hen2, hsd2, hsz2, fun hf => ?_, hf2⟩
        obtain ⟨rfl, h2⟩ := hf1 hf
        refine ⟨rfl, fun z hz => ?_⟩
        rcases List.mem_append.mp hz with hz | hz
        · exact h2 z hz
        · rw [List.mem_singleton.mp hz]
          exact hc
      refine ⟨pq, _, rfl, SqT.of hq4, rfl, _, _, rfl, _, _, rfl, _, _, rfl, _, _, rfl, rfl, ?_⟩
      refine ⟨_, rfl, _, rfl, d, _, rfl, hg q1.1, _, rfl, ?_⟩
      rw [DI.has kn2]
      by_cases k1 : q1.1 ∈ S'
      · rw [decide_eq_true k1]
        exact iteF (iteF (no fun _ _ => k1))
      rw [decide_eq_false k1]
      refine iteT ⟨_, rfl, _, rfl, d, _, rfl, hg q1.2.2.1, _, rfl, ?_⟩
      rw [DI.has kn2]
      by_cases k2 : q1.2.2.1 ∈ S'
      · rw [decide_eq_true k2]
        refine iteT ⟨_, rfl, _, rfl, d, _, rfl, hg q1.2.2.2, _, rfl, ?_⟩
        rw [DI.has kn2]
        by_cases k3 : q1.2.2.2 ∈ S'
        · rw [decide_eq_true k3]
          have hml : m'.length < sizeLine := by
            rw [keys_len kn2]
            exact len1000' (by (first | lia | omega))
          refine iteT ⟨_, rfl, _, rfl, d, _, rfl, DPut.k (k := Sum.inl q1.1) hdm2 hml, ?_⟩
          have hless := outN_put hkn.1 hkn.2 k1
          have kn3 := DI.put kn2 q1.1 (V.bl true)
          rw [if_neg k1] at kn3
          refine ⟨S' ++ [q1.1], _, true, _, _, _, _, rfl, sm2.upd_new hd0, upd_same, kn3, fun e he => List.mem_append_left _ (hen2 e he), fun k hk => ?_, ?_, fun z => (nomatch z), fun _ => ?_⟩
          · rcases List.mem_append.mp hk with hk | hk
            · exact hsd2 k hk
            · rw [List.mem_singleton.mp hk]
              exact .r hqm (hsd2 _ k2) (hsd2 _ k3)
          · rw [List.length_append, List.length_singleton]
            (first | lia | omega)
          · cases fl' with
            | true => have := hf2 rfl; (first | lia | omega)
            | false => obtain ⟨rfl, _⟩ := hf1 rfl; exact hless
        · rw [decide_eq_false k3]
          exact iteF (no fun _ z => absurd z k3)
      · rw [decide_eq_false k2]
        exact iteF (iteF (no fun z => absurd z k2))
    · rintro σ H2 ⟨S', m', fl', v3, v4, v5, v6, rfl, sm2, hdm2, kn2, hen2, hsd2, hsz2, hf1, hf2⟩
      rw [zfl, List.take_length] at hf1
      refine ⟨_, ?_, S', m', fl', v3, v4, v5, v6, rfl, sm2, hdm2, kn2, hen2, hsd2, hsz2, rfl, fun hf => ?_⟩
      · cases fl' with
        | true => have := hf2 rfl; rw [if_pos rfl]; (first | lia | omega)
        | false => obtain ⟨rfl, _⟩ := hf1 rfl; rw [if_neg (by decide), if_pos rfl]; (first | lia | omega)
      · obtain ⟨rfl, h⟩ := hf1 hf
        exact h
/-- the loop over the rules, under way -/
def IniI (a p0 dl : Addr) (H7 : Hp) (dw : Addr) (R : List Srd.Qd) (cc : Nat) (σ : St) (H : Hp) : Prop := ∃ (v3 v4 v5 v6 : Option V) (m : List (Key × V)) (D : Int → Option Addr) (mk : Int → List (Key × V)) (tf : Int → List Str) (Lf : Int → Str → Option Addr), σ = [some (.ref a), some (.ref p0), some (.ref dl), v3, v4, v5, v6] ∧ WS H7 H dw m D mk tf Lf (wayL R) cc ∧ ∀ k t l, Lf k t = some l → wayL R k t ≠ []
set_option maxHeartbeats 4000000 in
theorem ok_Reader___init__ {C : Addr} (B : ∀ x ∈ blts, mg x = none) (c : RdC K C) (g_live_kinds : Has P w K mg base "live_kinds" ["form"] 1 (spLiveR K)) (F : Fun K "__init__" "Reader.__init__" s_Reader___init__ f fd) : FnOk P w K mg base CX0 2 f fd ["self", "form"] (spRInit K C) := by
  refine F.ok sc_Reader___init__ (fun vs H Q E h => ?_) (fun cdv A outer s H vs Q E hr h => ?_)
  · obtain ⟨a, p, dx, fm, rfl, _⟩ := h
    rfl
  obtain ⟨a, p0, dx, fm, rfl, hA, hF, ok, q⟩ := h
  obtain ⟨f1, f2, f3, zf, a1, a2, a3, a4, a5⟩ := id hF
  have hu1 : (A.deeper (PyProof.Rows.envOfC (Str.ofString "Reader.__init__") (defScope s_Reader___init__) s.heap.objs.size f cdv)).units + 1 < cLine := by have := hr.un; (first | lia | omega)
  have na : ∀ b xs, H b = some (.tup xs) → b ≠ a := fun b xs e z => by rw [z, hA] at e; cases e
  have htl := ok.tl
  have hhl := ok.hl
  have hql := ok.ql
  have hzf := a5.length
  refine ⟨_, (pss_cons (ps_set (i := 2) sc_Reader___init__.nd rfl (Or.inr rfl) (pe_has g_live_kinds hr rfl (pa_cons (pv 1) pa_nil)))
    (pss_cons (ps_fld (pv 0) (pv 1) rfl)
    (pss_cons (ps_fld (pv 0) (pe_callTy (call_dict_list rfl) rfl (B "dict" (by decide)) bt_dict (pa_cons (pe_comp (cl := []) ["end"] [] (pi_tup (pe_ix ix_tup (pv 1) pe_int (fun _ _ => rfl))) (fun _ _ _ _ => (pg_name (i := 0) nd1 rfl (Or.inl rfl))) (fun _ _ _ _ => (pe_tup (pa_cons (pv 0) (pa_cons pe_bl pa_nil)))) rfl rfl (by decide) rfl (by decide) (fun _ _ h => nomatch h) (nofree (by decide)) (fun _ _ h => nomatch h) (fun _ => rfl)) pa_nil)) rfl)
    (pss_cons (ps_fld (pv 0) pe_dnewK rfl)
    (pss_cons (ps_for PassesOwn.never rfl (pi_tup (pe_ix ix_tup (pv 1) pe_int (fun _ _ => rfl))) (pg_tup rfl (pgs_cons (pg_name (i := 3) sc_Reader___init__.nd rfl (Or.inl rfl)) (pgs_cons (pg_name (i := 4) sc_Reader___init__.nd rfl (Or.inl rfl)) (pgs_cons (pg_name (i := 5) sc_Reader___init__.nd rfl (Or.inl rfl)) (pgs_cons (pg_name (i := 6) sc_Reader___init__.nd rfl (Or.inl rfl)) pgs_nil)))))
      (pss_one (ps_if (PW.pt (pw_and (pt_cmp (pc_din hu1 (pv 5) (pv 2))) (pw_and1 (pt_cmp (pc_din hu1 (pv 6) (pv 2))))))
          (pss_one (ps_expr (pe_bm PySem.F.plainAttrs_list PySem.F.slot_list_append PySem.F.type_list_append mt_append (pe_dsetd (pe_dsetd (pe_fld (pv 0) rfl) (pv 3) pe_dnewK ⟨rfl, rfl, rfl, rfl⟩) (pv 4) (pe_lst pa_nil) ⟨rfl, rfl, rfl, rfl⟩) (pa_cons (pe_tup (pa_cons (pv 5) (pa_cons (pv 6) pa_nil))) pa_nil))))
          pss_nil)))
    (pss_cons (ps_fld (pv 0) (pe_lst (pa_cons (pe_comp_if (cl := _) ["start"] [("alive", 2)] (pi_tup (pe_ix ix_tup (pv 1) pe_int (fun _ _ => rfl))) (fun _ _ _ _ => (pg_name (i := 0) (show List.Nodup (["start", "alive"] : List Str) by decide) rfl (Or.inl rfl))) (fun _ _ _ _ => (pt_cmp (pc_din hu1 (pv 0) (pv 1)))) (fun _ _ _ _ => (pe_tup (pa_cons (pv 0) (pa_cons (pv 0) pa_nil)))) rfl rfl (by decide) rfl (by decide) (cap_cl (by (repeat' first | exact List.forall_mem_nil _ | refine List.forall_mem_cons.mpr ⟨?_, ?_⟩) <;> rfl)) (cap_has (by (repeat' first | exact List.forall_mem_nil _ | refine List.forall_mem_cons.mpr ⟨?_, ?_⟩) <;> first | (intro h; exact ⟨_, rfl⟩) | (intro h; exact absurd h (by decide)))) (fun _ => by (repeat' first | exact List.forall_mem_nil _ | refine List.forall_mem_cons.mpr ⟨?_, ?_⟩) <;> exact ⟨rfl, rfl, Or.inl rfl⟩) (fun _ => rfl)) pa_nil)) rfl)
    (pss_one (ps_fld (pv 0) (pe_lst pa_nil) rfl)))))))), ?_⟩
  refine ⟨_, rfl, p0, fm, rfl, hF, ok, fun dl S H1 s1 hdl ⟨ml, e1, kl⟩ hSl hS => ?_⟩
  have ndl : dl ≠ a := fun z => by rw [z, hA] at hdl; cases hdl
  -- self.form
  refine ⟨_, rfl, _, rfl, a, C, dx, _, rfl, s1 _ _ hA, c.cls, c.n1, by decide, ?_⟩
  have k2 : ∀ b o, b ≠ a → H1 b = some o → (upd H1 a (.ins C dx (putF "form" (V.ref p0) []))) b = some o := fun b o hb e => by rw [upd_ne hb]; exact e
  have x2 : (upd H1 a (.ins C dx (putF "form" (V.ref p0) []))) a = some (.ins C dx [("form", .ref p0)]) := by rw [upd_same]; rfl
  generalize upd H1 a (.ins C dx (putF "form" (V.ref p0) [])) = H2 at k2 x2 ⊢
  have k02 : ∀ b o, b ≠ a → H b = some o → H2 b = some o := fun b o hb e => k2 b o hb (s1 _ _ e)
  -- self.final
  refine ⟨_, rfl, p0, _, 2, _, rfl, rfl, SqT.of (k02 _ _ (na _ _ a1) a1), rfl, f2, rfl, ⟨_, SqT.of (k02 _ _ (na _ _ a3) a3)⟩, fun pl hpl => comp_tup (K := K) (a := f2) (p := pl) (xs := fm.ts.map V.int) (fun i ys σ H3 => ∃ v0 : Option V, σ = [v0] ∧ Same H2 H3 ∧ H3 pl = some (.lst ys) ∧ PT H3 ys (fm.ts.take i))
    ⟨none, rfl, Same.new hpl, upd_same, .nil⟩ ?_ ?_ ?_⟩
  · rintro i ys σ H3 _ ⟨v0, _, sm, h, _⟩
    exact ⟨SqT.of (sm _ _ (k02 _ _ (na _ _ a3) a3)), h⟩
  · rintro i ys x σ H3 hi hx ⟨v0, rfl, sm, hp, hz⟩
    rw [List.getElem?_map] at hx
    obtain ⟨e, he, rfl⟩ := Option.map_eq_some_iff.mp hx
    refine ⟨_, rfl, by show (2 : Nat) ≤ sizeLine; decide, fun t ht0 => ?_⟩
    have s2 : Same H3 (upd H3 t (.tup [V.int e, .bl true])) := Same.new ht0
    refine ⟨s2 _ _ hp, len1000' (by rw [hz.length, List.length_take]; (first | lia | omega)), CW.next hi ⟨_, rfl, (sm.trans s2).upd_new hpl, upd_same, ?_⟩⟩
    rw [take_succ' he]
    have hz2 : PT (upd H3 t (.tup [V.int e, .bl true])) (ys ++ [.ref t]) (fm.ts.take i ++ [e]) := PT.snoc upd_same (hz.keep fun b xs e => s2 _ _ e)
    exact hz2.keep (tup_upd (s2 _ _ hp))
  rintro ys σ H3 ⟨v0, rfl, s3, hp, hz⟩
  rw [List.length_map, List.take_length] at hz
  refine ⟨pl, _, fm.ts.map kB, rfl, SqL.of hp, by rw [hz.length]; (first | lia | omega), hz.pairs, fun df hdf => ?_⟩
  obtain ⟨S0, kn0, hS0⟩ := di_all fm.ts [] [] rfl
  have kn0' : (putAll (fm.ts.map kB)).map (·.1) = S0.map Sum.inl := kn0
  generalize putAll (fm.ts.map kB) = m0 at kn0' ⊢
  have hS0' : ∀ x, x ∈ S0 ↔ x ∈ fm.ts := fun x => (hS0 x).trans ⟨fun z => z.elim (fun z => nomatch z) id, .inr⟩
  have s4 : Same H2 (upd H3 df (.dK m0)) := s3.upd_new (s3.free hdf)
  have x4 : (upd H3 df (.dK m0)) df = some (.dK m0) := upd_same
  have ndf : df ≠ a := fun z => by
    have := s3.free hdf
    rw [z, x2] at this
    cases this
  generalize upd H3 df (.dK m0) = H4 at s4 x4 ⊢
  refine ⟨_, rfl, a, C, dx, _, rfl, s4 _ _ x2, c.cls, c.n2, (show 1 < 1000 by decide), ?_⟩
  have k5 : ∀ b o, b ≠ a → H4 b = some o → (upd H4 a (.ins C dx (putF "final" (V.ref df) [("form", .ref p0)]))) b = some o := fun b o hb e => by rw [upd_ne hb]; exact e
  have x5 : (upd H4 a (.ins C dx (putF "final" (V.ref df) [("form", .ref p0)]))) a = some (.ins C dx [("form", .ref p0), ("final", .ref df)]) := by rw [upd_same]; rfl
  generalize upd H4 a (.ins C dx (putF "final" (V.ref df) [("form", .ref p0)])) = H5 at k5 x5 ⊢
  -- self.ways
  refine fun dw hdw => ?_
  have ndw : dw ≠ a := fun z => by rw [z, x5] at hdw; cases hdw
  refine ⟨_, rfl, a, C, dx, [("form", .ref p0), ("final", .ref df)], rfl, (by rw [upd_ne ndw.symm]; exact x5), c.cls, c.n3, (show 2 < 1000 by decide), ?_⟩
  have k7 : ∀ b o, b ≠ a → H5 b = some o → (upd (upd H5 dw (.dK [])) a (.ins C dx (putF "ways" (V.ref dw) [("form", .ref p0), ("final", .ref df)]))) b = some o := fun b o hb e => by
    rw [upd_ne hb, upd_ne (ne_of_none e hdw)]
    exact e
  have x7 : (upd (upd H5 dw (.dK [])) a (.ins C dx (putF "ways" (V.ref dw) [("form", .ref p0), ("final", .ref df)]))) a = some (.ins C dx [("form", .ref p0), ("final", .ref df), ("ways", .ref dw)]) := by rw [upd_same]; rfl
  have y7 : (upd (upd H5 dw (.dK [])) a (.ins C dx (putF "ways" (V.ref dw) [("form", .ref p0), ("final", .ref df)]))) dw = some (.dK []) := by rw [upd_ne ndw]; exact upd_same
  generalize upd (upd H5 dw (.dK [])) a (.ins C dx (putF "ways" (V.ref dw) [("form", .ref p0), ("final", .ref df)])) = H7 at k7 x7 y7 ⊢
  have k07 : ∀ b o, b ≠ a → H b = some o → H7 b = some o := fun b o hb e => k7 b o hb (k5 b o hb (s4 _ _ (k02 b o hb e)))
  have e7 : H7 dl = some (.dK ml) := k7 _ _ ndl (k5 _ _ ndl (s4 _ _ (k2 _ _ ndl e1)))
  have d7 : H7 df = some (.dK m0) := k7 _ _ ndf (k5 _ _ ndf x4)
  have ndd : dl ≠ dw := fun z => by
    have := k5 _ _ ndl (s4 _ _ (k2 _ _ ndl e1))
    rw [z, hdw] at this
    cases this
  have nfd : df ≠ dw := fun z => by
    have := k5 _ _ ndf x4
    rw [z, hdw] at this
    cases this
  have nt : ∀ b xs, H b = some (.tup xs) → b ≠ dw := fun b xs e z => by
    have := k07 _ _ (na _ _ e) e
    rw [z, y7] at this
    cases this
  have b1 := k07 _ _ (na _ _ a1) a1
  have b2 := k07 _ _ (na _ _ a2) a2
  have b4 := k07 _ _ (na _ _ a4) a4
  have b5 : QL H7 zf fm.qs := a5.keep fun b xs e => k07 _ _ (na _ _ e) e
  have nt7 : ∀ b xs, H7 b = some (.tup xs) → b ≠ dw := fun b xs e z => by rw [z, y7] at e; cases e
  have ws0 : WS H7 H7 dw [] (fun _ => none) (fun _ => []) (fun _ => []) (fun _ _ => none) (wayL (rlA S (fm.qs.take 0))) (2 * 0) := ⟨fun b o _ e => e, ⟨_, y7⟩, y7, Nat.zero_le _, fun _ => rfl, (fun _ _ z => nomatch z), fun _ _ _ => rfl, fun _ _ _ => rfl, (fun _ _ _ z => nomatch z), (fun _ _ _ z => nomatch z), (fun _ _ _ _ _ z => nomatch z)⟩
  refine ⟨_, rfl, p0, _, 3, _, rfl, rfl, SqT.of b1, rfl, f3, rfl, ⟨_, SqT.of b4⟩, for_tup (K := K) (a := f3) (xs := zf) (fun i σ H8 => IniI a p0 dl H7 dw (rlA S (fm.qs.take i)) (2 * i) σ H8)
    ⟨none, none, none, none, [], _, _, _, _, rfl, ws0, fun _ _ _ z => nomatch z⟩ ?_ ?_ ?_⟩
  · rintro i σ H8 _ ⟨_, _, _, _, _, _, _, _, _, _, ws, _⟩
    exact SqT.of (ws.kp _ _ (nt7 _ _ b4) b4)
  · rintro i x σ H8 hx ⟨v3, v4, v5, v6, m, D, mk, tf, Lf, rfl, ws, hne⟩
    obtain ⟨tq, q1, x1, rfl, x2'⟩ := b5.get i x hx
    have hil := (List.getElem?_eq_some_iff.mp x1).1
    have t2 := ws.kp _ _ (nt7 _ _ x2') x2'
    have e8 := ws.kp _ _ ndd e7
    have x8 := ws.kp _ _ ndw.symm x7
    have hml := ws.ml
    have skip : ¬ (q1.2.2.1 ∈ S ∧ q1.2.2.2 ∈ S) → rlA S (fm.qs.take (i + 1)) = rlA S (fm.qs.take i) := fun hno => by
      unfold rlA
      rw [take_succ' x1, List.filter_append, List.filter_cons, if_neg (by rw [Bool.and_eq_true, decide_eq_true_eq, decide_eq_true_eq]; exact hno), List.filter_nil, List.append_nil]
    have no : ¬ (q1.2.2.1 ∈ S ∧ q1.2.2.2 ∈ S) → IniI a p0 dl H7 dw (rlA S (fm.qs.take (i + 1))) (2 * (i + 1)) [some (V.ref a), some (.ref p0), some (.ref dl), some (V.int q1.1), some (V.str q1.2.1), some (V.int q1.2.2.1), some (V.int q1.2.2.2)] H8 := fun hno => by
      rw [skip hno]
      exact ⟨_, _, _, _, m, D, mk, tf, Lf, rfl, { ws with ml := by (first | lia | omega), dk := fun k a e => by obtain ⟨z1, z2, z3, z4, z5⟩ := ws.dk k a e; exact ⟨z1, z2, z3, by (first | lia | omega), z5⟩ }, hne⟩
    refine ⟨tq, _, rfl, SqT.of t2, rfl, _, _, rfl, _, _, rfl, _, _, rfl, _, _, rfl, rfl, ?_⟩
    refine ⟨_, rfl, _, rfl, dl, _, rfl, DGet.k (k := Sum.inl q1.2.2.1) e8, _, rfl, ?_⟩
    rw [DI.has kl]
    refine ite2 (fun c1 => ?_) (fun c1 => iteF (no fun z => c1 (decide_eq_true z.1)))
    refine ⟨_, rfl, _, rfl, dl, _, rfl, DGet.k (k := Sum.inl q1.2.2.2) e8, _, rfl, ?_⟩
    rw [DI.has kl]
    refine ite2 (fun c2 => ?_) (fun c2 => no fun z => c2 (decide_eq_true z.2))
    have hrl : rlA S (fm.qs.take (i + 1)) = rlA S (fm.qs.take i) ++ [q1] := by
      unfold rlA
      rw [take_succ' x1, List.filter_append, List.filter_cons, if_pos (by rw [Bool.and_eq_true]; exact ⟨c1, c2⟩), List.filter_nil]
    rw [hrl]
    have hnew : ∀ k t, wayL (rlA S (fm.qs.take i) ++ [q1]) k t = wayL (rlA S (fm.qs.take i)) k t ++ if q1.1 = k ∧ q1.2.1 = t then [pr2 q1] else [] := wayL_snoc _ _
    -- behind both setdefaults
    have last : ∀ (H9 : Hp) (m : List (Key × V)) (D : Int → Option Addr) (mk : Int → List (Key × V)) (tf : Int → List Str) (Lf : Int → Str → Option Addr) (l : Addr), WS H7 H9 dw m D mk tf Lf (wayL (rlA S (fm.qs.take i))) (2 * (i + 1)) → Lf q1.1 q1.2.1 = some l → (∀ k t l, Lf k t = some l → (k = q1.1 ∧ t = q1.2.1) ∨ wayL (rlA S (fm.qs.take i)) k t ≠ []) → ∃ zs, H9 l = some (.lst zs) ∧ zs.length < 1000 ∧ ∀ pt, H9 pt = none → IniI a p0 dl H7 dw (rlA S (fm.qs.take i) ++ [q1]) (2 * (i + 1)) [some (V.ref a), some (.ref p0), some (.ref dl), some (V.int q1.1), some (V.str q1.2.1), some (V.int q1.2.2.1), some (V.int q1.2.2.2)] (upd (upd H9 pt (.tup [.int q1.2.2.1, .int q1.2.2.2])) l (.lst (zs ++ [.ref pt]))) := by
      intro H9 m D mk tf Lf l ws9 hl hne9
      obtain ⟨_, zs, z1, z2⟩ := ws9.ls _ _ _ hl
      have hzl : zs.length ≤ 100 := by
        rw [z2.length]
        refine Nat.le_trans (wayL_len ..) (Nat.le_trans (List.length_filter_le ..) ?_)
        rw [List.length_take]
        (first | lia | omega)
      refine ⟨zs, z1, by (first | lia | omega), fun pt hpt => ?_⟩
      have s9 : Same H9 (upd H9 pt (.tup [.int q1.2.2.1, .int q1.2.2.2])) := Same.new hpt
      refine ⟨_, _, _, _, m, D, mk, tf, Lf, rfl, (ws9.same s9).app (p := pr2 q1) hl (s9 _ _ z1) upd_same hnew, fun k t l' h => ?_⟩
      rw [hnew]
      rcases hne9 k t l' h with ⟨rfl, rfl⟩ | h
      · rw [if_pos ⟨rfl, rfl⟩]
        intro z
        have := congrArg List.length z
        rw [List.length_append] at this
        simp at this
      · intro z
        exact h (List.append_eq_nil_iff.mp z).1
    -- the inner setdefault
    have mid : ∀ (H9 : Hp) (m : List (Key × V)) (D : Int → Option Addr) (mk : Int → List (Key × V)) (tf : Int → List Str) (Lf : Int → Str → Option Addr) (d1 : Addr), WS H7 H9 dw m D mk tf Lf (wayL (rlA S (fm.qs.take i))) (2 * i + 1) → D q1.1 = some d1 → (∀ k t l, Lf k t = some l → wayL (rlA S (fm.qs.take i)) k t ≠ []) → H9 d1 = some (.dK (mk q1.1)) ∧ (mk q1.1).length < 1000 ∧ ∀ l0, H9 l0 = none →
        (∀ v, valV (mk q1.1) (Sum.inr q1.2.1) = some v → ∃ l, v = .ref l ∧ ∃ zs, (upd H9 l0 (.lst [])) l = some (.lst zs) ∧ zs.length < 1000 ∧ ∀ pt, (upd H9 l0 (.lst [])) pt = none → IniI a p0 dl H7 dw (rlA S (fm.qs.take i) ++ [q1]) (2 * (i + 1)) [some (V.ref a), some (.ref p0), some (.ref dl), some (V.int q1.1), some (V.str q1.2.1), some (V.int q1.2.2.1), some (V.int q1.2.2.2)] (upd (upd (upd H9 l0 (.lst [])) pt (.tup [.int q1.2.2.1, .int q1.2.2.2])) l (.lst (zs ++ [.ref pt])))) ∧
        (valV (mk q1.1) (Sum.inr q1.2.1) = none → ∃ zs, (upd (upd H9 l0 (.lst [])) d1 (.dK (putK (mk q1.1) (Sum.inr q1.2.1) (.ref l0)))) l0 = some (.lst zs) ∧ zs.length < 1000 ∧ ∀ pt, (upd (upd H9 l0 (.lst [])) d1 (.dK (putK (mk q1.1) (Sum.inr q1.2.1) (.ref l0)))) pt = none → IniI a p0 dl H7 dw (rlA S (fm.qs.take i) ++ [q1]) (2 * (i + 1)) [some (V.ref a), some (.ref p0), some (.ref dl), some (V.int q1.1), some (V.str q1.2.1), some (V.int q1.2.2.1), some (V.int q1.2.2.2)] (upd (upd (upd (upd H9 l0 (.lst [])) d1 (.dK (putK (mk q1.1) (Sum.inr q1.2.1) (.ref l0)))) pt (.tup [.int q1.2.2.1, .int q1.2.2.2])) l0 (.lst (zs ++ [.ref pt])))) := by
      intro H9 m D mk tf Lf d1 ws9 hd1 hne9
      obtain ⟨z1, z2, z3, z4, z5⟩ := ws9.dk _ _ hd1
      have hkl : (mk q1.1).length = (tf q1.1).length := by have := congrArg List.length z3; simpa using this
      refine ⟨z2, by (first | lia | omega), fun l0 hl0 => ?_⟩
      have s9 : Same H9 (upd H9 l0 (.lst [])) := Same.new hl0
      have wsB := ws9.same s9
      constructor
      · intro v hv
        rw [z5] at hv
        obtain ⟨l, hl, rfl⟩ := Option.map_eq_some_iff.mp hv
        exact ⟨l, rfl, last _ m D mk tf Lf l { wsB with ml := by have := ws9.ml; (first | lia | omega), dk := fun k a e => by obtain ⟨z1, z2, z3, z4, z5⟩ := wsB.dk k a e; exact ⟨z1, z2, z3, by (first | lia | omega), z5⟩ } hl (fun k t l h => .inr (hne9 k t l h))⟩
      · intro hv
        rw [z5] at hv
        have hl : Lf q1.1 q1.2.1 = none := by
          cases h : Lf q1.1 q1.2.1 with
          | none => rfl
          | some l =>
            rw [h] at hv
            cases hv
        have f0 : H7 l0 = none := by
          cases h : H7 l0 with
          | none => rfl
          | some o =>
            by_cases hz : l0 = dw
            · rw [hz, ws9.hm] at hl0
              cases hl0
            · rw [ws9.kp _ _ hz h] at hl0
              cases hl0
        have wsC := wsB.newl hd1 hl upd_same f0 (fun k' t' h => by
          obtain ⟨_, zs, y1, _⟩ := ws9.ls k' t' l0 h
          rw [hl0] at y1
          cases y1)
        refine last _ _ _ _ _ _ l0 wsC ?_ (fun k t l h => ?_)
        · rw [if_pos ⟨rfl, rfl⟩]
        · by_cases hh : k = q1.1 ∧ t = q1.2.1
          · exact .inl hh
          · rw [if_neg hh] at h
            exact .inr (hne9 k t l h)
    refine ⟨_, rfl, a, C, dx, _, _, rfl, x8, c.cls, c.n3, rfl, dw, rfl, .inl ⟨m, .inl ws.hm⟩, _, rfl, fun d0 hd0 => ?_⟩
    have s8 : Same H8 (upd H8 d0 (.dK [])) := Same.new hd0
    have y8 : (upd H8 d0 (.dK [])) d0 = some (.dK []) := upd_same
    generalize upd H8 d0 (.dK []) = H9 at s8 y8 ⊢
    have ws9 := ws.same s8
    refine ⟨m, Sum.inl q1.1, ws9.hm, rfl, len1000' (by (first | lia | omega)), fun v hv => ?_, fun hn => ?_⟩
    · rw [ws.vm] at hv
      obtain ⟨d1, hd1, rfl⟩ := Option.map_eq_some_iff.mp hv
      obtain ⟨m1, m2, m3⟩ := mid H9 m D mk tf Lf d1 { ws9 with ml := by (first | lia | omega), dk := fun k a e => by obtain ⟨z1, z2, z3, z4, z5⟩ := ws9.dk k a e; exact ⟨z1, z2, z3, by (first | lia | omega), z5⟩ } hd1 hne
      refine ⟨d1, rfl, .inl ⟨_, .inl m1⟩, _, rfl, by decide, fun l0 hl0 => ⟨_, Sum.inr q1.2.1, by rw [upd_ne (ne_of_none m1 hl0)]; exact m1, rfl, len1000' (by (first | lia | omega)), fun v hv => ?_, fun hn => ?_⟩⟩
      · obtain ⟨l, rfl, zs, y1, y2, y3⟩ := (m3 l0 hl0).1 v hv
        exact ⟨.inl ⟨rfl, _, SqL.of y1⟩, _, rfl, _, rfl, by show (2 : Nat) ≤ sizeLine; decide, fun pt hpt => ⟨l, _, _, rfl, rfl, by rw [upd_ne (ne_of_none y1 hpt)]; exact y1, len1000' (by (first | lia | omega)), y3 pt hpt⟩⟩
      · obtain ⟨zs, y1, y2, y3⟩ := (m3 l0 hl0).2 hn
        exact ⟨.inl ⟨rfl, _, SqL.of y1⟩, _, rfl, _, rfl, by show (2 : Nat) ≤ sizeLine; decide, fun pt hpt => ⟨l0, _, _, rfl, rfl, by rw [upd_ne (ne_of_none y1 hpt)]; exact y1, len1000' (by (first | lia | omega)), y3 pt hpt⟩⟩
    · have hD : D q1.1 = none := by
        cases h : D q1.1 with
        | none => rfl
        | some l =>
          rw [ws.vm, h] at hn
          cases hn
      have f0 : H7 d0 = none := by
        cases h : H7 d0 with
        | none => rfl
        | some o =>
          by_cases hz : d0 = dw
          · rw [hz, ws.hm] at hd0
            cases hd0
          · rw [ws.kp _ _ hz h] at hd0
            cases hd0
      have wsN := ws9.newk hD y8 f0 (fun k' h => by
        obtain ⟨_, y1, _⟩ := ws.dk k' d0 h
        rw [hd0] at y1
        cases y1)
      obtain ⟨m1, m2, m3⟩ := mid _ _ _ _ _ _ d0 wsN (by rw [if_pos rfl]) hne
      refine ⟨d0, rfl, .inl ⟨_, .inl m1⟩, _, rfl, by decide, fun l0 hl0 => ⟨_, Sum.inr q1.2.1, by rw [upd_ne (ne_of_none m1 hl0)]; exact m1, rfl, len1000' (by (first | lia | omega)), fun v hv => ?_, fun hn => ?_⟩⟩
      · obtain ⟨l, rfl, zs, y1, y2, y3⟩ := (m3 l0 hl0).1 v hv
        exact ⟨.inl ⟨rfl, _, SqL.of y1⟩, _, rfl, _, rfl, by show (2 : Nat) ≤ sizeLine; decide, fun pt hpt => ⟨l, _, _, rfl, rfl, by rw [upd_ne (ne_of_none y1 hpt)]; exact y1, len1000' (by (first | lia | omega)), y3 pt hpt⟩⟩
      · obtain ⟨zs, y1, y2, y3⟩ := (m3 l0 hl0).2 hn
        exact ⟨.inl ⟨rfl, _, SqL.of y1⟩, _, rfl, _, rfl, by show (2 : Nat) ≤ sizeLine; decide, fun pt hpt => ⟨l0, _, _, rfl, rfl, by rw [upd_ne (ne_of_none y1 hpt)]; exact y1, len1000' (by (first | lia | omega)), y3 pt hpt⟩⟩
  · rintro σ H8 ⟨v3, v4, v5, v6, m, D, mk, tf, Lf, rfl, ws, hne⟩
    rw [hzf, List.take_length] at ws hne
    have x8 := ws.kp _ _ ndw.symm x7
    have e8 := ws.kp _ _ ndd e7
    have d8 := ws.kp _ _ nfd d7
    have k08 : ∀ b o, b ≠ a → b ≠ dw → H b = some o → H8 b = some o := fun b o h1 h2 e => ws.kp _ _ h2 (k07 b o h1 e)
    have c1 := ws.kp _ _ (nt7 _ _ b1) b1
    have c2 := ws.kp _ _ (nt7 _ _ b2) b2
    -- self.levels
    refine ⟨_, rfl, p0, _, 1, _, rfl, rfl, SqT.of c1, rfl, f1, rfl, ⟨_, SqT.of c2⟩, fun pc hpc => comp_tupT (K := K) (a := f1) (p := pc) (xs := fm.hs.map V.int) (fun i ys σ H9 => ∃ v0 : Option V, σ = [v0, some (.ref dl)] ∧ Same H8 H9 ∧ H9 pc = some (.lst ys) ∧ PL H9 ys (((fm.hs.take i).filter fun x => decide (x ∈ S)).map dup))
      ⟨none, rfl, Same.new hpc, upd_same, .nil⟩ ?_ ?_ ?_⟩
    · rintro i ys σ H9 _ ⟨v0, _, sm, h, _⟩
      exact ⟨SqT.of (sm _ _ c2), h⟩
    · rintro i ys x σ H9 hi hx ⟨v0, rfl, sm, hp, hz⟩
      rw [List.getElem?_map] at hx
      obtain ⟨e, he, rfl⟩ := Option.map_eq_some_iff.mp hx
      have hlen : ((fm.hs.take i).filter fun x => decide (x ∈ S)).length ≤ 70 := Nat.le_trans (List.length_filter_le ..) (by rw [List.length_take]; (first | lia | omega))
      refine ⟨_, rfl, _, rfl, dl, _, rfl, DGet.k (k := Sum.inl e) (sm _ _ e8), _, rfl, ?_⟩
      rw [DI.has kl]
      by_cases ce : e ∈ S
      · rw [decide_eq_true ce]
        refine iteT ⟨_, rfl, _, rfl, by show (2 : Nat) ≤ sizeLine; decide, fun t ht0 => ?_⟩
        have s4 : Same H9 (upd H9 t (.tup [V.int e, V.int e])) := Same.new ht0
        refine ⟨s4 _ _ hp, len1000' (by rw [hz.length, List.length_map]; (first | lia | omega)), CW.next hi ⟨_, rfl, (sm.trans s4).upd_new hpc, upd_same, ?_⟩⟩
        rw [take_succ' he, List.filter_append, List.filter_cons, if_pos (decide_eq_true ce), List.filter_nil, List.map_append]
        have hz2 : PL (upd H9 t (.tup [V.int e, V.int e])) (ys ++ [.ref t]) (((fm.hs.take i).filter fun x => decide (x ∈ S)).map dup ++ [dup e]) := PL.snoc (q := dup e) (show _ = some (tp (dup e)) from upd_same) (hz.keep fun b xs e => s4 _ _ e)
        exact hz2.keep (tup_upd (s4 _ _ hp))
      · rw [decide_eq_false ce]
        refine iteF (CW.next hi ⟨_, rfl, sm, hp, ?_⟩)
        rw [take_succ' he, List.filter_append, List.filter_cons, if_neg (by rw [decide_eq_false ce]; decide), List.filter_nil, List.append_nil]
        exact hz
    rintro ys σ H9 ⟨v0, rfl, s9, hp, hz⟩
    rw [List.length_map, List.take_length] at hz
    have hpc8 := hpc
    refine ⟨by show (1 : Nat) ≤ sizeLine; decide, fun L hL => ?_⟩
    have hL8 : H8 L = none := s9.free hL
    have nLa : L ≠ a := fun z => by rw [z, x8] at hL8; cases hL8
    have nLp : L ≠ pc := fun z => by rw [z, hp] at hL; cases hL
    have npa : pc ≠ a := fun z => by rw [z, x8] at hpc; cases hpc
    have s10 : Same H9 (upd H9 L (.lst [.ref pc])) := Same.new hL
    have x10 : (upd H9 L (.lst [.ref pc])) L = some (.lst [.ref pc]) := upd_same
    generalize upd H9 L (.lst [.ref pc]) = H10 at s10 x10 ⊢
    have t10 := s9.trans s10
    refine ⟨_, rfl, a, C, dx, _, rfl, t10 _ _ x8, c.cls, c.n4, (show 3 < 1000 by decide), ?_⟩
    have k11 : ∀ b o, b ≠ a → H10 b = some o → (upd H10 a (.ins C dx (putF "levels" (V.ref L) [("form", .ref p0), ("final", .ref df), ("ways", .ref dw)]))) b = some o := fun b o hb e => by rw [upd_ne hb]; exact e
    have x11 : (upd H10 a (.ins C dx (putF "levels" (V.ref L) [("form", .ref p0), ("final", .ref df), ("ways", .ref dw)]))) a = some (.ins C dx [("form", .ref p0), ("final", .ref df), ("ways", .ref dw), ("levels", .ref L)]) := by rw [upd_same]; rfl
    generalize upd H10 a (.ins C dx (putF "levels" (V.ref L) [("form", .ref p0), ("final", .ref df), ("ways", .ref dw)])) = H11 at k11 x11 ⊢
    -- self.tags
    refine ⟨by decide, fun T hT => ?_⟩
    have nTa : T ≠ a := fun z => by rw [z, x11] at hT; cases hT
    have nLT : L ≠ T := fun z => by
      have := k11 _ _ nLa x10
      rw [z, hT] at this
      cases this
    have xa : (upd H11 T (.lst [])) a = some (.ins C dx [("form", .ref p0), ("final", .ref df), ("ways", .ref dw), ("levels", .ref L)]) := by
      rw [upd_ne nTa.symm]
      exact x11
    refine ⟨_, rfl, a, C, dx, _, rfl, xa, c.cls, c.n5, (show 4 < 1000 by decide), ?_⟩
    have k13 : ∀ b o, b ≠ a → H11 b = some o → (upd (upd H11 T (.lst [])) a (.ins C dx (putF "tags" (V.ref T) [("form", .ref p0), ("final", .ref df), ("ways", .ref dw), ("levels", .ref L)]))) b = some o := fun b o hb e => by
      rw [upd_ne hb, upd_ne (ne_of_none e hT)]
      exact e
    have x13 : (upd (upd H11 T (.lst [])) a (.ins C dx (putF "tags" (V.ref T) [("form", .ref p0), ("final", .ref df), ("ways", .ref dw), ("levels", .ref L)]))) a = some (.ins C dx (rdF p0 df dw L T)) := by rw [upd_same]; rfl
    have y13 : (upd (upd H11 T (.lst [])) a (.ins C dx (putF "tags" (V.ref T) [("form", .ref p0), ("final", .ref df), ("ways", .ref dw), ("levels", .ref L)]))) T = some (.lst []) := by rw [upd_ne nTa]; exact upd_same
    generalize upd (upd H11 T (.lst [])) a (.ins C dx (putF "tags" (V.ref T) [("form", .ref p0), ("final", .ref df), ("ways", .ref dw), ("levels", .ref L)])) = H13 at k13 x13 y13 ⊢
    have k813 : ∀ b o, b ≠ a → H8 b = some o → H13 b = some o := fun b o hb e => k13 b o hb (k11 b o hb (t10 _ _ e))
    have hT8 : H8 T = none := by
      cases h : H8 T with
      | none => rfl
      | some o =>
        rw [k11 _ _ nTa (t10 _ _ h)] at hT
        cases hT
    have nta : ∀ b xs, H8 b = some (.tup xs) → b ≠ a := fun b xs e z => by rw [z, x8] at e; cases e
    have wi := ws.out (ex := [L, T]) (fun b hb => by
      rcases List.mem_cons.mp hb with rfl | hb
      · exact hL8
      · rw [List.mem_singleton.mp hb]
        exact hT8) (by (first | lia | omega)) hne
    -- what was free at the start
    have free : ∀ b, b ≠ a → H8 b = none → b ≠ dw → H b = none := fun b hb h hd => by
      cases e : H b with
      | none => rfl
      | some o =>
        rw [k08 b o hb hd e] at h
        cases h
    have nLd : L ≠ dw := fun z => by rw [z, ws.hm] at hL8; cases hL8
    have nTd : T ≠ dw := fun z => by rw [z, ws.hm] at hT8; cases hT8
    have hdwH : H dw = none := by
      cases e : H dw with
      | none => rfl
      | some o =>
        have := k5 dw o ndw (s4 _ _ (k02 dw o ndw e))
        rw [hdw] at this
        cases this
    have hdwne : ∀ b o, H b = some o → b ≠ dw := fun b o e => ne_of_none e hdwH
    refine q H13 L T (rlA S fm.qs) (fm.hs.filter fun x => decide (x ∈ S)) (fun b o hb e => k813 b o hb (k08 b o hb (hdwne b o e) e)) (free L nLa hL8 nLd) (free T nTa hT8 nTd) (ok.hs.filter _) (fun x => ?_) ⟨ok, rlA_ok hS, ⟨rfl, fun l hl => ?_, fun l hl p hp => ?_⟩, nLT, (fun _ h => nomatch h), dx, p0, df, dw, S0, [.ref pc], x13, ?_, ⟨m0, k813 _ _ ndf d8, kn0'⟩, hS0', ?_, k13 _ _ nLa (k11 _ _ nLa x10), ?_, y13⟩
    · rw [List.mem_filter, decide_eq_true_eq, hS]
    · rw [List.mem_singleton.mp hl]
      exact riseP_dup (ok.hs.filter _)
    · rw [List.mem_singleton.mp hl] at hp
      obtain ⟨x, hx, rfl⟩ := List.mem_map.mp hp
      have := ok.hb x (List.mem_filter.mp hx).1
      exact ⟨this, this⟩
    · exact ⟨f1, f2, f3, zf, k813 _ _ (na _ _ a1) c1, k813 _ _ (na _ _ a2) c2, k813 _ _ (na _ _ a3) (k08 _ _ (na _ _ a3) (hdwne _ _ a3) a3), k813 _ _ (na _ _ a4) (k08 _ _ (na _ _ a4) (hdwne _ _ a4) a4), a5.keep fun b xs e => k813 _ _ (na _ _ e) (k08 _ _ (na _ _ e) (hdwne _ _ e) e)⟩
    · obtain ⟨w1, m', D', w2, w3, w4, w5⟩ := wi
      refine ⟨w1, m', D', k813 _ _ ndw w2, w3, w4, fun k a' e => ?_⟩
      obtain ⟨u1, mk', ts', u2, u3, u4, u5⟩ := w5 k a' e
      refine ⟨u1, mk', ts', k813 _ _ (fun z => by rw [z, x8] at u2; cases u2) u2, u3, u4, fun t => ?_⟩
      rcases u5 t with h | ⟨l, zs, g1, g2, g3, g4, g5⟩
      · exact .inl h
      · exact .inr ⟨l, zs, g1, g2, k813 _ _ (fun z => by rw [z, x8] at g3; cases g3) g3, g4.keep fun b xs e => k813 _ _ (nta _ _ e) e, g5⟩
    · have npT : pc ≠ T := fun z => by
        have := k11 _ _ npa (s10 _ _ hp)
        rw [z, hT] at this
        cases this
      refine .cons ⟨pc, ys, rfl, notin2 nLp.symm npT, k13 _ _ npa (k11 _ _ npa (s10 _ _ hp)), hz.keep fun b xs e => ?_⟩ .nil
      have nb : b ≠ a := fun z => by rw [z, s9 _ _ x8] at e; cases e
      exact k13 _ _ nb (k11 _ _ nb (s10 _ _ e))
/-- parts under way: rows and open tags -/
structure PgS (H H1 : Hp) (R T : Addr) (as : List Addr) (gs : List Pa) (ts : List Str) : Prop where
  sm : Same H H1
  hT : H1 T = some (.lst ((ts.map V.str).reverse))
  hR : H1 R = some (.lst ((as.map V.ref).reverse))
  rows : Paired (fun a g => ∃ xs, H1 a = some (.lst xs) ∧ RepP H1 xs g) as gs
  nd : (R :: T :: as).Nodup
  fr : ∀ b ∈ R :: T :: as, H b = none
  gl : gs.length = ts.length + 1
section
variable {H H1 : Hp} {R T : Addr} {as : List Addr} {gs : List Pa} {ts : List Str}
theorem rowsP_there {H1 : Hp} : ∀ {as : List Addr} {gs : List Pa}, Paired (fun a g => ∃ xs, H1 a = some (.lst xs) ∧ RepP H1 xs g) as gs → ∀ b ∈ as, ∃ o, H1 b = some o
  | _, _, .cons ⟨xs, h, _⟩ t, b, hb => by
    rcases List.mem_cons.mp hb with rfl | hb
    · exact ⟨_, h⟩
    · exact rowsP_there t b hb
theorem rowsP_mono {H1 H2 : Hp} (k : TK H1 H2) : ∀ {as : List Addr} {gs : List Pa}, Paired (fun a g => ∃ xs, H1 a = some (.lst xs) ∧ RepP H1 xs g) as gs → (∀ b ∈ as, ∀ o, H1 b = some o → H2 b = some o) → Paired (fun a g => ∃ xs, H2 a = some (.lst xs) ∧ RepP H2 xs g) as gs
  | _, _, .nil, _ => .nil
  | _, _, .cons ⟨xs, h, r⟩ t, kb => .cons ⟨xs, kb _ (List.mem_cons_self ..) _ h, r.mono k⟩ (rowsP_mono k t fun b hb => kb b (List.mem_cons_of_mem _ hb))
theorem PgS.nR (h : PgS H H1 R T as gs ts) : ∀ b ∈ as, b ≠ R := fun b hb e => (List.nodup_cons.mp h.nd).1 (by rw [← e]; exact List.mem_cons_of_mem _ hb)
theorem PgS.nT (h : PgS H H1 R T as gs ts) : ∀ b ∈ as, b ≠ T := fun b hb e => (List.nodup_cons.mp (List.nodup_cons.mp h.nd).2).1 (by rw [← e]; exact hb)
theorem PgS.RT (h : PgS H H1 R T as gs ts) : R ≠ T := fun e => (List.nodup_cons.mp h.nd).1 (by rw [e]; exact List.mem_cons_self ..)
theorem PgS.start {a0 R T : Addr} (h0 : H a0 = none) (hR : (upd H a0 (.lst [])) R = none) (hT : (upd (upd H a0 (.lst [])) R (.lst [.ref a0])) T = none) : PgS H (upd (upd (upd H a0 (.lst [])) R (.lst [.ref a0])) T (.lst [])) R T [a0] [.nil] [] := by
  obtain ⟨nR0, hR'⟩ := upd_none hR
  obtain ⟨nTR, hT2⟩ := upd_none hT
  obtain ⟨nT0, hT'⟩ := upd_none hT2
  refine ⟨((Same.new h0).upd_new hR').upd_new hT', upd_same, ?_, .cons ⟨[], ?_, .nil⟩ .nil, ?_, ?_, rfl⟩
  · rw [upd_ne nTR.symm]
    exact upd_same
  · rw [upd_ne nT0.symm, upd_ne nR0.symm]
    exact upd_same
  · simp [nTR.symm, nR0, nT0]
  · intro b hb
    simp only [List.mem_cons, List.not_mem_nil, or_false] at hb
    rcases hb with rfl | rfl | rfl
    · exact hR'
    · exact hT'
    · exact h0
theorem PgS.opened {wd : Str} {l : Addr} (h : PgS H H1 R T as gs ts) (hl : (upd H1 T (.lst ((ts.map V.str).reverse ++ [.str wd]))) l = none) : PgS H (upd (upd (upd H1 T (.lst ((ts.map V.str).reverse ++ [.str wd]))) l (.lst [])) R (.lst ((as.map V.ref).reverse ++ [.ref l]))) R T (l :: as) (.nil :: gs) (wd :: ts) := by
  obtain ⟨nlT, hl1⟩ := upd_none hl
  have nlR : R ≠ l := ne_of_none h.hR hl1
  have hRT := h.RT
  have hRb : (upd (upd H1 T (.lst ((ts.map V.str).reverse ++ [.str wd]))) l (.lst [])) R = some (.lst (as.map V.ref).reverse) := by
    rw [upd_ne nlR, upd_ne hRT]
    exact h.hR
  have tk : TK H1 (upd (upd (upd H1 T (.lst ((ts.map V.str).reverse ++ [.str wd]))) l (.lst [])) R (.lst ((as.map V.ref).reverse ++ [.ref l]))) := ((TK.lst h.hT).trans (TK.new hl)).trans (TK.lst hRb)
  have nla : l ∉ as := fun hb => by
    obtain ⟨o, ho⟩ := rowsP_there h.rows l hb
    rw [hl1] at ho
    cases ho
  obtain ⟨ndR, ndT⟩ := List.nodup_cons.mp h.nd
  obtain ⟨ndT', ndA⟩ := List.nodup_cons.mp ndT
  refine ⟨((h.sm.upd_new (h.fr T (by simp))).upd_new (h.sm.free hl1)).upd_new (h.fr R (by simp)), ?_, ?_, .cons ⟨[], ?_, .nil⟩ (rowsP_mono tk h.rows fun b hb o ho => ?_), ?_, ?_, by rw [List.length_cons, List.length_cons, h.gl]⟩
  · rw [upd_ne hRT.symm, upd_ne nlT.symm, upd_same, List.map_cons, List.reverse_cons]
  · rw [upd_same, List.map_cons, List.reverse_cons]
  · rw [upd_ne nlR.symm]
    exact upd_same
  · rw [upd_ne (h.nR b hb), upd_ne (ne_of_none ho hl1), upd_ne (h.nT b hb)]
    exact ho
  · refine List.nodup_cons.mpr ⟨fun h => ?_, List.nodup_cons.mpr ⟨fun h => ?_, List.nodup_cons.mpr ⟨nla, ndA⟩⟩⟩
    · rcases List.mem_cons.mp h with h | h
      · exact hRT h
      · rcases List.mem_cons.mp h with h | h
        · exact nlR h
        · exact ndR (List.mem_cons_of_mem _ h)
    · rcases List.mem_cons.mp h with h | h
      · exact nlT h.symm
      · exact ndT' h
  · intro b hb
    simp only [List.mem_cons] at hb
    rcases hb with rfl | rfl | rfl | hb
    · exact h.fr _ (by simp)
    · exact h.fr _ (by simp)
    · exact h.sm.free hl1
    · exact h.fr b (by simp [hb])
/-- the innermost row, one part longer -/
theorem PgS.put {b0 pt : Addr} {g0 q : Pa} {vs : List V} {a1 : List Addr} {g1 : List Pa} (h : PgS H H1 R T (b0 :: a1) (g0 :: g1) ts) (h0 : H1 b0 = some (.lst vs)) (r0 : RepP H1 vs g0) (s : Same H1 H2) (hq : RepP (upd H2 b0 (.lst (vs ++ [.ref pt]))) [.ref pt] q) : PgS H (upd H2 b0 (.lst (vs ++ [.ref pt]))) R T (b0 :: a1) (g0.app q :: g1) ts := by
  have tk : TK H1 (upd H2 b0 (.lst (vs ++ [.ref pt]))) := s.tk.trans (TK.lst (s _ _ h0))
  have nb : ∀ b ∈ a1, b ≠ b0 := fun b hb e => (List.nodup_cons.mp (List.nodup_cons.mp (List.nodup_cons.mp h.nd).2).2).1 (by rw [← e]; exact hb)
  have hrows := h.rows
  cases hrows with
  | cons r t =>
    refine ⟨(h.sm.trans s).upd_new (h.fr b0 (by simp)), ?_, ?_, .cons ⟨_, upd_same, (r0.mono tk).app hq⟩ (rowsP_mono tk t fun b hb o ho => ?_), h.nd, h.fr, h.gl⟩
    · rw [upd_ne (h.nT b0 (List.mem_cons_self ..)).symm]
      exact s _ _ h.hT
    · rw [upd_ne (h.nR b0 (List.mem_cons_self ..)).symm]
      exact s _ _ h.hR
    · rw [upd_ne (nb b hb)]
      exact s _ _ ho
/-- the innermost row taken off, and its tag -/
theorem PgS.two (h : PgS H H1 R T as gs (t :: ts)) : ∃ b0 b1 a2 g0 g1 g2 vs0 vs1, as = b0 :: b1 :: a2 ∧ gs = g0 :: g1 :: g2 ∧ H1 b0 = some (.lst vs0) ∧ RepP H1 vs0 g0 ∧ H1 b1 = some (.lst vs1) ∧ RepP H1 vs1 g1 ∧ H1 R = some (.lst (((b1 :: a2).map V.ref).reverse ++ [.ref b0])) ∧ H1 T = some (.lst ((ts.map V.str).reverse ++ [.str t])) := by
  have hgl := h.gl
  have hR := h.hR
  have hT := h.hT
  have hrows := h.rows
  cases gs with
  | nil => simp at hgl
  | cons g0 gs =>
    cases gs with
    | nil => simp at hgl
    | cons g1 gs =>
      cases hrows with
      | @cons b0 _ as _ r0 hrows =>
        cases hrows with
        | @cons b1 _ as _ r1 hrows =>
          obtain ⟨vs0, h00, r00⟩ := r0
          obtain ⟨vs1, h11, r11⟩ := r1
          refine ⟨b0, b1, as, g0, g1, gs, vs0, vs1, rfl, rfl, h00, r00, h11, r11, ?_, ?_⟩
          · rw [hR, List.map_cons, List.reverse_cons]
          · rw [hT, List.map_cons, List.reverse_cons]
/-- behind both pops: a shorter state -/
theorem PgS.popped {b0 : Addr} {g0 : Pa} {a1 : List Addr} {g1 : List Pa} {t : Str} {l : Addr} {vs0 : List V} (h : PgS H H1 R T (b0 :: a1) (g0 :: g1) (t :: ts)) (hl : (upd H1 R (.lst ((a1.map V.ref).reverse))) l = none) : PgS H (upd (upd (upd H1 R (.lst ((a1.map V.ref).reverse))) l (.tup vs0)) T (.lst ((ts.map V.str).reverse))) R T a1 g1 ts := by
  obtain ⟨nlR, hl1⟩ := upd_none hl
  have hRT := h.RT
  have nlT : T ≠ l := ne_of_none h.hT hl1
  have hTb : (upd (upd H1 R (.lst ((a1.map V.ref).reverse))) l (.tup vs0)) T = some (.lst (((t :: ts).map V.str).reverse)) := by
    rw [upd_ne nlT, upd_ne hRT.symm]
    exact h.hT
  have tk : TK H1 (upd (upd (upd H1 R (.lst ((a1.map V.ref).reverse))) l (.tup vs0)) T (.lst ((ts.map V.str).reverse))) := ((TK.lst h.hR).trans (TK.new hl)).trans (TK.lst hTb)
  have hgl := h.gl
  have hrows := h.rows
  have nRs := h.nR
  have nTs := h.nT
  cases hrows with
  | cons r rt =>
    obtain ⟨ndR, ndT⟩ := List.nodup_cons.mp h.nd
    obtain ⟨ndT', ndA⟩ := List.nodup_cons.mp ndT
    refine ⟨((h.sm.upd_new (h.fr R (by simp))).upd_new (h.sm.free hl1)).upd_new (h.fr T (by simp)), upd_same, ?_, rowsP_mono tk rt fun b hb o ho => ?_, ?_, fun b hb => h.fr b ?_, by simp at hgl ⊢; (first | lia | omega)⟩
    · rw [upd_ne hRT, upd_ne nlR.symm]
      exact upd_same
    · rw [upd_ne (nTs b (List.mem_cons_of_mem _ hb)), upd_ne (ne_of_none ho hl1), upd_ne (nRs b (List.mem_cons_of_mem _ hb))]
      exact ho
    · refine List.nodup_cons.mpr ⟨fun z => ndR ?_, List.nodup_cons.mpr ⟨fun z => ndT' (List.mem_cons_of_mem _ z), (List.nodup_cons.mp ndA).2⟩⟩
      rcases List.mem_cons.mp z with z | z
      · exact absurd z hRT
      · exact List.mem_cons_of_mem _ (List.mem_cons_of_mem _ z)
    · simp only [List.mem_cons] at hb ⊢
      rcases hb with h | h | h
      · exact .inl h
      · exact .inr (.inl h)
      · exact .inr (.inr (.inr h))
end
/-- a closed tag -/
theorem PgS.shutting {H H1 : Hp} {R T b0 b1 l l2 : Addr} {a2 : List Addr} {g0 g1 : Pa} {g2 : List Pa} {t : Str} {ts : List Str} {vs0 vs1 : List V} (h : PgS H H1 R T (b0 :: b1 :: a2) (g0 :: g1 :: g2) (t :: ts)) (h0 : H1 b0 = some (.lst vs0)) (r0 : RepP H1 vs0 g0) (h1 : H1 b1 = some (.lst vs1)) (r1 : RepP H1 vs1 g1)
    (hl : (upd H1 R (.lst ((b1 :: a2).map V.ref).reverse)) l = none) (hl2 : (upd (upd (upd H1 R (.lst ((b1 :: a2).map V.ref).reverse)) l (.tup vs0)) T (.lst (ts.map V.str).reverse)) l2 = none) :
    (upd H1 R (.lst ((b1 :: a2).map V.ref).reverse)) b0 = some (.lst vs0) ∧ (upd (upd H1 R (.lst ((b1 :: a2).map V.ref).reverse)) l (.tup vs0)) R = some (.lst ((a2.map V.ref).reverse ++ [.ref b1])) ∧ (upd (upd H1 R (.lst ((b1 :: a2).map V.ref).reverse)) l (.tup vs0)) b1 = some (.lst vs1) ∧ (upd (upd H1 R (.lst ((b1 :: a2).map V.ref).reverse)) l (.tup vs0)) T = some (.lst ((ts.map V.str).reverse ++ [.str t])) ∧
    (upd (upd (upd (upd H1 R (.lst ((b1 :: a2).map V.ref).reverse)) l (.tup vs0)) T (.lst (ts.map V.str).reverse)) l2 (.tup [.str "tag", .str t, .ref l])) b1 = some (.lst vs1) ∧
    PgS H (upd (upd (upd (upd (upd H1 R (.lst ((b1 :: a2).map V.ref).reverse)) l (.tup vs0)) T (.lst (ts.map V.str).reverse)) l2 (.tup [.str "tag", .str t, .ref l])) b1 (.lst (vs1 ++ [.ref l2]))) R T (b1 :: a2) (g1.app (.tag t g0 .nil) :: g2) ts := by
  have hp := h.popped (vs0 := vs0) hl
  obtain ⟨nlR, hl1⟩ := upd_none hl
  have n0R := h.nR b0 (by simp)
  have n1R := h.nR b1 (by simp)
  have n1T := h.nT b1 (by simp)
  have n1l : b1 ≠ l := ne_of_none h1 hl1
  have nTl : T ≠ l := ne_of_none h.hT hl1
  have h1p : (upd (upd H1 R (.lst ((b1 :: a2).map V.ref).reverse)) l (.tup vs0)) b1 = some (.lst vs1) := by
    rw [upd_ne n1l, upd_ne n1R]
    exact h1
  have hTp : (upd (upd H1 R (.lst ((b1 :: a2).map V.ref).reverse)) l (.tup vs0)) T = some (.lst ((ts.map V.str).reverse ++ [.str t])) := by
    rw [upd_ne nTl, upd_ne h.RT.symm, h.hT, List.map_cons, List.reverse_cons]
  have h1q : (upd (upd (upd H1 R (.lst ((b1 :: a2).map V.ref).reverse)) l (.tup vs0)) T (.lst (ts.map V.str).reverse)) b1 = some (.lst vs1) := by
    rw [upd_ne n1T]
    exact h1p
  have tkq : TK H1 (upd (upd (upd H1 R (.lst ((b1 :: a2).map V.ref).reverse)) l (.tup vs0)) T (.lst (ts.map V.str).reverse)) := ((TK.lst h.hR).trans (TK.new hl)).trans (TK.lst hTp)
  have s2 : Same (upd (upd (upd H1 R (.lst ((b1 :: a2).map V.ref).reverse)) l (.tup vs0)) T (.lst (ts.map V.str).reverse)) (upd (upd (upd (upd H1 R (.lst ((b1 :: a2).map V.ref).reverse)) l (.tup vs0)) T (.lst (ts.map V.str).reverse)) l2 (.tup [.str "tag", .str t, .ref l])) := Same.new hl2
  have n2b : l2 ≠ b1 := fun z => by rw [z, h1q] at hl2; cases hl2
  have tk5 := s2.tk.trans (TK.lst (o := .lst (vs1 ++ [.ref l2])) (s2 _ _ h1q))
  refine ⟨by rw [upd_ne n0R]; exact h0, ?_, h1p, hTp, s2 _ _ h1q, hp.put (pt := l2) (q := .tag t g0 .nil) h1q (r1.mono tkq) s2 (.tag (q := l) ?_ ?_ ((r0.mono tkq).mono tk5) .nil)⟩
  · rw [upd_ne nlR.symm, upd_same, List.map_cons, List.reverse_cons]
  · rw [upd_ne n2b]
    exact upd_same
  · refine tk5 _ _ ?_
    rw [upd_ne nTl.symm]
    exact upd_same
def spCellS (K : PySem.W.Frag) : Sp := fun vs H Q _ => ∃ (a : Addr) (ns : List Int) (k : Int), vs = [.ref a, .int k] ∧ SqL K H a (ns.map V.int) ∧ ns.length ≤ 63 ∧ 0 ≤ k ∧ k ≤ 1000 ∧ ∀ v : Int, Q (.int v) H
theorem ok_l_cell (B : ∀ x ∈ blts, mg x = none) (F : Fun K "_law_cell" "_law_cell" s_l_cell f fd) : FnOk P w K mg base CX0 1 f fd ["_law_script", "_law_k"] (spCellS K) := by
  refine F.ok sc_l_cell (fun vs H Q E h => ?_) (fun cdv A outer s H vs Q E hr h => ?_)
  · obtain ⟨a, ns, k, rfl, _⟩ := h
    rfl
  obtain ⟨a, ns, k, rfl, hS, h63, h0, hk, q⟩ := h
  refine ⟨_, (pss_cons (ps_if (pt_cmpR op_lt (pv 1) (pe_callB call_len_seq rfl (B "len" (by decide)) PySem.boot_len (pa_cons (pv 0) pa_nil)) (nomark _))
      (pss_one (ps_ret (pe_ix ix_list (pv 0) (pv 1) (fun _ _ => rfl))))
      pss_nil)
    (pss_cons (ps_set (i := 2) sc_l_cell.nd rfl (Or.inl rfl) (pe_op op_add (pe_op op_mul (pv 1) pe_int) pe_int))
    (pss_cons (ps_if (pt_cmpR op_gt (pe_callB call_len_seq rfl (B "len" (by decide)) PySem.boot_len (pa_cons (pv 0) pa_nil)) pe_int (nomark _))
      (pss_one (ps_set (i := 2) sc_l_cell.nd rfl (Or.inl rfl) (pe_op op_mod (pe_op op_add (pe_op op_mul (pe_ix ix_list (pv 0) (pe_op op_mod (pe_op op_mul (pv 1) pe_int) (pe_callB call_len_seq rfl (B "len" (by decide)) PySem.boot_len (pa_cons (pv 0) pa_nil))) (fun _ _ => rfl)) pe_int) (pe_op op_mul (pv 1) pe_int)) pe_int)))
      pss_nil)
    (pss_one (ps_ret (pe_op op_mod (pe_op op_mul (pv 2) (pv 2)) pe_int)))))), ?_⟩
  refine ⟨_, rfl, _, rfl, a, _, rfl, .inl hS, _, _, rfl, rfl, _, rfl, ite2 (fun c => ?_) (fun c => ?_)⟩
  · have c' := of_decide_eq_true c
    rw [List.length_map] at c'
    obtain ⟨v, hv⟩ := ints_at (ns := ns) h0 c'
    exact ⟨_, rfl, _, rfl, a, _, k, _, rfl, rfl, hS, hv, q _⟩
  · refine ⟨_, rfl, _, _, rfl, rfl, .inl ⟨by (first | lia | omega), by (first | lia | omega)⟩, _, _, rfl, rfl, ?_⟩
    refine ⟨_, rfl, a, _, rfl, .inl hS, _, _, rfl, rfl, _, rfl, ite2 (fun c2 => ?_) (fun c2 => ?_)⟩
    · have c2' : (0 : Int) < ((ns.map V.int).length : Nat) := of_decide_eq_true c2
      obtain ⟨v, hv⟩ := ints_at (ns := ns) (Int.emod_nonneg (k * 3) (Int.ne_of_gt c2')) (by have := Int.emod_lt_of_pos (k * 3) c2'; rw [List.length_map] at this ⊢; exact this)
      have m1 := Int.emod_nonneg (v * 48271 + k * 2741) (by decide : (2147483647 : Int) ≠ 0)
      have m2 := Int.emod_lt_of_pos (v * 48271 + k * 2741) (by decide : (0 : Int) < 2147483647)
      refine ⟨_, rfl, _, rfl, _, _, rfl, rfl, .inl ⟨by (first | lia | omega), by (first | lia | omega)⟩, _, rfl, a, _, rfl, .inl hS, _, _, rfl, rfl, c2', a, _, _, _, rfl, rfl, hS, hv, _, _, rfl, rfl, .inr ⟨by decide, by decide⟩, _, rfl, _, _, rfl, rfl, .inl ⟨by (first | lia | omega), by (first | lia | omega)⟩, _, _, rfl, rfl, _, _, rfl, rfl, (by show (0 : Int) < 2147483647; decide), ?_⟩
      exact ⟨_, rfl, _, rfl, _, _, rfl, rfl, .inl ⟨by (first | lia | omega), by (first | lia | omega)⟩, _, _, rfl, rfl, (by show (0 : Int) < 2147483497; decide), q _⟩
    · exact ⟨_, rfl, _, rfl, _, _, rfl, rfl, .inl ⟨by (first | lia | omega), by (first | lia | omega)⟩, _, _, rfl, rfl, (by show (0 : Int) < 2147483497; decide), q _⟩
def spTags3 : Sp := fun vs H Q _ => ∃ c : Int, vs = [.int c] ∧ 0 ≤ c ∧ c < 1000000000 ∧ ∀ (r : Addr) (ts : List Str) (H' : Hp), Same H H' → H r = none → H' r = some (.lst (ts.map V.str)) → ts.length = 3 → (∀ t ∈ ts, Lets t ∧ t.length ≤ 8) → Q (.ref r) H'
def one1 (c : Nat) : Str := ⟨#[c]⟩
theorem jn_ones : ∀ l : List Nat, jn "" (l.map one1) = l
  | [] => rfl
  | [c] => rfl
  | c :: d :: r => by
    show cs (one1 c) ++ (cs "" ++ jn "" ((d :: r).map one1)) = _
    rw [jn_ones (d :: r)]
    rfl
theorem join_ones (l : List Nat) : (Txt.join "" (l.map one1)).cps.toList = l := by
  have := cs_join "" (l.map one1)
  rw [jn_ones] at this
  exact this
theorem join_lets {l : List Nat} (h0 : l ≠ []) (hl : ∀ c ∈ l, 97 ≤ c ∧ c ≤ 122) : Lets (Txt.join "" (l.map one1)) ∧ (Txt.join "" (l.map one1)).length = l.length := by
  have e := join_ones l
  refine ⟨⟨by rw [e]; exact h0, fun c hc => ?_⟩, ?_⟩
  · rw [e] at hc
    exact hl c hc
  · have := congrArg List.length e
    rw [Array.length_toList] at this
    exact this
theorem sum_ones : ∀ l : List Nat, ((l.map one1).map (·.length)).sum = l.length
  | [] => rfl
  | c :: l => by
    rw [List.map_cons, List.map_cons, List.sum_cons, sum_ones l, List.length_cons]
    show 1 + _ = _
    (first | lia | omega)
set_option maxHeartbeats 4000000 in
theorem ok_l_tags (B : ∀ x ∈ blts, mg x = none) (F : Fun K "_law_tags" "_law_tags" s_l_tags f fd) : FnOk P w K mg base CX0 1 f fd ["_law_cell_here"] spTags3 := by
  refine F.ok sc_l_tags (fun vs H Q E h => ?_) (fun cdv A outer s H vs Q E hr h => ?_)
  · obtain ⟨c, rfl, _⟩ := h
    rfl
  obtain ⟨c, rfl, c0, c9, q⟩ := h
  refine hideI ((defBody s_l_tags).drop 6) (pss_one (ps_ret (pv 3))) (fun u6 h6 e6 => ?_)
  refine hideI ((defBody s_l_tags).drop 5) (pss_cons (ps_if (pt_cmpR op_eq (pe_op op_mod (pe_op op_fdiv (pv 0) pe_int) pe_int) pe_int (nomark _))
      (pss_one (ps_ret (pe_lst (pa_cons (pe_ix ix_list (pv 3) pe_int (fun _ _ => rfl)) (pa_cons (pe_ix ix_list (pv 3) pe_int (fun _ _ => rfl)) (pa_cons (pe_ix ix_list (pv 3) pe_int (fun _ _ => rfl)) pa_nil))))))
      pss_nil) h6) (fun u5 h5 e5 => ?_)
  refine hideI ((defBody s_l_tags).drop 4) (pss_cons (ps_if (PW.pt (pw_and (pt_cmpR op_eq (pe_op op_mod (pe_op op_fdiv (pv 0) pe_int) pe_int) pe_int (nomark _)) (pw_and1 (pt_cmpR op_lt (pe_callB call_len_seq rfl (B "len" (by decide)) PySem.boot_len (pa_cons (pv 2) pa_nil)) pe_int (nomark _)))))
      (pss_one (ps_asg (pe_op op_add_str (pe_ix ix_list (pv 3) pe_int (fun _ _ => rfl)) (pe_ix ix_str (pv 1) (pe_op op_mod (pe_op op_fdiv (pv 0) pe_int) pe_int) (fun _ _ => rfl))) (pg_sub (pv 3) pe_int set_list)))
      pss_nil) h5) (fun u4 h4 e4 => ?_)
  refine hideI ((sBody ((defBody s_l_tags).getD 3 (.Pass ⟨0, 0, 0, 0⟩))).drop 4) (pss_one (ps_expr (pe_bm PySem.F.plainAttrs_list PySem.F.slot_list_append PySem.F.type_list_append mt_append (pv 3) (pa_cons (pe_bm PySem.F.plainAttrs_str PySem.F.slot_str_join PySem.F.type_str_join mt_join pe_str (pa_cons (pv 5) pa_nil)) pa_nil)))) (fun u3_4 h3_4 e3_4 => ?_)
  refine hideI ((sBody ((defBody s_l_tags).getD 3 (.Pass ⟨0, 0, 0, 0⟩))).drop 3) (pss_cons (ps_asg (pe_ix ix_str (pv 1) (pe_op op_mod (pv 7) pe_int) (fun _ _ => rfl)) (pg_sub (pv 5) (pv 6) set_list)) h3_4) (fun u3_3 h3_3 e3_3 => ?_)
  refine hideI ((sBody ((defBody s_l_tags).getD 3 (.Pass ⟨0, 0, 0, 0⟩))).drop 2) (pss_cons (ps_set (i := 7) sc_l_tags.nd rfl (Or.inl rfl) (pe_op op_add (pe_op op_add (pe_bm PySem.F.plainAttrs_str PySem.F.slot_str_index PySem.F.type_str_index mt_sindex (pv 1) (pa_cons (pe_ix ix_list (pv 2) (pv 6) (fun _ _ => rfl)) pa_nil)) pe_int) (pe_op op_mod (pe_op op_fdiv (pv 0) (pe_op op_add pe_int (pv 4))) pe_int))) h3_3) (fun u3_2 h3_2 e3_2 => ?_)
  refine hideI ((sBody ((defBody s_l_tags).getD 3 (.Pass ⟨0, 0, 0, 0⟩))).drop 1) (pss_cons (ps_set (i := 6) sc_l_tags.nd rfl (Or.inl rfl) (pe_op op_mod (pe_op op_fdiv (pv 0) (pe_op op_add pe_int (pv 4))) (pe_callB call_len_seq rfl (B "len" (by decide)) PySem.boot_len (pa_cons (pv 2) pa_nil)))) h3_2) (fun u3_1 h3_1 e3_1 => ?_)
  refine hideI ((sBody ((defBody s_l_tags).getD 3 (.Pass ⟨0, 0, 0, 0⟩))).drop 0) (pss_cons (ps_set (i := 5) sc_l_tags.nd rfl (Or.inl rfl) (pe_callTy call_list_of rfl (B "list" (by decide)) bt_list (pa_cons (pv 2) pa_nil))) h3_1) (fun u3_0 h3_0 e3_0 => ?_)
  refine hideI ((defBody s_l_tags).drop 3) (pss_cons (ps_for PassesOwn.never rfl (pi_range1 rfl (B "range" (by decide)) (pa_cons pe_int pa_nil)) (pg_name (i := 4) sc_l_tags.nd rfl (Or.inl rfl))
      h3_0) h4) (fun u3 h3 e3 => ?_)
  refine hideI ((defBody s_l_tags).drop 2) (pss_cons (ps_set (i := 3) sc_l_tags.nd rfl (Or.inl rfl) (pe_lst (pa_cons (pe_bm PySem.F.plainAttrs_str PySem.F.slot_str_join PySem.F.type_str_join mt_join pe_str (pa_cons (pv 2) pa_nil)) pa_nil))) h3) (fun u2 h2 e2 => ?_)
  refine hideI ((defBody s_l_tags).drop 1) (pss_cons (ps_set_comp (cl := _) (n0 := 2) sc_l_tags.nd rfl (Or.inl rfl) ["_law_k"] [("_law_cell_here", 0), ("_law_letters", 1)] (pi_range1 rfl (B "range" (by decide)) (pa_cons (pe_op op_add pe_int (pe_op op_mod (pv 0) pe_int)) pa_nil)) (fun _ _ _ _ => (pg_name (i := 0) (show List.Nodup (["_law_k", "_law_cell_here", "_law_letters"] : List Str) by decide) rfl (Or.inl rfl))) (fun _ _ _ _ => (pe_ix ix_str (pv 2) (pe_op op_mod (pe_op op_add (pe_op op_fdiv (pv 1) pe_int) (pe_op op_mul (pv 0) (pv 0))) pe_int) (fun _ _ => rfl))) rfl rfl (by decide) rfl (by decide) (cap_cl (by (repeat' first | exact List.forall_mem_nil _ | refine List.forall_mem_cons.mpr ⟨?_, ?_⟩) <;> rfl)) (cap_has (by (repeat' first | exact List.forall_mem_nil _ | refine List.forall_mem_cons.mpr ⟨?_, ?_⟩) <;> first | (intro h; exact ⟨_, rfl⟩) | (intro h; exact absurd h (by decide)))) (fun _ => by (repeat' first | exact List.forall_mem_nil _ | refine List.forall_mem_cons.mpr ⟨?_, ?_⟩) <;> exact ⟨rfl, rfl, Or.inl rfl⟩) (fun _ => rfl) rfl) h2) (fun u1 h1 e1 => ?_)
  refine hideI ((defBody s_l_tags).drop 0) (pss_cons (ps_set (i := 1) sc_l_tags.nd rfl (Or.inr rfl) pe_str) h1) (fun u0 h0 e0 => ?_)
  refine ⟨u0, h0, ?_⟩
  have m7 := Int.emod_nonneg c (by decide : (8 : Int) ≠ 0)
  have m7' := Int.emod_lt_of_pos c (by decide : (0 : Int) < 8)
  refine by_eq e0 ?_
  refine by_eq e1 ?_
  refine ⟨_, rfl, _, _, rfl, rfl, (by show (0 : Int) < 8; decide), _, _, rfl, rfl, _, rfl, by (first | lia | omega), by (first | lia | omega), fun pb hpb => ?_⟩
  refine comp_range (lo := 0) (n := (1 + c % 8).toNat) (p := pb) (fun i ys σ H2 => ∃ (v0 : Option V) (l : List Nat), σ = [v0, some (.int c), some (.str ABC)] ∧ Same H H2 ∧ H2 pb = some (.lst ys) ∧ ys = (l.map one1).map V.str ∧ l.length = i ∧ ∀ x ∈ l, 97 ≤ x ∧ x ≤ 122)
    ⟨none, [], rfl, Same.new hpb, upd_same, rfl, rfl, fun _ h => (nomatch h)⟩ ?_ ?_ ?_
  · rintro i ys σ H2 _ ⟨v0, l, _, _, h, _⟩
    exact h
  · rintro i ys σ H2 hi ⟨v0, l, rfl, sm, hp, rfl, hll, hls⟩
    obtain ⟨ch, hc, c1, c2⟩ := abc_at (i := (c / 9 + (0 + (i : Int)) * (0 + (i : Int))) % 26) (Int.emod_nonneg _ (by decide)) (Int.emod_lt_of_pos _ (by decide))
    have hi9 : i < 10 := by (first | lia | omega)
    refine ⟨_, rfl, _, rfl, _, _, rfl, rfl, ⟨by decide, by decide⟩, _, rfl, _, rfl, _, _, rfl, rfl, .inl ⟨by (first | lia | omega), by (first | lia | omega)⟩, _, _, rfl, rfl, _, _, rfl, rfl, (by show (0 : Int) < 26; decide), _, _, ch, rfl, rfl, (by decide), hc, hp, len1000' (by rw [List.length_map, List.length_map]; (first | lia | omega)), CW.next hi ⟨_, l ++ [ch], rfl, sm.upd_new hpb, upd_same, by rw [List.map_append, List.map_append]; rfl, by rw [List.length_append, List.length_singleton]; (first | lia | omega), fun x hx => ?_⟩⟩
    rcases List.mem_append.mp hx with hx | hx
    · exact hls x hx
    · rw [List.mem_singleton.mp hx]
      exact ⟨c1, c2⟩
  rintro ys σ H2 ⟨v0, l, rfl, s2, hp, rfl, hll, hls⟩
  have hl9 : l.length ≤ 8 := by (first | lia | omega)
  have hl0 : l ≠ [] := fun z => by rw [z, List.length_nil] at hll; (first | lia | omega)
  obtain ⟨j1, j2⟩ := join_lets hl0 hls
  refine by_eq e2 ?_
  refine ⟨rfl, _, rfl, _, pb, l.map one1, rfl, rfl, SqL.of hp, by rw [sum_ones, List.length_map]; show _ + _ * 0 ≤ _; (first | lia | omega), (by show 1 ≤ sizeLine; decide), fun T hT => ?_⟩
  have hT2 : (upd H2 T (.lst [.str (Txt.join "" (l.map one1))])) T = some (.lst ([Txt.join "" (l.map one1)].map V.str)) := upd_same
  have s3 : Same H2 (upd H2 T (.lst [.str (Txt.join "" (l.map one1))])) := Same.new hT
  have hT0 : H T = none := s2.free hT
  have good1 : ∀ t ∈ [Txt.join "" (l.map one1)], Lets t ∧ t.length ≤ 8 := fun t ht => by
    rw [List.mem_singleton.mp ht, j2]
    exact ⟨j1, hl9⟩
  show u3 _ _ _
  have hp3 := s3 _ _ hp
  have s23 := s2.trans s3
  generalize upd H2 T (.lst [.str (Txt.join "" (l.map one1))]) = H3 at hT2 s3 hp3 s23 ⊢
  have lp : (0 : Int) < (((l.map one1).map V.str).length : Nat) := by
    rw [List.length_map, List.length_map]
    (first | lia | omega)
  refine by_eq e3 ?_
  refine ⟨2, rfl, by decide, by decide, for_range (lo := 0) (n := 2) (fun i σ H4 => ∃ (v4 v5 v6 v7 : Option V) (ts : List Str), σ = [some (.int c), some (.str ABC), some (.ref pb), some (.ref T), v4, v5, v6, v7] ∧ Same H H4 ∧ H4 pb = some (.lst ((l.map one1).map V.str)) ∧ H4 T = some (.lst (ts.map V.str)) ∧ ts.length = i + 1 ∧ ts[0]? = some (Txt.join "" (l.map one1)) ∧ ∀ t ∈ ts, Lets t ∧ t.length ≤ 8)
    ⟨_, _, _, _, _, rfl, s23, hp3, hT2, rfl, rfl, good1⟩ ?_ ?_⟩
  · rintro i σ H4 hi ⟨v4, v5, v6, v7, ts, rfl, s4, hp4, hT4, htl, ht0, hts⟩
    refine by_eq e3_0 ?_
    refine ⟨_, rfl, pb, _, rfl, .inl (SqL.of hp4), fun ot hot => ?_⟩
    have s5 : Same H4 (upd H4 ot (.lst ((l.map one1).map V.str))) := Same.new hot
    have ho5 : (upd H4 ot (.lst ((l.map one1).map V.str))) ot = some (.lst ((l.map one1).map V.str)) := upd_same
    have not : ot ≠ T := (ne_of_none hT4 hot).symm
    have hp5 := s5 _ _ hp4
    refine by_eq e3_1 ?_
    refine ⟨_, rfl, _, rfl, _, _, rfl, rfl, _, _, rfl, rfl, ⟨by (first | lia | omega), by (first | lia | omega)⟩, _, rfl, pb, _, rfl, .inl (SqL.of hp5), _, _, rfl, rfl, lp, ?_⟩
    obtain ⟨k, hk, hkl⟩ := modN (c / (8 + (0 + (i : Int)))) (n := ((l.map one1).map V.str).length) (by (first | lia | omega))
    show gName 6 (V.int (c / (8 + (0 + (i : Int))) % (((l.map one1).map V.str).length : Nat))) _ _ _
    rw [hk]
    rw [List.length_map, List.length_map] at hkl
    have hatk : atI ((l.map one1).map V.str) (k : Int) = some (.str (one1 l[k])) := atI_nat (by rw [List.getElem?_map, List.getElem?_map, List.getElem?_eq_getElem hkl]; rfl)
    obtain ⟨a1, a2⟩ := hls _ (List.getElem_mem hkl)
    refine by_eq e3_2 ?_
    refine ⟨_, rfl, rfl, _, rfl, _, rfl, pb, _, _, _, rfl, rfl, SqL.of hp5, hatk, l[k], rfl, rfl, a1, a2, fun jx => ?_⟩
    refine ⟨_, _, rfl, rfl, _, rfl, _, rfl, _, _, rfl, rfl, _, _, rfl, rfl, ⟨by (first | lia | omega), by (first | lia | omega)⟩, _, _, rfl, rfl, (by show (0 : Int) < 25; decide), _, _, rfl, rfl, ?_⟩
    obtain ⟨ch, hc, c1, c2⟩ := abc_at (i := ((jx : Int) + 1 + c / (64 + (0 + (i : Int))) % 25) % 26) (Int.emod_nonneg _ (by decide)) (Int.emod_lt_of_pos _ (by decide))
    refine by_eq e3_3 ?_
    refine ⟨_, rfl, _, rfl, _, _, rfl, rfl, (by show (0 : Int) < 26; decide), _, _, ch, rfl, rfl, (by decide), hc, _, rfl, _, rfl, ot, _, _, k, rfl, rfl, ho5, ix_nat (by rw [List.length_map, List.length_map]; exact hkl), ?_⟩
    have eset : ((l.map one1).map V.str).set k (.str ⟨#[ch]⟩) = ((l.set k ch).map one1).map V.str := by
      rw [List.map_set, List.map_set]
      rfl
    rw [eset]
    have hT6 : (upd (upd H4 ot (.lst ((l.map one1).map V.str))) ot (.lst (((l.set k ch).map one1).map V.str))) T = some (.lst (ts.map V.str)) := by
      rw [upd_ne not.symm, upd_ne not.symm]
      exact hT4
    have hl2 : (l.set k ch) ≠ [] := fun z => by
      have := congrArg List.length z
      rw [List.length_set, List.length_nil] at this
      exact hl0 (List.eq_nil_of_length_eq_zero this)
    obtain ⟨y1, y2⟩ := join_lets hl2 fun x hx => by
      rcases List.mem_or_eq_of_mem_set hx with hx | hx
      · exact hls x hx
      · rw [hx]
        exact ⟨c1, c2⟩
    rw [List.length_set] at y2
    refine by_eq e3_4 ?_
    refine ⟨_, rfl, .inl ⟨rfl, _, SqL.of hT6⟩, rfl, _, rfl, _, ot, (l.set k ch).map one1, rfl, rfl, SqL.of upd_same, by rw [sum_ones, List.length_map, List.length_set]; show _ + _ * 0 ≤ _; (first | lia | omega), T, _, _, rfl, rfl, hT6, len1000' (by rw [List.length_map]; (first | lia | omega)), ?_⟩
    have hot0 : H ot = none := s4.free hot
    refine ⟨_, _, _, _, ts ++ [Txt.join "" ((l.set k ch).map one1)], rfl, ((s4.trans s5).upd_new hot0).upd_new hT0, ?_, ?_, ?_, ?_, ?_⟩
    · rw [upd_ne (ne_of_none hp hT), upd_ne (ne_of_none hp4 hot)]
      exact hp5
    · rw [upd_same, List.map_append]
      rfl
    · rw [List.length_append, List.length_singleton, htl]
    · rw [List.getElem?_append_left (by (first | lia | omega))]
      exact ht0
    · intro t ht
      rcases List.mem_append.mp ht with ht | ht
      · exact hts t ht
      · rw [List.mem_singleton.mp ht, y2]
        exact ⟨y1, hl9⟩
  rintro σ H4 ⟨v4, v5, v6, v7, ts, rfl, s4, hp4, hT4, htl, ht0, hts⟩
  have hlb : (((l.map one1).map V.str).length : Int) = (l.length : Int) := by rw [List.length_map, List.length_map]
  show u4 _ _ _
  refine via (t := u5) (R := fun σ H5 => ∃ (ts : List Str), σ = [some (.int c), some (.str ABC), some (.ref pb), some (.ref T), v4, v5, v6, v7] ∧ Same H H5 ∧ H5 T = some (.lst (ts.map V.str)) ∧ ts.length = 3 ∧ ∀ t ∈ ts, Lets t ∧ t.length ≤ 8) ?_ fun fin => ?_
  · rintro σ H5 ⟨ts, rfl, s5, hT5, htl, hts⟩
    obtain ⟨t0, t1, t2, rfl⟩ : ∃ t0 t1 t2, ts = [t0, t1, t2] := by
      match ts, htl with
      | [a, b, c], _ => exact ⟨a, b, c, rfl⟩
    refine by_eq e5 ?_
    refine ⟨_, rfl, _, _, rfl, rfl, ⟨by decide, by decide⟩, _, _, rfl, rfl, (by show (0 : Int) < 2; decide), rfl, _, rfl, ite2 (fun cc => ?_) (fun cc => ?_)⟩
    · refine ⟨_, rfl, T, _, 1, _, rfl, rfl, SqL.of hT5, rfl, _, rfl, T, _, 0, _, rfl, rfl, SqL.of hT5, rfl, _, rfl, T, _, 2, _, rfl, rfl, SqL.of hT5, rfl, (by show 3 ≤ sizeLine; decide), fun r hr => ?_⟩
      refine q r [t1, t0, t2] _ (s5.upd_new (s5.free hr)) (s5.free hr) upd_same rfl fun t ht => hts t ?_
      simp only [List.mem_cons, List.not_mem_nil, or_false] at ht ⊢
      rcases ht with h | h | h
      · exact .inr (.inl h)
      · exact .inl h
      · exact .inr (.inr h)
    · refine by_eq e6 ?_
      exact ⟨_, rfl, q T [t0, t1, t2] H5 s5 hT0 hT5 rfl hts⟩
  · refine by_eq e4 ?_
    refine ⟨_, rfl, _, _, rfl, rfl, ⟨by decide, by decide⟩, _, _, rfl, rfl, (by show (0 : Int) < 3; decide), rfl, _, rfl, ite2 (fun cc => ?_) (fun cc => iteF (fin _ _ ⟨ts, rfl, s4, hT4, htl, hts⟩))⟩
    refine ⟨_, rfl, pb, _, rfl, .inl (SqL.of hp4), _, _, rfl, rfl, _, rfl, ite2 (fun c2 => ?_) (fun c2 => fin _ _ ⟨ts, rfl, s4, hT4, htl, hts⟩)⟩
    have c2' := of_decide_eq_true c2
    rw [hlb] at c2'
    obtain ⟨ch, hc, b1, b2⟩ := abc_at (i := c / 4096 % 26) (Int.emod_nonneg _ (by decide)) (Int.emod_lt_of_pos _ (by decide))
    have hat0 : atI (ts.map V.str) 0 = some (.str (Txt.join "" (l.map one1))) := atI_nat (j := 0) (by rw [List.getElem?_map, ht0]; rfl)
    have h1 : (⟨#[ch]⟩ : Str).length = 1 := rfl
    refine ⟨_, rfl, T, _, 0, _, rfl, rfl, SqL.of hT4, hat0, _, rfl, _, rfl, _, _, rfl, rfl, ⟨by decide, by decide⟩, _, _, rfl, rfl, (by show (0 : Int) < 26; decide), _, _, ch, rfl, rfl, (by decide), hc, _, _, rfl, rfl, by rw [h1]; exact len1000 (by (first | lia | omega)), _, rfl, T, _, _, 1, rfl, rfl, hT4, ix_nat (n := (ts.map V.str).length) (k := 1) (by rw [List.length_map]; (first | lia | omega)), ?_⟩
    refine fin _ _ ⟨ts.set 1 (Txt.join "" (l.map one1) ++ ⟨#[ch]⟩), rfl, s4.upd_new hT0, by rw [upd_same, List.map_set], by rw [List.length_set, htl], fun t ht => ?_⟩
    rcases List.mem_or_eq_of_mem_set ht with ht | rfl
    · exact hts t ht
    · exact ⟨lets_l j1 (lets_one b1 b2).let0, by rw [app_len, h1, j2]; (first | lia | omega)⟩
structure PgN (tt : List Str) (gs : List Pa) (os : List Str) (k i : Nat) : Prop where
  sz : (gs.map Pa.sz).sum + os.length ≤ i
  nk : (gs.map Pa.nk).sum = k
  tg : ∀ g ∈ gs, ∀ x ∈ g.tags, x ∈ tt
  op : ∀ x ∈ os, x ∈ tt
theorem PgN.shut {tt : List Str} {g0 g1 : Pa} {g2 : List Pa} {t : Str} {os : List Str} {k i : Nat} (h : PgN tt (g0 :: g1 :: g2) (t :: os) k i) : PgN tt (g1.app (.tag t g0 .nil) :: g2) os k i := by
  obtain ⟨h1, h2, h3, h4⟩ := h
  refine ⟨?_, ?_, fun g hg => ?_, fun x hx => h4 x (List.mem_cons_of_mem _ hx)⟩
  · simp only [List.map_cons, List.sum_cons, List.length_cons, Pa.sz_app, Pa.sz] at h1 ⊢
    (first | lia | omega)
  · simp only [List.map_cons, List.sum_cons, Pa.nk_app, Pa.nk] at h2 ⊢
    (first | lia | omega)
  · rcases List.mem_cons.mp hg with rfl | hg
    · intro x hx
      rw [Pa.tags_app] at hx
      rcases List.mem_append.mp hx with hx | hx
      · exact h3 g1 (by simp) x hx
      · simp only [Pa.tags, List.append_nil, List.mem_cons] at hx
        rcases hx with rfl | hx
        · exact h4 _ (List.mem_cons_self ..)
        · exact h3 g0 (by simp) x hx
    · exact h3 g (by simp [hg])
def spParts68 : Sp := fun vs H Q _ => ∃ (c md : Int) (tg : Addr) (ts : List Str) (on : Bool), vs = [.int c, .ref tg, .int md, .bl on] ∧ 0 < md ∧ md < 100 ∧ H tg = some (.lst (ts.map V.str)) ∧ ts.length = 3 ∧ ∀ (r q : Addr) (ys : List V) (p : Pa) (H' : Hp), Same H H' → H' r = some (.tup [.ref q, .int (p.nk : Int)]) → H' q = some (.tup ys) → RepP H' ys p → p.sz ≤ 9 → (∀ x ∈ p.tags, x ∈ ts) → Q (.ref r) H'
set_option maxHeartbeats 8000000 in
theorem ok_l_parts (B : ∀ x ∈ blts, mg x = none) (F : Fun K "_law_parts" "_law_parts" s_l_parts f fd) : FnOk P w K mg base CX0 1 f fd ["_law_cell_here", "_law_tags_here", "_law_modes", "_law_once"] spParts68 := by
  refine F.ok sc_l_parts (fun vs H Q E h => ?_) (fun cdv A outer s H vs Q E hr h => ?_)
  · obtain ⟨c, md, tg, ts, on, rfl, _⟩ := h
    rfl
  obtain ⟨c, md, tg, ts, on, rfl, m0, m1, htg, ht3, q⟩ := h
  refine hideI ((defBody s_l_parts).drop 6) (pss_one (ps_ret (pe_tup (pa_cons (pe_callTy call_tuple_of rfl (B "tuple" (by decide)) bt_tuple (pa_cons (pe_ix ix_list (pv 4) pe_int (fun _ _ => rfl)) pa_nil)) (pa_cons (pv 6) pa_nil))))) (fun u6 h6 e6 => ?_)
  refine hideI ((sBody ((defBody s_l_parts).getD 5 (.Pass ⟨0, 0, 0, 0⟩))).drop 1) (pss_one (ps_expr (pe_bm PySem.F.plainAttrs_list PySem.F.slot_list_append PySem.F.type_list_append mt_append (pe_ix ix_list (pv 4) (pe_un un_neg pe_int) (fun _ _ => rfl)) (pa_cons (pe_tup (pa_cons pe_str (pa_cons (pe_bm0 PySem.F.plainAttrs_list PySem.F.slot_list_pop PySem.F.type_list_pop mt_pop (pv 5)) (pa_cons (pv 10) pa_nil)))) pa_nil)))) (fun u5_1 h5_1 e5_1 => ?_)
  refine hideI ((sBody ((defBody s_l_parts).getD 5 (.Pass ⟨0, 0, 0, 0⟩))).drop 0) (pss_cons (ps_set (i := 10) sc_l_parts.nd rfl (Or.inl rfl) (pe_callTy call_tuple_of rfl (B "tuple" (by decide)) bt_tuple (pa_cons (pe_bm0 PySem.F.plainAttrs_list PySem.F.slot_list_pop PySem.F.type_list_pop mt_pop (pv 4)) pa_nil))) h5_1) (fun u5_0 h5_0 e5_0 => ?_)
  refine hideI ((defBody s_l_parts).drop 5) (pss_cons (ps_while PassesOwn.never (pt_cmpR op_gt (pe_callB call_len_seq rfl (B "len" (by decide)) PySem.boot_len (pa_cons (pv 5) pa_nil)) pe_int (nomark _))
      h5_0) h6) (fun u5 h5 e5 => ?_)
  refine hideI ((sBody ((sBody ((defBody s_l_parts).getD 4 (.Pass ⟨0, 0, 0, 0⟩))).getD 2 (.Pass ⟨0, 0, 0, 0⟩))).drop 1) (pss_one (ps_expr (pe_bm PySem.F.plainAttrs_list PySem.F.slot_list_append PySem.F.type_list_append mt_append (pv 4) (pa_cons (pe_lst pa_nil) pa_nil)))) (fun u4_2t1 h4_2t1 e4_2t1 => ?_)
  refine hideI ((sBody ((sBody ((defBody s_l_parts).getD 4 (.Pass ⟨0, 0, 0, 0⟩))).getD 2 (.Pass ⟨0, 0, 0, 0⟩))).drop 0) (pss_cons (ps_expr (pe_bm PySem.F.plainAttrs_list PySem.F.slot_list_append PySem.F.type_list_append mt_append (pv 5) (pa_cons (pe_ix ix_list (pv 1) (pe_op op_mod (pe_op op_add (pv 7) (pv 8)) pe_int) (fun _ _ => rfl)) pa_nil))) h4_2t1) (fun u4_2t0 h4_2t0 e4_2t0 => ?_)
  refine hideI ((sBody ((sElse ((sBody ((defBody s_l_parts).getD 4 (.Pass ⟨0, 0, 0, 0⟩))).getD 2 (.Pass ⟨0, 0, 0, 0⟩))).getD 0 (.Pass ⟨0, 0, 0, 0⟩))).drop 1) (pss_one (ps_expr (pe_bm PySem.F.plainAttrs_list PySem.F.slot_list_append PySem.F.type_list_append mt_append (pe_ix ix_list (pv 4) (pe_un un_neg pe_int) (fun _ _ => rfl)) (pa_cons (pe_tup (pa_cons pe_str (pa_cons (pe_bm0 PySem.F.plainAttrs_list PySem.F.slot_list_pop PySem.F.type_list_pop mt_pop (pv 5)) (pa_cons (pv 10) pa_nil)))) pa_nil)))) (fun u4_2e0t1 h4_2e0t1 e4_2e0t1 => ?_)
  refine hideI ((sBody ((sElse ((sBody ((defBody s_l_parts).getD 4 (.Pass ⟨0, 0, 0, 0⟩))).getD 2 (.Pass ⟨0, 0, 0, 0⟩))).getD 0 (.Pass ⟨0, 0, 0, 0⟩))).drop 0) (pss_cons (ps_set (i := 10) sc_l_parts.nd rfl (Or.inl rfl) (pe_callTy call_tuple_of rfl (B "tuple" (by decide)) bt_tuple (pa_cons (pe_bm0 PySem.F.plainAttrs_list PySem.F.slot_list_pop PySem.F.type_list_pop mt_pop (pv 4)) pa_nil))) h4_2e0t1) (fun u4_2e0t0 h4_2e0t0 e4_2e0t0 => ?_)
  refine hideI ((sBody ((sElse ((sElse ((sBody ((defBody s_l_parts).getD 4 (.Pass ⟨0, 0, 0, 0⟩))).getD 2 (.Pass ⟨0, 0, 0, 0⟩))).getD 0 (.Pass ⟨0, 0, 0, 0⟩))).getD 0 (.Pass ⟨0, 0, 0, 0⟩))).drop 1) (pss_one (ps_expr (pe_bm PySem.F.plainAttrs_list PySem.F.slot_list_append PySem.F.type_list_append mt_append (pe_ix ix_list (pv 4) (pe_un un_neg pe_int) (fun _ _ => rfl)) (pa_cons (pe_tup (pa_cons pe_str (pa_cons (pe_op op_mod (pe_op op_add (pv 7) (pv 8)) (pv 2)) pa_nil))) pa_nil)))) (fun u4_2e0e0t1 h4_2e0e0t1 e4_2e0e0t1 => ?_)
  refine hideI ((sBody ((sElse ((sElse ((sBody ((defBody s_l_parts).getD 4 (.Pass ⟨0, 0, 0, 0⟩))).getD 2 (.Pass ⟨0, 0, 0, 0⟩))).getD 0 (.Pass ⟨0, 0, 0, 0⟩))).getD 0 (.Pass ⟨0, 0, 0, 0⟩))).drop 0) (pss_cons (ps_set (i := 6) sc_l_parts.nd rfl (Or.inl rfl) (pe_op op_add (pv 6) pe_int)) h4_2e0e0t1) (fun u4_2e0e0t0 h4_2e0e0t0 e4_2e0e0t0 => ?_)
  refine hideI ((sElse ((sElse ((sBody ((defBody s_l_parts).getD 4 (.Pass ⟨0, 0, 0, 0⟩))).getD 2 (.Pass ⟨0, 0, 0, 0⟩))).getD 0 (.Pass ⟨0, 0, 0, 0⟩))).drop 0) (pss_one (ps_if (PW.pt (pw_and (pt_cmpR op_gt (pv 9) pe_int (nomark _)) (pw_and1 (PW.pt (pw_or (pt_cmpR op_eq (pv 6) pe_int (nomark _)) (pw_or1 (pt_not (pt_truth (pv 3) (fun _ => rfl)))))))))
      h4_2e0e0t0
      pss_nil)) (fun u4_2e0e0 h4_2e0e0 e4_2e0e0 => ?_)
  refine hideI ((sElse ((sBody ((defBody s_l_parts).getD 4 (.Pass ⟨0, 0, 0, 0⟩))).getD 2 (.Pass ⟨0, 0, 0, 0⟩))).drop 0) (pss_one (ps_if (PW.pt (pw_and (pt_cmpR op_eq (pv 9) pe_int (nomark _)) (pw_and1 (pt_cmpR op_gt (pe_callB call_len_seq rfl (B "len" (by decide)) PySem.boot_len (pa_cons (pv 5) pa_nil)) pe_int (nomark _)))))
      h4_2e0t0
      h4_2e0e0)) (fun u4_2e0 h4_2e0 e4_2e0 => ?_)
  refine hideI ((sBody ((defBody s_l_parts).getD 4 (.Pass ⟨0, 0, 0, 0⟩))).drop 2) (pss_one (ps_if (pt_cmpR op_lt (pv 9) pe_int (nomark _))
      h4_2t0
      h4_2e0)) (fun u4_2 h4_2 e4_2 => ?_)
  refine hideI ((sBody ((defBody s_l_parts).getD 4 (.Pass ⟨0, 0, 0, 0⟩))).drop 1) (pss_cons (ps_set (i := 7) sc_l_parts.nd rfl (Or.inl rfl) (pe_op op_fdiv (pv 7) pe_int)) h4_2) (fun u4_1 h4_1 e4_1 => ?_)
  refine hideI ((sBody ((defBody s_l_parts).getD 4 (.Pass ⟨0, 0, 0, 0⟩))).drop 0) (pss_cons (ps_set (i := 9) sc_l_parts.nd rfl (Or.inl rfl) (pe_op op_mod (pv 7) pe_int)) h4_1) (fun u4_0 h4_0 e4_0 => ?_)
  refine hideI ((defBody s_l_parts).drop 4) (pss_cons (ps_for PassesOwn.never rfl (pi_range1 rfl (B "range" (by decide)) (pa_cons (pe_op op_mod (pv 0) pe_int) pa_nil)) (pg_name (i := 8) sc_l_parts.nd rfl (Or.inl rfl))
      h4_0) h5) (fun u4 h4 e4 => ?_)
  refine hideI ((defBody s_l_parts).drop 3) (pss_cons (ps_set (i := 7) sc_l_parts.nd rfl (Or.inl rfl) (pe_op op_fdiv (pv 0) pe_int)) h4) (fun u3 h3 e3 => ?_)
  refine hideI ((defBody s_l_parts).drop 2) (pss_cons (ps_set (i := 6) sc_l_parts.nd rfl (Or.inl rfl) pe_int) h3) (fun u2 h2 e2 => ?_)
  refine hideI ((defBody s_l_parts).drop 1) (pss_cons (ps_set (i := 5) sc_l_parts.nd rfl (Or.inl rfl) (pe_lst pa_nil)) h2) (fun u1 h1 e1 => ?_)
  refine hideI ((defBody s_l_parts).drop 0) (pss_cons (ps_set (i := 4) sc_l_parts.nd rfl (Or.inl rfl) (pe_lst (pa_cons (pe_lst pa_nil) pa_nil))) h1) (fun u0 h0 e0 => ?_)
  refine ⟨u0, h0, ?_⟩
  have m6 := Int.emod_nonneg c (by decide : (10 : Int) ≠ 0)
  have m6' := Int.emod_lt_of_pos c (by decide : (0 : Int) < 10)
  refine by_eq e0 ?_
  refine ⟨by decide, fun a0 h0 => ⟨(by show 1 ≤ sizeLine; decide), fun R hR => ?_⟩⟩
  refine by_eq e1 ?_
  refine ⟨by decide, fun T hT => ?_⟩
  have g0 := PgS.start h0 hR hT
  refine by_eq e2 ?_
  refine by_eq e3 ?_
  refine ⟨_, rfl, _, _, rfl, rfl, ⟨by decide, by decide⟩, ?_⟩
  refine by_eq e4 ?_
  generalize upd (upd (upd H a0 (.lst [])) R (.lst [.ref a0])) T (.lst []) = H1 at g0 ⊢
  refine ⟨_, rfl, _, _, rfl, rfl, (by show (0 : Int) < 10; decide), _, rfl, by (first | lia | omega), by (first | lia | omega), for_range (lo := 0) (n := (c % 10).toNat) (fun i σ H2 => ∃ (as : List Addr) (gs : List Pa) (os : List Str) (kb : Nat) (re : Int) (v7 v8 v9 : Option V), σ = [some (.int c), some (.ref tg), some (.int md), some (.bl on), some (.ref R), some (.ref T), some (.int (kb : Int)), some (.int re), v7, v8, v9] ∧ PgS H H2 R T as gs os ∧ PgN ts gs os kb i)
    ⟨_, _, _, 0, _, none, none, none, rfl, g0, ⟨Nat.le_refl _, rfl, fun g hg => by rw [List.mem_singleton.mp hg]; exact fun _ h => (nomatch h), fun _ h => (nomatch h)⟩⟩ ?_ ?_⟩
  · rintro i σ H2 hi ⟨as, gs, os, kb, re, v7, v8, v9, rfl, hg, hb⟩
    have hi6 : i < 9 := by (first | lia | omega)
    have hb1 := hb.sz
    have hb2 := hb.nk
    have htg2 := hg.sm _ _ htg
    refine by_eq e4_0 ?_
    refine ⟨_, rfl, _, _, rfl, rfl, (by show (0 : Int) < 5; decide), ?_⟩
    refine by_eq e4_1 ?_
    refine ⟨_, rfl, _, _, rfl, rfl, ⟨by decide, by decide⟩, ?_⟩
    refine by_eq e4_2 ?_
    have hgl := hg.gl
    have hal : as.length = gs.length := Paired.length hg.rows
    refine ⟨_, rfl, _, _, rfl, rfl, _, rfl, ite2 (fun cc => ?_) (fun cc => ?_)⟩
    · obtain ⟨k, hk, hkl⟩ := modN (re / 5 + (0 + (i : Int))) (n := 3) (by decide)
      have hkl' : k < ts.length := by (first | lia | omega)
      have hat : atI (ts.map V.str) ((re / 5 + (0 + (i : Int))) % 3) = some (.str ts[k]) := by
        have := strs_at (ws := ts) (n := k) hkl'
        rw [← hk] at this
        exact this
      refine by_eq e4_2t0 ?_
      refine ⟨_, rfl, .inl ⟨rfl, _, SqL.of hg.hT⟩, _, rfl, _, rfl, _, rfl, _, _, rfl, rfl, _, _, rfl, rfl, (by show (0 : Int) < 3; decide), tg, _, _, _, rfl, rfl, SqL.of htg2, hat, T, _, _, rfl, rfl, hg.hT, len1000' (by rw [List.length_reverse, List.length_map]; (first | lia | omega)), ?_⟩
      have hRa2 : (upd H2 T (.lst ((os.map V.str).reverse ++ [.str ts[k]]))) R = some (.lst (as.map V.ref).reverse) := by
        rw [upd_ne hg.RT]
        exact hg.hR
      refine by_eq e4_2t1 ?_
      refine ⟨_, rfl, .inl ⟨rfl, _, SqL.of hRa2⟩, by decide, fun l hl => ?_⟩
      obtain ⟨_, hl1⟩ := upd_none hl
      have hRb : (upd (upd H2 T (.lst ((os.map V.str).reverse ++ [.str ts[k]]))) l (.lst [])) R = some (.lst (as.map V.ref).reverse) := by
        rw [upd_ne (ne_of_none hg.hR hl1)]
        exact hRa2
      refine ⟨R, _, _, rfl, rfl, hRb, len1000' (by rw [List.length_reverse, List.length_map]; (first | lia | omega)), ?_⟩
      refine ⟨_, _, _, kb, _, _, _, _, rfl, hg.opened hl, ⟨?_, ?_, fun g hg' => ?_, fun x hx => ?_⟩⟩
      · simp only [List.map_cons, List.sum_cons, List.length_cons, Pa.sz]
        (first | lia | omega)
      · simp only [List.map_cons, List.sum_cons, Pa.nk]
        (first | lia | omega)
      · rcases List.mem_cons.mp hg' with rfl | hg'
        · exact fun _ h => (nomatch h)
        · exact hb.tg g hg'
      · rcases List.mem_cons.mp hx with rfl | hx
        · exact List.getElem_mem hkl'
        · exact hb.op x hx
    · have hb' : PgN ts gs os kb (i + 1) := ⟨by (first | lia | omega), hb2, hb.tg, hb.op⟩
      refine via (t := u4_2e0e0) (R := fun σ H3 => σ = [some (.int c), some (.ref tg), some (.int md), some (.bl on), some (.ref R), some (.ref T), some (.int (kb : Int)), some (.int (re / 5)), some (.int (0 + (i : Int))), some (.int (re % 5)), v9] ∧ H3 = H2) ?_ fun fin => ?_
      · rintro σ H3 ⟨rfl, rfl⟩
        refine by_eq e4_2e0e0 ?_
        refine via (t := u4_2e0e0t0) (R := fun σ H4 => σ = [some (.int c), some (.ref tg), some (.int md), some (.bl on), some (.ref R), some (.ref T), some (.int (kb : Int)), some (.int (re / 5)), some (.int (0 + (i : Int))), some (.int (re % 5)), v9] ∧ H4 = H3) ?_ fun fin => ?_
        · rintro σ H4 ⟨rfl, rfl⟩
          refine by_eq e4_2e0e0t0 ?_
          refine ⟨_, rfl, _, _, rfl, rfl, ?_⟩
          refine by_eq e4_2e0e0t1 ?_
          -- the innermost row of all
          have hrows := hg.rows
          cases gs with
          | nil => simp at hgl
          | cons g0 gs =>
            cases hrows with
            | @cons b0 _ a1 _ r0 hrows =>
              obtain ⟨vs0, h00, r00⟩ := r0
              have hRl : H4 R = some (.lst ((a1.map V.ref).reverse ++ [.ref b0])) := by rw [hg.hR, List.map_cons, List.reverse_cons]
              have hvl := r00.length
              have hsz0 : g0.sz ≤ 9 := by
                simp only [List.map_cons, List.sum_cons] at hb1
                (first | lia | omega)
              refine ⟨_, rfl, 1, rfl, R, _, -1, .ref b0, rfl, rfl, SqL.of hRl, atI_last _ _, .inl ⟨rfl, _, SqL.of h00⟩, _, rfl, _, rfl, _, _, rfl, rfl, _, rfl, _, _, rfl, rfl, m0, (by show 2 ≤ sizeLine; decide), fun pt hpt => ?_⟩
              have s5 : Same H4 (upd H4 pt (.tup [.str "kids", .int ((re / 5 + (0 + (i : Int))) % md)])) := Same.new hpt
              have npb : pt ≠ b0 := fun z => by rw [z, h00] at hpt; cases hpt
              refine ⟨b0, _, _, rfl, rfl, s5 _ _ h00, len1000' (by (first | lia | omega)), ?_⟩
              refine ⟨_, _, _, kb + 1, _, _, _, _, rfl, hg.put (q := .kids ((re / 5 + (0 + (i : Int))) % md) .nil) h00 r00 s5 (.kids (by rw [upd_ne npb]; exact upd_same) .nil), ⟨?_, ?_, fun g hg' => ?_, hb.op⟩⟩
              · simp only [List.map_cons, List.sum_cons, Pa.sz_app, Pa.sz] at hb1 ⊢
                (first | lia | omega)
              · simp only [List.map_cons, List.sum_cons, Pa.nk_app, Pa.nk] at hb2 ⊢
                (first | lia | omega)
              · rcases List.mem_cons.mp hg' with rfl | hg'
                · intro x hx
                  rw [Pa.tags_app] at hx
                  rcases List.mem_append.mp hx with hx | hx
                  · exact hb.tg g0 (List.mem_cons_self ..) x hx
                  · cases hx
                · exact hb.tg g (List.mem_cons_of_mem _ hg')
        · have stay : ∃ (as : List Addr) (gs : List Pa) (os : List Str) (kb' : Nat) (re' : Int) (v7 v8 v9' : Option V), [some (.int c), some (.ref tg), some (.int md), some (.bl on), some (.ref R), some (.ref T), some (.int (kb : Int)), some (.int (re / 5)), some (.int (0 + (i : Int))), some (.int (re % 5)), v9] = [some (V.int c), some (.ref tg), some (.int md), some (.bl on), some (.ref R), some (.ref T), some (.int (kb' : Int)), some (.int re'), v7, v8, v9'] ∧ PgS H H3 R T as gs os ∧ PgN ts gs os kb' (i + 1) := ⟨_, _, _, kb, _, _, _, _, rfl, hg, hb'⟩
          refine ⟨_, rfl, _, _, rfl, rfl, _, rfl, ite2 (fun d1 => ?_) (fun d1 => iteF stay)⟩
          refine ⟨_, rfl, rfl, _, rfl, ite2 (fun d2 => iteT (fin _ _ ⟨rfl, rfl⟩)) (fun d2 => ?_)⟩
          refine ⟨_, rfl, on, rfl, ?_⟩
          cases on with
          | true => exact iteF stay
          | false => exact iteT (fin _ _ ⟨rfl, rfl⟩)
      · refine by_eq e4_2e0 ?_
        refine ⟨_, rfl, rfl, _, rfl, ite2 (fun c2 => ?_) (fun c2 => iteF (fin _ _ ⟨rfl, rfl⟩))⟩
        refine ⟨_, rfl, T, _, rfl, .inl (SqL.of hg.hT), _, _, rfl, rfl, _, rfl, ite2 (fun c3 => ?_) (fun c3 => fin _ _ ⟨rfl, rfl⟩)⟩
        cases os with
        | nil => exact absurd (of_decide_eq_true c3) (by decide)
        | cons t os =>
          obtain ⟨b0, b1, a2, g0, g1, g2, vs0, vs1, rfl, rfl, h00, r00, h11, r11, hRs, hTs⟩ := hg.two
          have hv1 := r11.length
          have hsz1 : g1.sz ≤ 9 := by
            simp only [List.map_cons, List.sum_cons] at hb1
            (first | lia | omega)
          refine by_eq e4_2e0t0 ?_
          refine ⟨_, rfl, .inl ⟨rfl, _, SqL.of hRs⟩, R, _, _, rfl, rfl, hRs, snoc_last _ _, ?_⟩
          rw [snoc_drop]
          have h0R : (upd H2 R (.lst ((b1 :: a2).map V.ref).reverse)) b0 = some (.lst vs0) := by
            rw [upd_ne (hg.nR b0 (by simp))]
            exact h00
          refine ⟨b0, vs0, rfl, .inl ⟨SqL.of h0R, fun l hl => ?_⟩⟩
          refine by_eq e4_2e0t1 ?_
          have hRb : (upd (upd H2 R (.lst ((b1 :: a2).map V.ref).reverse)) l (.tup vs0)) R = some (.lst ((a2.map V.ref).reverse ++ [.ref b1])) := by
            rw [upd_ne (upd_none hl).1.symm, upd_same, List.map_cons, List.reverse_cons]
          have h1b : (upd (upd H2 R (.lst ((b1 :: a2).map V.ref).reverse)) l (.tup vs0)) b1 = some (.lst vs1) := by
            rw [upd_ne (ne_of_none h11 (upd_none hl).2), upd_ne (hg.nR b1 (by simp))]
            exact h11
          have hTb : (upd (upd H2 R (.lst ((b1 :: a2).map V.ref).reverse)) l (.tup vs0)) T = some (.lst ((os.map V.str).reverse ++ [.str t])) := by
            rw [upd_ne (ne_of_none hg.hT (upd_none hl).2), upd_ne hg.RT.symm]
            exact hTs
          refine ⟨_, rfl, 1, rfl, R, _, -1, .ref b1, rfl, rfl, SqL.of hRb, atI_last _ _, .inl ⟨rfl, _, SqL.of h1b⟩, _, rfl, .inl ⟨rfl, _, SqL.of hTb⟩, T, _, _, rfl, rfl, hTb, snoc_last _ _, ?_⟩
          rw [snoc_drop]
          refine ⟨_, rfl, (by show 3 ≤ sizeLine; decide), fun l2 hl2 => ?_⟩
          obtain ⟨_, _, _, _, z5, z6⟩ := hg.shutting h00 r00 h11 r11 hl hl2
          refine ⟨b1, _, _, rfl, rfl, z5, len1000' (by (first | lia | omega)), ?_⟩
          exact ⟨_, _, _, kb, _, _, _, _, rfl, z6, hb'.shut⟩
  · rintro σ H2 ⟨as, gs, os, kb, re, v7, v8, v9, rfl, hg, hb⟩
    have hsz6 : (gs.map Pa.sz).sum + os.length ≤ 9 := by
      have := hb.sz
      (first | lia | omega)
    have hb' : PgN ts gs os kb 9 := ⟨hsz6, hb.nk, hb.tg, hb.op⟩
    refine by_eq e5 ?_
    let W : Nat → St → Hp → Prop := fun n σ H3 => ∃ (as : List Addr) (gs : List Pa) (os : List Str) (v9 : Option V), σ = [some (.int c), some (.ref tg), some (.int md), some (.bl on), some (.ref R), some (.ref T), some (.int (kb : Int)), some (.int re), v7, v8, v9] ∧ PgS H H3 R T as gs os ∧ PgN ts gs os kb 9 ∧ n = os.length
    refine ⟨W, ⟨_, as, gs, os, v9, rfl, hg, hb', rfl⟩, ?_⟩
    clear hb hsz6
    rintro n σ H3 ⟨as, gs, os, v9, rfl, hg, hb, rfl⟩
    refine ⟨_, rfl, T, _, rfl, .inl (SqL.of hg.hT), _, _, rfl, rfl, _, rfl, ite2 (fun cc => ?_) (fun cc => ?_)⟩
    · cases os with
      | nil => exact absurd (of_decide_eq_true cc) (by decide)
      | cons t os =>
        obtain ⟨b0, b1, a2, g0, g1, g2, vs0, vs1, rfl, rfl, h00, r00, h11, r11, hRs, hTs⟩ := hg.two
        have hv1 := r11.length
        have hsz1 : g1.sz ≤ 9 := by
          have := hb.sz
          simp only [List.map_cons, List.sum_cons] at this
          (first | lia | omega)
        refine ⟨fun σ' H' => ∃ m', m' < (t :: os).length ∧ W m' σ' H', fun _ _ h => h, ?_⟩
        refine by_eq e5_0 ?_
        refine ⟨_, rfl, .inl ⟨rfl, _, SqL.of hRs⟩, R, _, _, rfl, rfl, hRs, snoc_last _ _, ?_⟩
        rw [snoc_drop]
        have h0R : (upd H3 R (.lst ((b1 :: a2).map V.ref).reverse)) b0 = some (.lst vs0) := by
          rw [upd_ne (hg.nR b0 (by simp))]
          exact h00
        refine ⟨b0, vs0, rfl, .inl ⟨SqL.of h0R, fun l hl => ?_⟩⟩
        refine by_eq e5_1 ?_
        have hRb : (upd (upd H3 R (.lst ((b1 :: a2).map V.ref).reverse)) l (.tup vs0)) R = some (.lst ((a2.map V.ref).reverse ++ [.ref b1])) := by
          rw [upd_ne (upd_none hl).1.symm, upd_same, List.map_cons, List.reverse_cons]
        have h1b : (upd (upd H3 R (.lst ((b1 :: a2).map V.ref).reverse)) l (.tup vs0)) b1 = some (.lst vs1) := by
          rw [upd_ne (ne_of_none h11 (upd_none hl).2), upd_ne (hg.nR b1 (by simp))]
          exact h11
        have hTb : (upd (upd H3 R (.lst ((b1 :: a2).map V.ref).reverse)) l (.tup vs0)) T = some (.lst ((os.map V.str).reverse ++ [.str t])) := by
          rw [upd_ne (ne_of_none hg.hT (upd_none hl).2), upd_ne hg.RT.symm]
          exact hTs
        refine ⟨_, rfl, 1, rfl, R, _, -1, .ref b1, rfl, rfl, SqL.of hRb, atI_last _ _, .inl ⟨rfl, _, SqL.of h1b⟩, _, rfl, .inl ⟨rfl, _, SqL.of hTb⟩, T, _, _, rfl, rfl, hTb, snoc_last _ _, ?_⟩
        rw [snoc_drop]
        refine ⟨_, rfl, (by show 3 ≤ sizeLine; decide), fun l2 hl2 => ?_⟩
        obtain ⟨_, _, _, _, z5, z6⟩ := hg.shutting h00 r00 h11 r11 hl hl2
        refine ⟨b1, _, _, rfl, rfl, z5, len1000' (by (first | lia | omega)), ?_⟩
        exact ⟨os.length, by rw [List.length_cons]; (first | lia | omega), _, _, os, _, rfl, z6, hb.shut, rfl⟩
    · cases os with
      | cons t os =>
        refine absurd (decide_eq_true ?_) cc
        show (0 : Int) < ((((t :: os).map V.str).reverse.length : Nat) : Int)
        rw [List.length_reverse, List.length_map, List.length_cons]
        (first | lia | omega)
      | nil =>
        have hgl := hg.gl
        have hrows := hg.rows
        cases gs with
        | nil => simp at hgl
        | cons g gs =>
          obtain rfl : gs = [] := List.eq_nil_of_length_eq_zero (by simpa using hgl)
          cases hrows with
          | @cons b _ _ _ r hrows =>
            cases hrows
            obtain ⟨vs, hbb, hgr⟩ := r
            refine by_eq e6 ?_
            refine ⟨_, rfl, R, _, 0, .ref b, rfl, rfl, SqL.of hg.hR, rfl, b, vs, rfl, .inl ⟨SqL.of hbb, fun r hr => ?_⟩⟩
            have h1 := hb.sz
            have h2 := hb.nk
            simp only [List.map_cons, List.map_nil, List.sum_cons, List.sum_nil] at h1 h2
            have hkb : (kb : Int) = (g.nk : Int) := by (first | lia | omega)
            have z1 := Same.new (o := .tup vs) hr
            refine ⟨_, rfl, (by show 2 ≤ sizeLine; decide), fun r2 hr2 => ?_⟩
            have z2 := Same.new (o := .tup [.ref r, .int (kb : Int)]) hr2
            refine q r2 r vs g _ (hg.sm.trans (z1.trans z2)) (by rw [← hkb]; exact upd_same) (z2 _ _ upd_same) (hgr.mono (z1.trans z2).tk) (by (first | lia | omega)) (hb.tg g (List.mem_cons_self ..))
structure PpC (K : PySem.W.Frag) (C : Addr) : Prop where
  cls : Cls K C
  n1 : NoAttr K C "stream"
  n2 : NoAttr K C "first"
  n3 : NoAttr K C "second"
  n4 : NoAttr K C "told"
  n5 : NoAttr K C "broken_at"
def strB (rs : List (Int × Str × Pa)) : Bool := rs.all fun r => decide (r.2.2.nk ≤ 1)
def spStX (C X : Addr) : Sp := fun vs H Q E => ∃ (a c dx : Addr) (rs : List (Int × Str × Pa)), vs = [.ref a, .ref c] ∧ H a = some (.ins C dx []) ∧ ChR H c rs ∧ (strB rs = true → ∀ H', KeepX [a] H H' → Q .non H') ∧ (strB rs = false → ∀ H', Same H H' → E (.ref X) none H')
set_option maxHeartbeats 2000000 in
theorem ok_Stream___init__ {C : Addr} (B : ∀ x ∈ blts, mg x = none) (c_Stream : StC K C) (xc : XC K mg X_GroveError X_NoGrove X_BadChanger X_NotStraight X_NoChange) (g_straight : Has P w K mg base "straight" ["changer"] 24 spStraight) (g_parts_by_rule : Has P w K mg base "parts_by_rule" ["changer"] 1 spByRule) (F : Fun K "__init__" "Stream.__init__" s_Stream___init__ f fd) : FnOk P w K mg base (CXE P w) 25 f fd ["self", "changer"] (spStX C X_NotStraight) := by
  refine F.okX sc_Stream___init__ (fun vs H Q E h => ?_) (fun cdv A outer s H vs Q E hr h => ?_)
  · obtain ⟨a, c, dx, rs, rfl, _⟩ := h
    rfl
  obtain ⟨a, c, dx, rs, rfl, hA, hC, q1, q2⟩ := h
  refine ⟨_, (pss_cons (ps_if (pt_not (pt_truth (pe_has g_straight hr rfl (pa_cons (pv 1) pa_nil)) (fun _ => rfl)))
      (pss_one (ps_raise0 xc.top_NotStraight xc.ini_NotStraight xc.n_NotStraight takes_def hr rfl (pa_cons pe_str pa_nil)))
      pss_nil)
    (pss_cons (ps_fld (pv 0) (pe_has g_parts_by_rule hr rfl (pa_cons (pv 1) pa_nil)) rfl)
    (pss_cons (ps_fld (pv 0) pe_int rfl)
    (pss_one (ps_fld (pv 0) (pe_lst pa_nil) rfl))))), ?_⟩
  refine ⟨_, rfl, c, rs, rfl, hC, fun H1 s1 => ⟨strB rs, rfl, ?_⟩⟩
  cases cb : strB rs with
  | false =>
    refine iteT ?_
    exact ⟨(by show 1 ≤ 1000; decide), fun y hy => q2 cb _ (s1.trans (Same.new hy))⟩
  | true =>
    refine iteF ?_
    refine ⟨_, rfl, c, rs, rfl, hC.tk s1.tk, fun dk m H2 s2 hdk hdk2 hkn => ?_⟩
    have s12 := s1.trans s2
    have hA2 := s12 _ _ hA
    refine ⟨_, rfl, a, C, dx, _, rfl, hA2, c_Stream.cls, c_Stream.n1, by decide, ?_⟩
    refine ⟨_, rfl, a, C, dx, _, rfl, upd_same, c_Stream.cls, c_Stream.n2, (show 1 < 1000 by decide), ?_⟩
    rw [upd_upd]
    refine ⟨by decide, fun Bl hBg => ?_⟩
    obtain ⟨nBa, hBg2⟩ := upd_none hBg
    refine ⟨_, rfl, a, C, dx, putF "taken" (.int 0) (putF "known" (.ref dk) []), rfl, by rw [upd_ne nBa.symm]; exact upd_same, c_Stream.cls, c_Stream.n3, (show 2 < 1000 by decide), ?_⟩
    refine q1 cb _ fun b o hb e => ?_
    have hb' : b ≠ a := fun z => hb (List.mem_singleton.mpr z)
    rw [upd_ne hb', upd_ne (ne_of_none (s12 _ _ e) hBg2), upd_ne hb']
    exact s12 _ _ e
def spPpX (C X : Addr) : Sp := fun vs H Q E => ∃ (a c p dx : Addr) (rs : List (Int × Str × Pa)) (f : FQ), vs = [.ref a, .ref c, .ref p, .ref p] ∧ H a = some (.ins C dx []) ∧ ChR H c rs ∧ FmQ H p f ∧ OkR f ∧ (strB rs = true → ∀ H', KeepX [a] H H' → Q .non H') ∧ (strB rs = false → ∀ H', Same H H' → E (.ref X) none H')
theorem fmq_tk {H H' : Hp} {p : Addr} {f : FQ} (h : FmQ H p f) (k : TK H H') : FmQ H' p f := by
  obtain ⟨h1, h2, h3, zs, a, b, c, d, e⟩ := h
  exact ⟨h1, h2, h3, zs, k _ _ a, k _ _ b, k _ _ c, k _ _ d, e.keep k⟩
set_option maxHeartbeats 2000000 in
theorem ok_Pipe___init__ {C CS CR : Addr} (B : ∀ x ∈ blts, mg x = none) (c_Stream : StC K CS) (c_Reader : RdC K CR) (c_Pipe : PpC K C) (g_Stream : HasCX P w K mg base CS "Stream" ["self", "changer"] 25 (spStX CS X_NotStraight)) (g_Reader : HasC P w K mg base CR "Reader" ["self", "form"] 2 (spRInit K CR)) (F : Fun K "__init__" "Pipe.__init__" s_Pipe___init__ f fd) : FnOk P w K mg base (CXE P w) 27 f fd ["self", "changer", "before", "behind"] (spPpX C X_NotStraight) := by
  refine F.okX sc_Pipe___init__ (fun vs H Q E h => ?_) (fun cdv A outer s H vs Q E hr h => ?_)
  · obtain ⟨a, c, p, dx, rs, fm, rfl, _⟩ := h
    rfl
  obtain ⟨a, c, p, dx, rs, fm, rfl, hA, hC, hF, ok, q1, q2⟩ := h
  refine ⟨_, (pss_cons (ps_fld (pv 0) (pe_hascX g_Stream takes_def hr rfl (pa_cons (pv 1) pa_nil)) rfl)
    (pss_cons (ps_fld (pv 0) (pe_hasc g_Reader hr rfl (pa_cons (pv 2) pa_nil)) rfl)
    (pss_cons (ps_fld (pv 0) (pe_hasc g_Reader hr rfl (pa_cons (pv 3) pa_nil)) rfl)
    (pss_cons (ps_fld (pv 0) (pe_lst pa_nil) rfl)
    (pss_one (ps_fld (pv 0) pe_non rfl)))))), ?_⟩
  refine ⟨_, rfl, fun x dx1 hx hdx hn => ?_⟩
  have s1 : Same H (upd (upd H dx1 (.own x)) x (.ins CS dx1 [])) := (Same.new hdx).upd_new hx
  refine ⟨x, c, dx1, rs, rfl, upd_same, hC.tk s1.tk, fun hst H2 k2 => ⟨rfl, ?_⟩, fun hs H2 s2 => q2 hs _ (s1.trans s2)⟩
  have s2 : Same H H2 := fun b o e => k2 b o (fun z => by rw [List.mem_singleton.mp z, hx] at e; cases e) (s1 _ _ e)
  clear k2 s1
  refine ⟨_, rfl, a, C, dx, _, rfl, s2 _ _ hA, c_Pipe.cls, c_Pipe.n1, by decide, ?_⟩
  have na : ∀ b xs, H b = some (.tup xs) → b ≠ a := fun b xs e z => by rw [z, hA] at e; cases e
  have kA : ∀ {H2 : Hp} {o : HO}, KeepX [a] H H2 → KeepX [a] H (upd H2 a o) := fun {H2 o} k b u hb e => by
    rw [upd_ne (fun z => hb (List.mem_singleton.mpr z))]
    exact k b u hb e
  have kT : ∀ {H2 : Hp}, KeepX [a] H H2 → TK H H2 := fun {H2} k b xs e => k b _ (fun z => na b xs e (List.mem_singleton.mp z)) e
  have k3 : KeepX [a] H (upd H2 a (.ins C dx (putF "stream" (.ref x) []))) := kA fun b o _ e => s2 _ _ e
  have hA3 : (upd H2 a (.ins C dx (putF "stream" (.ref x) []))) a = some (.ins C dx (putF "stream" (.ref x) [])) := upd_same
  generalize upd H2 a (.ins C dx (putF "stream" (.ref x) [])) = H3 at k3 hA3 ⊢
  clear s2
  refine ⟨_, rfl, fun y dy hy hdy hn2 => ?_⟩
  have s4 : Same H3 (upd (upd H3 dy (.own y)) y (.ins CR dy [])) := (Same.new hdy).upd_new hy
  refine ⟨y, p, dy, fm, rfl, upd_same, fmq_tk hF ((kT k3).trans s4.tk), ok, fun H5 L T R hs kp _ _ _ _ _ => ⟨rfl, ?_⟩⟩
  have s5 : Same H3 H5 := fun b o e => kp b o (fun z => by rw [z, hy] at e; cases e) (s4 _ _ e)
  clear kp s4
  have k5 : KeepX [a] H H5 := fun b o hb e => s5 _ _ (k3 b o hb e)
  refine ⟨_, rfl, a, C, dx, _, rfl, s5 _ _ hA3, c_Pipe.cls, c_Pipe.n2, (show 1 < 1000 by decide), ?_⟩
  have k6 : KeepX [a] H (upd H5 a (.ins C dx (putF "first" (.ref y) (putF "stream" (.ref x) [])))) := kA k5
  have hA6 : (upd H5 a (.ins C dx (putF "first" (.ref y) (putF "stream" (.ref x) [])))) a = some (.ins C dx (putF "first" (.ref y) (putF "stream" (.ref x) []))) := upd_same
  generalize upd H5 a (.ins C dx (putF "first" (.ref y) (putF "stream" (.ref x) []))) = H6 at k6 hA6 ⊢
  refine ⟨_, rfl, fun z dz hz hdz hn3 => ?_⟩
  have s7 : Same H6 (upd (upd H6 dz (.own z)) z (.ins CR dz [])) := (Same.new hdz).upd_new hz
  refine ⟨z, p, dz, fm, rfl, upd_same, fmq_tk hF ((kT k6).trans s7.tk), ok, fun H8 L T R hs kp _ _ _ _ _ => ⟨rfl, ?_⟩⟩
  have s8 : Same H6 H8 := fun b o e => kp b o (fun w => by rw [w, hz] at e; cases e) (s7 _ _ e)
  have k8 : KeepX [a] H H8 := fun b o hb e => s8 _ _ (k6 b o hb e)
  refine ⟨_, rfl, a, C, dx, _, rfl, s8 _ _ hA6, c_Pipe.cls, c_Pipe.n3, (show 2 < 1000 by decide), ?_⟩
  have k9 : KeepX [a] H (upd H8 a (.ins C dx (putF "second" (.ref z) (putF "first" (.ref y) (putF "stream" (.ref x) []))))) := kA k8
  have hA9 : (upd H8 a (.ins C dx (putF "second" (.ref z) (putF "first" (.ref y) (putF "stream" (.ref x) []))))) a = some (.ins C dx (putF "second" (.ref z) (putF "first" (.ref y) (putF "stream" (.ref x) [])))) := upd_same
  generalize upd H8 a (.ins C dx (putF "second" (.ref z) (putF "first" (.ref y) (putF "stream" (.ref x) [])))) = H9 at k9 hA9 ⊢
  refine ⟨by decide, fun tl htl => ?_⟩
  have st := Same.new (o := .lst []) htl
  refine ⟨_, rfl, a, C, dx, _, rfl, st _ _ hA9, c_Pipe.cls, c_Pipe.n4, (show 3 < 1000 by decide), ?_⟩
  have k10 : KeepX [a] H (upd (upd H9 tl (.lst [])) a (.ins C dx (putF "told" (.ref tl) (putF "second" (.ref z) (putF "first" (.ref y) (putF "stream" (.ref x) [])))))) := kA fun b o hb e => st _ _ (k9 b o hb e)
  refine ⟨_, rfl, a, C, dx, _, rfl, upd_same, c_Pipe.cls, c_Pipe.n5, (show 4 < 1000 by decide), ?_⟩
  exact q1 hst _ (kA k10)
def rkP (r : Int × Str × Pa) : Srd.Ps := (r.1, r.2.1)
theorem psK_inj {a b : Srd.Ps} (h : psK a = psK b) : a = b := by
  obtain ⟨a1, a2⟩ := a
  obtain ⟨b1, b2⟩ := b
  have : ([Sum.inl a1, Sum.inr a2] : List Key) = [Sum.inl b1, Sum.inr b2] := h
  simp only [List.cons.injEq, Sum.inl.injEq, Sum.inr.injEq, and_true] at this
  rw [this.1, this.2]
/-- rules in a dict by (mode, tag), each with its parts and how many kids are in them -/
def MdV (H : Hp) (kv : List Key × V) (r : Int × Str × Pa) : Prop := kv.1 = psK (rkP r) ∧ ∃ v q ys, kv.2 = V.ref v ∧ H v = some (.tup [.ref q, .int (r.2.2.nk : Int)]) ∧ H q = some (.tup ys) ∧ RepP H ys r.2.2
def MdL (H : Hp) (m : List (List Key × V)) (rs : List (Int × Str × Pa)) : Prop := Paired (MdV H) m rs
theorem MdL.tk {H H' : Hp} (k : TK H H') : ∀ {m : List (List Key × V)} {rs : List (Int × Str × Pa)}, MdL H m rs → MdL H' m rs
  | _, _, .nil => .nil
  | _, _, .cons ⟨e, v, q, ys, h1, h2, h3, h4⟩ t => .cons ⟨e, v, q, ys, h1, k _ _ h2, k _ _ h3, h4.mono k⟩ (MdL.tk k t)
structure GdR (rs : List (Int × Str × Pa)) : Prop where
  sz : ∀ r ∈ rs, r.2.2.sz ≤ 9
  tg : ∀ r ∈ rs, PyData.strOk r.2.1 = true
  nd : (rs.map rkP).Nodup
theorem MdL.keys {H : Hp} : ∀ {m : List (List Key × V)} {rs : List (Int × Str × Pa)}, MdL H m rs → m.map (·.1) = (rs.map rkP).map psK
  | _, _, .nil => rfl
  | _, _, .cons ⟨e, _⟩ t => by rw [List.map_cons, List.map_cons, List.map_cons, e, MdL.keys t]
theorem nd_key {rs : List (Int × Str × Pa)} (nd : (rs.map rkP).Nodup) : ∀ a ∈ rs, ∀ b ∈ rs, rkP a = rkP b → a = b := by
  induction rs with
  | nil => exact fun a h => nomatch h
  | cons x xs ih =>
    rw [List.map_cons, List.nodup_cons] at nd
    intro a ha b hb e
    rcases List.mem_cons.mp ha with h1 | h1
    · rcases List.mem_cons.mp hb with h2 | h2
      · rw [h1, h2]
      · exact absurd (List.mem_map.mpr ⟨b, h2, by rw [← e, h1]⟩) nd.1
    · rcases List.mem_cons.mp hb with h2 | h2
      · exact absurd (List.mem_map.mpr ⟨a, h1, by rw [e, h2]⟩) nd.1
      · exact ih nd.2 a h1 b h2 e
theorem MdL.val {H : Hp} : ∀ {m : List (List Key × V)} {rs : List (Int × Str × Pa)}, MdL H m rs → ∀ k : Srd.Ps, (k ∉ rs.map rkP ∧ valV m (psK k) = none) ∨ ∃ r v q ys, r ∈ rs ∧ rkP r = k ∧ valV m (psK k) = some (.ref v) ∧ H v = some (.tup [.ref q, .int (r.2.2.nk : Int)]) ∧ H q = some (.tup ys) ∧ RepP H ys r.2.2
  | _, _, .nil, k => .inl ⟨by simp, rfl⟩
  | _, _, .cons (a := kv) (b := r) (l₁ := m) ⟨e, v, q, ys, h1, h2, h3, h4⟩ t, k => by
    obtain ⟨kk, vv⟩ := kv
    have e : kk = psK (rkP r) := e
    have h1 : vv = V.ref v := h1
    subst e h1
    by_cases c : rkP r = k
    · refine .inr ⟨r, v, q, ys, by simp, c, ?_, h2, h3, h4⟩
      rw [← c]
      exact valV_pos rfl
    · have c' : psK (rkP r) ≠ psK k := fun z => c (psK_inj z)
      have ev : valV ((psK (rkP r), V.ref v) :: m) (psK k) = valV m (psK k) := valV_neg c'
      rw [ev]
      rcases MdL.val t k with ⟨h, hv⟩ | ⟨r', v', q', ys', h, z⟩
      · refine .inl ⟨fun z => ?_, hv⟩
        rw [List.map_cons] at z
        rcases List.mem_cons.mp z with z | z
        · exact c z.symm
        · exact h z
      · exact .inr ⟨r', v', q', ys', List.mem_cons_of_mem _ h, z⟩
theorem MdL.val1 {H : Hp} {m : List (List Key × V)} {rs : List (Int × Str × Pa)} (h : MdL H m rs) (nd : (rs.map rkP).Nodup) (r : Int × Str × Pa) (hr : r ∈ rs) : ∃ v q ys, valV m (psK (rkP r)) = some (.ref v) ∧ H v = some (.tup [.ref q, .int (r.2.2.nk : Int)]) ∧ H q = some (.tup ys) ∧ RepP H ys r.2.2 := by
  rcases h.val (rkP r) with ⟨no, _⟩ | ⟨r', v, q, ys, h1, h2, h3, h4, h5, h6⟩
  · exact absurd (List.mem_map_of_mem hr) no
  · rw [nd_key nd r' h1 r hr h2] at h4 h6
    exact ⟨v, q, ys, h3, h4, h5, h6⟩
theorem MdL.put {H : Hp} {m : List (List Key × V)} {rs : List (Int × Str × Pa)} (h : MdL H m rs) (ho : GdR rs) {r : Int × Str × Pa} {v q : Addr} {ys : List V} (hv : H v = some (.tup [.ref q, .int (r.2.2.nk : Int)])) (hq : H q = some (.tup ys)) (hp : RepP H ys r.2.2) (hi : r.2.2.sz ≤ 9) (ht : PyData.strOk r.2.1 = true) : ∃ rs', MdL H (putK m (psK (rkP r)) (.ref v)) rs' ∧ GdR rs' ∧ rs'.length ≤ rs.length + 1 := by
  by_cases c : rkP r ∈ rs.map rkP
  · have c2 : (m.any fun kv => decide (kv.1 = psK (rkP r))) = true := by
      have : psK (rkP r) ∈ m.map (·.1) := by
        rw [h.keys]
        exact List.mem_map_of_mem c
      obtain ⟨kv, hkv, e⟩ := List.mem_map.mp this
      exact List.any_eq_true.mpr ⟨kv, hkv, decide_eq_true e⟩
    unfold putK
    rw [if_pos c2]
    let g : Int × Str × Pa → Int × Str × Pa := fun x => if rkP x = rkP r then r else x
    have hg : ∀ x, rkP (g x) = rkP x := fun x => by
      by_cases z : rkP x = rkP r
      · simp only [g, if_pos z]
        exact z.symm
      · simp only [g, if_neg z]
    refine ⟨rs.map g, ?_, ⟨fun x hx => ?_, fun x hx => ?_, ?_⟩, by rw [List.length_map]; (first | lia | omega)⟩
    · clear c ho c2
      induction h with
      | nil => exact .nil
      | @cons kv x m rs hh tl ih =>
        refine .cons ?_ ih
        obtain ⟨e, e0⟩ := hh
        by_cases z : kv.1 = psK (rkP r)
        · have z' : rkP x = rkP r := psK_inj (e.symm.trans z)
          simp only [g, if_pos z, if_pos z']
          exact ⟨z, v, q, ys, rfl, hv, hq, hp⟩
        · have z' : ¬ rkP x = rkP r := fun w => z (e.trans (congrArg psK w))
          simp only [g, if_neg z, if_neg z']
          exact ⟨e, e0⟩
    · obtain ⟨x0, hx0, rfl⟩ := List.mem_map.mp hx
      by_cases z : rkP x0 = rkP r
      · simp only [g, if_pos z]
        exact hi
      · simp only [g, if_neg z]
        exact ho.sz x0 hx0
    · obtain ⟨x0, hx0, rfl⟩ := List.mem_map.mp hx
      by_cases z : rkP x0 = rkP r
      · simp only [g, if_pos z]
        exact ht
      · simp only [g, if_neg z]
        exact ho.tg x0 hx0
    · rw [List.map_map, show rkP ∘ g = rkP from funext hg]
      exact ho.nd
  · have c2 : (m.any fun kv => decide (kv.1 = psK (rkP r))) = false := by
      refine Bool.eq_false_iff.mpr fun z => ?_
      obtain ⟨kv, hkv, z⟩ := List.any_eq_true.mp z
      have z := of_decide_eq_true z
      have e : kv.1 ∈ (rs.map rkP).map psK := by
        rw [← h.keys]
        exact List.mem_map_of_mem hkv
      obtain ⟨k, hk, e⟩ := List.mem_map.mp e
      rw [z] at e
      exact c (psK_inj e ▸ hk)
    unfold putK
    rw [c2]
    refine ⟨rs ++ [r], Paired.app h (.cons ⟨rfl, v, q, ys, rfl, hv, hq, hp⟩ .nil), ⟨fun x hx => ?_, fun x hx => ?_, ?_⟩, by rw [List.length_append]; exact Nat.le_refl _⟩
    · rcases List.mem_append.mp hx with hx | hx
      · exact ho.sz x hx
      · rw [List.mem_singleton.mp hx]
        exact hi
    · rcases List.mem_append.mp hx with hx | hx
      · exact ho.tg x hx
      · rw [List.mem_singleton.mp hx]
        exact ht
    · rw [List.map_append]
      refine List.nodup_append.mpr ⟨ho.nd, by simp, fun x hx y hy e => ?_⟩
      have hy : y = rkP r := by simpa using hy
      rw [e, hy] at hx
      exact c hx
theorem MdL.at {H : Hp} {m : List (List Key × V)} {rs : List (Int × Str × Pa)} (h : MdL H m rs) : ∀ (i : Nat) k v, m[i]? = some (k, v) → ∃ r, rs[i]? = some r ∧ k = psK (rkP r) := by
  induction h with
  | nil => intro i k v e; cases i <;> cases e
  | @cons kv x m rs hh tl ih =>
    intro i k v e
    cases i with
    | zero =>
      injection e with e
      subst e
      exact ⟨x, rfl, hh.1⟩
    | succ i => exact ih i k v e
def spRules68 (K : PySem.W.Frag) : Sp := fun vs H Q _ => ∃ (a tg : Addr) (ns : List Int) (md : Int) (ts : List Str) (on : Bool), vs = [.ref a, .int md, .ref tg, .bl on] ∧ SqL K H a (ns.map V.int) ∧ ns.length ≤ 63 ∧ 0 < md ∧ md < 100 ∧ H tg = some (.lst (ts.map V.str)) ∧ ts.length = 3 ∧ (∀ t ∈ ts, PyData.strOk t = true) ∧ ∀ (d : Addr) (m : List (List Key × V)) (rs : List (Int × Str × Pa)) (H' : Hp), Same H H' → H d = none → H' d = some (.dT m) → MdL H' m rs → GdR rs → rs.length ≤ 10 → Q (.ref d) H'
set_option maxHeartbeats 4000000 in
theorem ok_l_rules (B : ∀ x ∈ blts, mg x = none) (g_l_cell : Has P w K mg base "_law_cell" ["_law_script", "_law_k"] 1 (spCellS K)) (g_l_parts : Has P w K mg base "_law_parts" ["_law_cell_here", "_law_tags_here", "_law_modes", "_law_once"] 1 spParts68) (F : Fun K "_law_rules" "_law_rules" s_l_rules f fd) : FnOk P w K mg base CX0 2 f fd ["_law_script", "_law_modes", "_law_tags_here", "_law_once"] (spRules68 K) := by
  refine F.ok sc_l_rules (fun vs H Q E h => ?_) (fun cdv A outer s H vs Q E hr h => ?_)
  · obtain ⟨a, tg, ns, md, ts, on, rfl, _⟩ := h
    rfl
  obtain ⟨a, tg, ns, md, ts, on, rfl, hS, h63, m0, m1, htg, ht3, htok, q⟩ := h
  have hu1 : (A.deeper (PyProof.Rows.envOfC (Str.ofString "_law_rules") (defScope s_l_rules) s.heap.objs.size f cdv)).units + 1 < cLine := by have := hr.un; (first | lia | omega)
  refine hideI ((defBody s_l_rules).drop 2) (pss_one (ps_ret (pv 4))) (fun u2 h2 e2 => ?_)
  refine hideI ((sBody ((defBody s_l_rules).getD 1 (.Pass ⟨0, 0, 0, 0⟩))).drop 2) (pss_one (ps_dput hu1 (pv 4) (pe_tup (pa_cons (pe_op op_mod (pv 6) (pv 1)) (pa_cons (pe_ix ix_list (pv 2) (pe_op op_mod (pe_op op_fdiv (pv 6) pe_int) pe_int) (fun _ _ => rfl)) pa_nil))) (pe_tup (pa_cons (pv 7) (pa_cons (pv 8) pa_nil))) rfl)) (fun u1_2 h1_2 e1_2 => ?_)
  refine hideI ((sBody ((defBody s_l_rules).getD 1 (.Pass ⟨0, 0, 0, 0⟩))).drop 1) (pss_cons (ps_asg (pe_has g_l_parts hr rfl (pa_cons (pe_op op_mod (pe_has g_l_cell hr rfl (pa_cons (pv 0) (pa_cons (pe_op op_add pe_int (pv 5)) pa_nil))) (pe_op op_pow pe_int pe_int)) (pa_cons (pv 2) (pa_cons (pv 1) (pa_cons (pv 3) pa_nil))))) (pg_tup rfl (pgs_cons (pg_name (i := 7) sc_l_rules.nd rfl (Or.inl rfl)) (pgs_cons (pg_name (i := 8) sc_l_rules.nd rfl (Or.inl rfl)) pgs_nil)))) h1_2) (fun u1_1 h1_1 e1_1 => ?_)
  refine hideI ((sBody ((defBody s_l_rules).getD 1 (.Pass ⟨0, 0, 0, 0⟩))).drop 0) (pss_cons (ps_set (i := 6) sc_l_rules.nd rfl (Or.inl rfl) (pe_op op_mod (pe_has g_l_cell hr rfl (pa_cons (pv 0) (pa_cons (pe_op op_add pe_int (pv 5)) pa_nil))) (pe_op op_pow pe_int pe_int))) h1_1) (fun u1_0 h1_0 e1_0 => ?_)
  refine hideI ((defBody s_l_rules).drop 1) (pss_cons (ps_for PassesOwn.never rfl (pi_range1 rfl (B "range" (by decide)) (pa_cons (pe_op op_mod (pe_has g_l_cell hr rfl (pa_cons (pv 0) (pa_cons pe_int pa_nil))) pe_int) pa_nil)) (pg_name (i := 5) sc_l_rules.nd rfl (Or.inl rfl))
      h1_0) h2) (fun u1 h1 e1 => ?_)
  refine hideI ((defBody s_l_rules).drop 0) (pss_cons (ps_set (i := 4) sc_l_rules.nd rfl (Or.inl rfl) pe_dnewT) h1) (fun u0 h0 e0 => ?_)
  refine ⟨u0, h0, ?_⟩
  refine by_eq e0 ?_
  refine fun d hd => ?_
  have s0 : Same H (upd H d (.dT [])) := Same.new hd
  have hd0 : (upd H d (.dT [])) d = some (.dT []) := upd_same
  show u1 _ _ _
  refine by_eq e1 ?_
  generalize upd H d (.dT []) = H0 at s0 hd0 ⊢
  refine ⟨_, rfl, a, ns, 1, rfl, s0.seq hS, h63, by decide, by decide, fun v1 => ⟨_, _, rfl, rfl, (by show (0 : Int) < 7; decide), ?_⟩⟩
  have n0 := Int.emod_nonneg v1 (by decide : (7 : Int) ≠ 0)
  have n1 := Int.emod_lt_of_pos v1 (by decide : (0 : Int) < 7)
  refine ⟨_, rfl, by (first | lia | omega), by (first | lia | omega), for_range (lo := 0) (n := (v1 % 7).toNat) (fun i σ H1 => ∃ (v5 v6 v7 v8 : Option V) (m : List (List Key × V)) (rs : List (Int × Str × Pa)), σ = [some (.ref a), some (.int md), some (.ref tg), some (.bl on), some (.ref d), v5, v6, v7, v8] ∧ Same H H1 ∧ H1 d = some (.dT m) ∧ MdL H1 m rs ∧ GdR rs ∧ rs.length ≤ i)
    ⟨none, none, none, none, [], [], rfl, s0, hd0, .nil, ⟨fun _ h => (nomatch h), fun _ h => (nomatch h), List.nodup_nil⟩, Nat.le_refl _⟩ ?_ ?_⟩
  · rintro i σ H1 hi ⟨v5, v6, v7, v8, m, rs, rfl, s1, hd1, hm, hg, hrl⟩
    show u1_0 _ [some (.ref a), some (.int md), some (.ref tg), some (.bl on), some (.ref d), some (.int (0 + (i : Int))), v6, v7, v8] H1
    refine by_eq e1_0 ?_
    refine ⟨_, rfl, _, rfl, _, _, rfl, rfl, a, ns, _, rfl, s1.seq hS, h63, by (first | lia | omega), by (first | lia | omega), fun vc => ⟨_, _, rfl, rfl, ⟨by decide, by decide, by decide⟩, _, _, rfl, rfl, (by show (0 : Int) < 10 ^ 9; decide), ?_⟩⟩
    show u1_1 _ [some (.ref a), some (.int md), some (.ref tg), some (.bl on), some (.ref d), some (.int (0 + (i : Int))), some (.int (vc % 10 ^ 9)), v7, v8] H1
    generalize vc % 10 ^ 9 = cl
    refine by_eq e1_1 ?_
    refine ⟨_, rfl, _, rfl, _, _, rfl, rfl, a, ns, _, rfl, s1.seq hS, h63, by (first | lia | omega), by (first | lia | omega), fun vd => ⟨_, _, rfl, rfl, ⟨by decide, by decide, by decide⟩, _, _, rfl, rfl, (by show (0 : Int) < 10 ^ 12; decide), ?_⟩⟩
    refine ⟨_, rfl, _, rfl, _, rfl, _, md, tg, ts, on, rfl, m0, m1, s1 _ _ htg, ht3, fun r qp ys p H2 s2 hr2 hq2 hp2 hsz htags => ?_⟩
    refine ⟨r, _, rfl, SqT.of hr2, rfl, _, _, rfl, _, _, rfl, rfl, ?_⟩
    show u1_2 _ [some (.ref a), some (.int md), some (.ref tg), some (.bl on), some (.ref d), some (.int (0 + (i : Int))), some (.int cl), some (.ref qp), some (.int (p.nk : Int))] H2
    refine by_eq e1_2 ?_
    obtain ⟨k, hk, hkl⟩ := modN (cl / 4) (n := 3) (by decide)
    have hkl' : k < ts.length := by (first | lia | omega)
    have hat : atI (ts.map V.str) (cl / 4 % 3) = some (.str ts[k]) := by
      have := strs_at (ws := ts) (n := k) hkl'
      rw [← hk] at this
      exact this
    have s12 := s1.trans s2
    refine ⟨_, rfl, _, rfl, (by show 2 ≤ sizeLine; decide), fun vt hvt => ?_⟩
    have z1 := Same.new (o := .tup [.ref qp, .int (p.nk : Int)]) hvt
    refine ⟨_, rfl, _, rfl, _, rfl, _, _, rfl, rfl, m0, _, rfl, _, rfl, _, _, rfl, rfl, ⟨by decide, by decide⟩, _, _, rfl, rfl, (by show (0 : Int) < 3; decide), tg, _, _, _, rfl, rfl, SqL.of ((s12.trans z1) _ _ htg), hat, (by show 2 ≤ sizeLine; decide), fun kt hkt => ?_⟩
    have z2 := Same.new (o := .tup [.int (cl % md), .str ts[k]]) hkt
    have z12 := z1.trans z2
    have hd2 := (s2.trans z12) _ _ hd1
    have hml : m.length = rs.length := Paired.length hm
    refine ⟨d, _, rfl, DPut.t (k := psK (cl % md, ts[k])) hd2 upd_same (len1000' (by (first | lia | omega))), ?_⟩
    have tkd : TK (upd (upd H2 vt (.tup [.ref qp, .int (p.nk : Int)])) kt (.tup [.int (cl % md), .str ts[k]])) (upd (upd (upd H2 vt (.tup [.ref qp, .int (p.nk : Int)])) kt (.tup [.int (cl % md), .str ts[k]])) d (.dT (putK m (psK (cl % md, ts[k])) (.ref vt)))) := fun b ys e => by
      rw [upd_ne (ne_of e hd2 (fun z => nomatch z))]
      exact e
    have tk := z12.tk.trans tkd
    obtain ⟨rs', g1, g2, g3⟩ := ((hm.tk s2.tk).tk tk).put hg (r := (cl % md, ts[k], p)) (tkd _ _ (z2 _ _ upd_same)) (tk _ _ hq2) (hp2.mono tk) hsz (htok _ (List.getElem_mem hkl'))
    exact ⟨_, _, _, _, _, rs', rfl, (s12.trans z12).upd_new hd, upd_same, g1, g2, by (first | lia | omega)⟩
  · rintro σ H1 ⟨v5, v6, v7, v8, m, rs, rfl, s1, hd1, hm, hg, hrl⟩
    show u2 _ _ _
    refine by_eq e2 ?_
    exact ⟨_, rfl, q d m rs H1 s1 hd hd1 hm hg (by (first | lia | omega))⟩
def spChg68 : Sp := fun vs H Q _ => ∃ (md : Int) (d : Addr) (m : List (List Key × V)) (rs : List (Int × Str × Pa)), vs = [.int md, .ref d] ∧ H d = some (.dT m) ∧ MdL H m rs ∧ GdR rs ∧ rs.length ≤ 10 ∧ ∀ (c : Addr) (rs' : List (Int × Str × Pa)) (H' : Hp), Same H H' → ChR H' c rs' → (∀ r, r ∈ rs' ↔ r ∈ rs) → Q (.ref c) H'
set_option maxHeartbeats 2000000 in
theorem ok_l_changer (B : ∀ x ∈ blts, mg x = none) (F : Fun K "_law_changer" "_law_changer" s_l_changer f fd) : FnOk P w K mg base CX0 1 f fd ["_law_modes", "_law_made"] spChg68 := by
  refine F.ok sc_l_changer (fun vs H Q E h => ?_) (fun cdv A outer s H vs Q E hr h => ?_)
  · obtain ⟨md, d, m, rs, rfl, _⟩ := h
    rfl
  obtain ⟨md, d, m, rs, rfl, hd1, hm, hg, hrl, q⟩ := h
  have hu1 : (A.deeper (PyProof.Rows.envOfC (Str.ofString "_law_changer") (defScope s_l_changer) s.heap.objs.size f cdv)).units + 1 < cLine := by have := hr.un; (first | lia | omega)
  have hml : m.length = rs.length := Paired.length hm
  refine ⟨_, (pss_one (ps_ret (pe_tup (pa_cons (pv 0) (pa_cons (pe_callTy call_tuple_of rfl (B "tuple" (by decide)) bt_tuple (pa_cons (pe_comp (cl := _) ["_law_key"] [("_law_made", 1)] (pi_list (pe_callB (call_sorted_dPs rfl) rfl (B "sorted" (by decide)) bt_sorted (pa_cons (pv 1) pa_nil))) (fun _ _ _ _ => (pg_name (i := 0) (show List.Nodup (["_law_key", "_law_made"] : List Str) by decide) rfl (Or.inl rfl))) (fun _ _ _ _ => (pe_tup (pa_cons (pe_ix (ix_tupK (K := K) rfl) (pv 0) pe_int (fun _ _ => rfl)) (pa_cons (pe_ix (ix_tupK (K := K) rfl) (pv 0) pe_int (fun _ _ => rfl)) (pa_cons (pe_ix (ix_tupK (K := K) rfl) (pe_dget hu1 (pv 1) (pv 0) (fun _ _ => rfl)) pe_int (fun _ _ => rfl)) pa_nil))))) rfl rfl (by decide) rfl (by decide) (cap_cl (by (repeat' first | exact List.forall_mem_nil _ | refine List.forall_mem_cons.mpr ⟨?_, ?_⟩) <;> rfl)) (cap_has (by (repeat' first | exact List.forall_mem_nil _ | refine List.forall_mem_cons.mpr ⟨?_, ?_⟩) <;> first | (intro h; exact ⟨_, rfl⟩) | (intro h; exact absurd h (by decide)))) (fun _ => by (repeat' first | exact List.forall_mem_nil _ | refine List.forall_mem_cons.mpr ⟨?_, ?_⟩) <;> exact ⟨rfl, rfl, Or.inl rfl⟩) (fun _ => rfl)) pa_nil)) pa_nil))))), ?_⟩
  refine ⟨_, rfl, _, rfl, d, m, rs.map rkP, rfl, hd1, by (first | lia | omega), hm.keys, fun ks zk kl hk0 hperm hup hks => ?_⟩
  have s2 := Same.new (o := .lst zk) hk0
  have hkl : kl.length = rs.length := by rw [hperm.length_eq, List.length_map]
  have hzk : zk.length = kl.length := hks.length
  have hk2 : (upd H ks (.lst zk)) ks = some (.lst zk) := upd_same
  have hks2 := hks.keep s2.tk
  have hd2 := s2 _ _ hd1
  have hm2 := hm.tk s2.tk
  generalize upd H ks (.lst zk) = H2 at s2 hk2 hks2 hd2 hm2 ⊢
  refine ⟨ks, rfl, ⟨_, SqL.of hk2⟩, fun pc hpc => ?_⟩
  refine comp_list (K := K) (a := ks) (p := pc) (xs := zk) (fun i us σ H6 => ∃ (w0 : Option V) (ms : List (Int × Str × Pa)), σ = [w0, some (.ref d)] ∧ Same H2 H6 ∧ H6 pc = some (.lst us) ∧ us.length = i ∧ RlL H6 us ms ∧ (∀ r ∈ ms, r ∈ rs) ∧ ms.map rkP = kl.take i)
    ⟨none, [], rfl, Same.new hpc, upd_same, rfl, .nil, fun _ h => (nomatch h), rfl⟩ ?_ ?_ ?_
  · rintro i us σ H6 _ ⟨_, _, _, s6, h, _⟩
    exact ⟨SqL.of (s6 _ _ hk2), h⟩
  · rintro i us x σ H6 hi hx ⟨w0, ms, rfl, s6, hp6, hul, hrl6, hmem, hkey⟩
    obtain ⟨pk, kk, e1, rfl, e3⟩ := hks2.get i x hx
    have hkm : kk ∈ rs.map rkP := hperm.mem_iff.mp (List.mem_of_getElem? e1)
    obtain ⟨r, hr0, rfl⟩ := List.mem_map.mp hkm
    obtain ⟨v, qp, yp, hv, x1, x2, x3⟩ := hm2.val1 hg.nd r hr0
    have e6 : H6 pk = some (.tup [.int r.1, .str r.2.1]) := s6 _ _ e3
    have hgt : DGet H6 d (.ref pk) (some (.ref v)) := by
      have := DGet.t (k := psK (rkP r)) (s6 _ _ hd2) (show H6 pk = some (.tup ((psK (rkP r)).map kV)) from e6)
      rw [hv] at this
      exact this
    refine ⟨_, rfl, pk, _, 0, _, rfl, rfl, SqT.of e6, rfl, _, rfl, pk, _, 1, _, rfl, rfl, SqT.of e6, rfl, _, rfl, _, rfl, d, _, rfl, hgt, v, _, 0, _, rfl, rfl, SqT.of (s6 _ _ x1), rfl, (by show 3 ≤ sizeLine; decide), fun t3 ht3 => ?_⟩
    have s8 := Same.new (o := .tup [.int r.1, .str r.2.1, .ref qp]) ht3
    have hp8 := s8 _ _ hp6
    have tk := s8.tk.trans (TK.lst (o := .lst (us ++ [.ref t3])) hp8)
    have nt : t3 ≠ pc := fun z => nomatch ((z ▸ ht3 : _ = none).symm.trans hp6)
    refine ⟨hp8, len1000' (by (first | lia | omega)), CW.next hi ⟨_, ms ++ [r], rfl, (s6.trans s8).upd_new hpc, upd_same, by rw [List.length_append, List.length_singleton, hul], Paired.app (hrl6.tk tk) (.cons ⟨t3, qp, yp, rfl, ?_, tk _ _ (s6 _ _ x2), (x3.mono s6.tk).mono tk⟩ .nil), fun r' hr' => ?_, ?_⟩⟩
    · rw [upd_ne nt]
      exact upd_same
    · rcases List.mem_append.mp hr' with hr' | hr'
      · exact hmem r' hr'
      · rw [List.mem_singleton.mp hr']
        exact hr0
    · rw [take_succ' e1, List.map_append, hkey]
      rfl
  rintro us σ H6 ⟨w0, ms, rfl, s6, hp6, hul, hrl6, hmem, hkey⟩
  rw [hzk, List.take_length] at hkey
  refine ⟨pc, us, rfl, .inl ⟨SqL.of hp6, fun T hT => ?_⟩⟩
  have s7 := Same.new (o := .tup us) hT
  refine ⟨(by show 2 ≤ sizeLine; decide), fun ca hca => ?_⟩
  have s8 := Same.new (o := .tup [.int md, .ref T]) hca
  have hmsl : ms.length = rs.length := by
    have := congrArg List.length hkey
    rw [List.length_map] at this
    (first | lia | omega)
  refine q ca ms _ (s2.trans (s6.trans (s7.trans s8))) ⟨md, T, us, upd_same, s8 _ _ upd_same, hrl6.tk (s7.trans s8).tk, by (first | lia | omega), fun r hr => by have := hg.sz r (hmem r hr); (first | lia | omega)⟩ fun r => ⟨hmem r, fun hr => ?_⟩
  have : rkP r ∈ ms.map rkP := by
    rw [hkey]
    exact hperm.mem_iff.mpr (List.mem_map_of_mem hr)
  obtain ⟨r', hr', e⟩ := List.mem_map.mp this
  rw [← nd_key hg.nd r' (hmem r' hr') r hr e]
  exact hr'
theorem bt_ValueError : bootBuiltins "ValueError" = some (.type "ValueError") := by decide +kernel
/-- all is kept but errors -/
def Kp (H H' : Hp) : Prop := ∀ b o, H b = some o → (∀ x, o ≠ .ext x) → H' b = some o
theorem Kp.same {H H' : Hp} (s : Same H H') : Kp H H' := fun b o h _ => s b o h
theorem Kp.trans {H H1 H2 : Hp} (a : Kp H H1) (b : Kp H1 H2) : Kp H H2 := fun c o h n => b c o (a c o h n) n
theorem Kp.ext {H H1 : Hp} {e : Addr} {x : Heap → Prop} {o : HO} (a : Kp H H1) (h : H1 e = some (.ext x)) : Kp H (upd H1 e o) := fun b u q n => by
  have q1 := a b u q n
  have : b ≠ e := fun z => by
    rw [z, h] at q1
    exact n x (Option.some.inj q1).symm
  rw [upd_ne this]
  exact q1
theorem Kp.tk {H H' : Hp} (k : Kp H H') : TK H H' := fun b xs e => k b _ e fun _ z => nomatch z
def spRef68 : Sp := fun vs H Q _ => ∃ (c : Addr) (rs : List (Int × Str × Pa)), vs = [.ref c] ∧ ChR H c rs ∧ (strB rs = true → ∀ H', Kp H H' → Q .non H') ∧ (strB rs = false → ∀ H', Kp H H' → Q (.bl true) H')
theorem keep_new {H H2 : Hp} {x dx C : Addr} (hx : H x = none) (hdx : H dx = none) (k : KeepX [x] (upd (upd H dx (.own x)) x (.ins C dx [])) H2) : Same H H2 := fun b o e =>
  k b o (fun z => by rw [List.mem_singleton.mp z, hx] at e; cases e) (((Same.new hdx).upd_new hx) _ _ e)
set_option maxHeartbeats 2000000 in
theorem ok_l_refused {CS : Addr} (B : ∀ x ∈ blts, mg x = none) (c_Stream : StC K CS) (xc : XC K mg X_GroveError X_NoGrove X_BadChanger X_NotStraight X_NoChange) (g_Stream : HasCX P w K mg base CS "Stream" ["self", "changer"] 25 (spStX CS X_NotStraight)) (F : Fun K "_law_refused" "_law_refused" s_l_refused f fd) : FnOk P w K mg base CX0 27 f fd ["_law_recipe"] spRef68 := by
  refine F.ok sc_l_refused (fun vs H Q E h => ?_) (fun cdv A outer s H vs Q E hr h => ?_)
  · obtain ⟨c, rs, rfl, _⟩ := h
    rfl
  obtain ⟨c, rs, rfl, hC, q1, q2⟩ := h
  refine ⟨_, (pss_cons (ps_try rfl rfl (fun E pins E₁ hT hp => (pss_one (ps_expr (pe_hascX g_Stream hT hr rfl (pa_cons (pv 0) pa_nil)))))
      (ph_asD (i := 1) (rest := []) (fun e => (pe_glob (v := .ref X_NotStraight) rfl xc.n_NotStraight rfl)) sc_l_refused.nd rfl rfl (fun e => (pss_cons (ps_set (i := 2) sc_l_refused.nd rfl (Or.inl rfl) (pe_or (pe_callB (call_xisAN (K := K) rfl) rfl (B "isinstance" (by decide)) bt_isinstance (pa_cons (pv 1) (pa_cons (pe_glob (v := .ref X_BadChanger) rfl xc.n_BadChanger rfl) pa_nil))) (pe_or (pe_callB (call_xisAN (K := K) rfl) rfl (B "isinstance" (by decide)) bt_isinstance (pa_cons (pv 1) (pa_cons (pe_glob (v := .ref X_NoGrove) rfl xc.n_NoGrove rfl) pa_nil))) (pe_one (pe_callB (call_xisAN (K := K) rfl) rfl (B "isinstance" (by decide)) bt_isinstance (pa_cons (pv 1) (pa_cons (pe_glob (v := .ref X_NoChange) rfl xc.n_NoChange rfl) pa_nil)))))))
        (pss_one (ps_ret (pe_and (pe_callB (call_xisAN (K := K) rfl) rfl (B "isinstance" (by decide)) bt_isinstance (pa_cons (pv 1) (pa_cons (pe_glob (v := .ref X_GroveError) rfl xc.n_GroveError rfl) pa_nil))) (pe_and (pe_callB (call_xisTK (K := K) rfl) rfl (B "isinstance" (by decide)) bt_isinstance (pa_cons (pv 1) (pa_cons (pe_ty rfl (B "ValueError" (by decide)) bt_ValueError) pa_nil))) (pe_one (pe_not (pv 2)))))))))))
    (pss_one (ps_ret pe_non))), ?_⟩
  refine ⟨fun σ' C d H' => σ' = [some (.ref c), none, none] ∧ C = .ref X_NotStraight ∧ strB rs = false ∧ d = none ∧ Same H H', ?_, ?_⟩
  · refine ⟨_, rfl, fun x dx hx hdx hn => ?_⟩
    have s1 : Same H (upd (upd H dx (.own x)) x (.ins CS dx [])) := (Same.new hdx).upd_new hx
    refine ⟨x, c, dx, rs, rfl, upd_same, hC.tk s1.tk, fun hs H2 k2 => ⟨rfl, ?_⟩, fun hs H2 s2 => ⟨rfl, rfl, hs, rfl, s1.trans s2⟩⟩
    exact q1 hs _ (Kp.same (keep_new hx hdx k2))
  · rintro σ' C d H' e oe ⟨rfl, rfl, hb, rfl, sm⟩ he hc hd hf
    have k0 : Kp H (upd H' e (Known e oe)) := (Kp.same sm).ext he
    have e3 : (upd H' e (Known e oe)) e = some (Known e oe) := upd_same
    generalize upd H' e (Known e oe) = H1 at k0 e3
    refine ⟨[X_NotStraight], X_NotStraight, fun _ => true, .one xc.c_NotStraight, hc, ?_, rfl, e3, ?_⟩
    · intro D hD
      obtain rfl := List.mem_singleton.mp hD
      exact xc.m_NotStraight_NotStraight
    refine ⟨_, rfl, e, oe, X_NotStraight, X_BadChanger, false, rfl, e3, hc, .inr (.inr ⟨xc.nn_NotStraight_BadChanger, xc.c_BadChanger.cl, xc.m_NotStraight_BadChanger, rfl, "place", hd, hf, xc.f_NotStraight_place, xc.not_NotStraight_BadChanger⟩), false, rfl, iteF ?_⟩
    refine ⟨_, rfl, e, oe, X_NotStraight, X_NoGrove, false, rfl, e3, hc, .inr (.inr ⟨xc.nn_NotStraight_NoGrove, xc.c_NoGrove.cl, xc.m_NotStraight_NoGrove, rfl, "place", hd, hf, xc.f_NotStraight_place, xc.not_NotStraight_NoGrove⟩), false, rfl, iteF ?_⟩
    refine ⟨_, rfl, e, oe, X_NotStraight, X_NoChange, false, rfl, e3, hc, .inr (.inr ⟨xc.nn_NotStraight_NoChange, xc.c_NoChange.cl, xc.m_NotStraight_NoChange, rfl, "place", hd, hf, xc.f_NotStraight_place, xc.not_NotStraight_NoChange⟩), ?_⟩
    refine ⟨_, rfl, e, oe, X_NotStraight, X_GroveError, true, rfl, e3, hc, .inr (.inl ⟨xc.ne_NotStraight, xc.isG, xc.tyG, xc.m_NotStraight_GroveError, rfl⟩), true, rfl, iteT ?_⟩
    refine ⟨_, rfl, e, oe, X_NotStraight, "ValueError", rfl, e3, hc, rfl, xc.mV_NotStraight, true, rfl, iteT ?_⟩
    exact ⟨_, rfl, false, rfl, q2 hb _ k0⟩
set_option maxHeartbeats 2000000 in
theorem ok_l_by_base {CS : Addr} (B : ∀ x ∈ blts, mg x = none) (c_Stream : StC K CS) (xc : XC K mg X_GroveError X_NoGrove X_BadChanger X_NotStraight X_NoChange) (g_Stream : HasCX P w K mg base CS "Stream" ["self", "changer"] 25 (spStX CS X_NotStraight)) (F : Fun K "_law_by_base" "_law_by_base" s_l_by_base f fd) : FnOk P w K mg base CX0 27 f fd ["_law_recipe"] spRef68 := by
  refine F.ok sc_l_by_base (fun vs H Q E h => ?_) (fun cdv A outer s H vs Q E hr h => ?_)
  · obtain ⟨c, rs, rfl, _⟩ := h
    rfl
  obtain ⟨c, rs, rfl, hC, q1, q2⟩ := h
  refine ⟨_, (pss_cons (ps_try rfl rfl (fun E pins E₁ hT hp => (pss_one (ps_expr (pe_hascX g_Stream hT hr rfl (pa_cons (pv 0) pa_nil)))))
      (ph_as (i := 1) (rest := []) (fun e => (pe_glob (v := .ref X_GroveError) rfl xc.n_GroveError rfl)) sc_l_by_base.nd rfl rfl (fun e => (pss_one (ps_ret (pe_callB (call_xisAN (K := K) rfl) rfl (B "isinstance" (by decide)) bt_isinstance (pa_cons (pv 1) (pa_cons (pe_glob (v := .ref X_NotStraight) rfl xc.n_NotStraight rfl) pa_nil))))))))
    (pss_one (ps_ret pe_non))), ?_⟩
  refine ⟨fun σ' C d H' => σ' = [some (.ref c), none] ∧ C = .ref X_NotStraight ∧ strB rs = false ∧ d = none ∧ Same H H', ?_, ?_⟩
  · refine ⟨_, rfl, fun x dx hx hdx hn => ?_⟩
    have s1 : Same H (upd (upd H dx (.own x)) x (.ins CS dx [])) := (Same.new hdx).upd_new hx
    refine ⟨x, c, dx, rs, rfl, upd_same, hC.tk s1.tk, fun hs H2 k2 => ⟨rfl, ?_⟩, fun hs H2 s2 => ⟨rfl, rfl, hs, rfl, s1.trans s2⟩⟩
    exact q1 hs _ (Kp.same (keep_new hx hdx k2))
  · rintro σ' C d H' e oe ⟨rfl, rfl, hb, rfl, sm⟩ he hc hd hf
    have k0 : Kp H (upd H' e (Known e oe)) := (Kp.same sm).ext he
    have e3 : (upd H' e (Known e oe)) e = some (Known e oe) := upd_same
    generalize upd H' e (Known e oe) = H1 at k0 e3
    refine ⟨[X_GroveError], X_NotStraight, fun _ => true, .one xc.c_GroveError, hc, ?_, rfl, e3, ?_⟩
    · intro D hD
      obtain rfl := List.mem_singleton.mp hD
      exact xc.m_NotStraight_GroveError
    exact ⟨_, rfl, e, oe, X_NotStraight, X_NotStraight, true, rfl, e3, hc, .inl ⟨rfl, rfl⟩, q2 hb _ k0⟩
def spPRef68 : Sp := fun vs H Q _ => ∃ (c : Addr) (rs : List (Int × Str × Pa)), vs = [.ref c] ∧ ChR H c rs ∧ ∀ H', Kp H H' → Q (.bl (!strB rs)) H'
set_option maxHeartbeats 2000000 in
theorem ok_l_pipe_refused {CP : Addr} (B : ∀ x ∈ blts, mg x = none) (c_Pipe : PpC K CP) (xc : XC K mg X_GroveError X_NoGrove X_BadChanger X_NotStraight X_NoChange) (g_Pipe : HasCX P w K mg base CP "Pipe" ["self", "changer", "before", "behind"] 27 (spPpX CP X_NotStraight)) (F : Fun K "_law_pipe_refused" "_law_pipe_refused" s_l_pipe_refused f fd) : FnOk P w K mg base CX0 29 f fd ["_law_recipe"] spPRef68 := by
  refine F.ok sc_l_pipe_refused (fun vs H Q E h => ?_) (fun cdv A outer s H vs Q E hr h => ?_)
  · obtain ⟨c, rs, rfl, _⟩ := h
    rfl
  obtain ⟨c, rs, rfl, hC, q⟩ := h
  refine ⟨_, (pss_cons (ps_set (i := 1) sc_l_pipe_refused.nd rfl (Or.inl rfl) (pe_tup (pa_cons pe_int (pa_cons (pe_tup (pa_cons pe_int pa_nil)) (pa_cons (pe_tup (pa_cons pe_int pa_nil)) (pa_cons (pe_tup pa_nil) pa_nil))))))
    (pss_cons (ps_try rfl rfl (fun E pins E₁ hT hp => (pss_one (ps_expr (pe_hascX g_Pipe hT hr rfl (pa_cons (pv 0) (pa_cons (pv 1) (pa_cons (pv 1) pa_nil)))))))
      (ph_hit (rest := []) (fun e => (pe_glob (v := .ref X_NotStraight) rfl xc.n_NotStraight rfl)) (fun e => (pss_one (ps_ret pe_bl)))))
    (pss_one (ps_ret pe_bl)))), ?_⟩
  refine ⟨(by show 1 ≤ sizeLine; decide), fun p1 hp1 => ⟨(by show 1 ≤ sizeLine; decide), fun p2 hp2 => ⟨(by decide), fun p3 hp3 => ⟨(by show 4 ≤ sizeLine; decide), fun p4 hp4 => ?_⟩⟩⟩⟩
  have z1 := Same.new (o := .tup [.int 0]) hp1
  have z2 := Same.new (o := .tup [.int 0]) hp2
  have z3 := Same.new (o := .tup []) hp3
  have z4 := Same.new (o := .tup [.int 1, .ref p1, .ref p2, .ref p3]) hp4
  have z34 := z3.trans z4
  have z14 := z1.trans (z2.trans z34)
  have hF : FmQ (upd (upd (upd (upd H p1 (.tup [.int 0])) p2 (.tup [.int 0])) p3 (.tup [])) p4 (.tup [.int 1, .ref p1, .ref p2, .ref p3])) p4 ⟨1, [0], [0], []⟩ := ⟨p1, p2, p3, [], upd_same, (z2.trans z34) _ _ upd_same, z34 _ _ upd_same, z4 _ _ upd_same, .nil⟩
  have okF : OkR ⟨1, [0], [0], []⟩ := by
    have r0 : Rise [0] := List.pairwise_singleton _ _
    have b0 : IB 1 [0] := fun x hx => by rw [List.mem_singleton.mp hx]; exact ⟨by decide, by decide⟩
    exact ⟨by decide, by decide, r0, r0, List.Pairwise.nil, b0, b0, fun x hx => (nomatch hx), by decide, by decide, by decide, fun x hx => (nomatch hx)⟩
  generalize upd (upd (upd (upd H p1 (.tup [.int 0])) p2 (.tup [.int 0])) p3 (.tup [])) p4 (.tup [.int 1, .ref p1, .ref p2, .ref p3]) = H4 at hF z14 ⊢
  refine ⟨fun σ' C d H' => σ' = [some (.ref c), some (.ref p4)] ∧ C = .ref X_NotStraight ∧ strB rs = false ∧ d = none ∧ Same H H', ?_, ?_⟩
  · refine ⟨_, rfl, _, rfl, _, rfl, fun x dx hx hdx hn => ?_⟩
    have s1 : Same H4 (upd (upd H4 dx (.own x)) x (.ins CP dx [])) := (Same.new hdx).upd_new hx
    refine ⟨x, c, p4, dx, rs, _, rfl, upd_same, hC.tk (z14.trans s1).tk, fmq_tk hF s1.tk, okF, fun hs H2 k2 => ⟨rfl, ?_⟩, fun hs H2 s2 => ⟨rfl, rfl, hs, rfl, z14.trans (s1.trans s2)⟩⟩
    have := q _ (Kp.same (z14.trans (keep_new hx hdx k2)))
    rw [hs] at this
    exact this
  · rintro σ' C d H' e oe ⟨rfl, rfl, hb, rfl, sm⟩ he hc hd hf
    have k0 : Kp H (upd H' e (Known e oe)) := (Kp.same sm).ext he
    have e3 : (upd H' e (Known e oe)) e = some (Known e oe) := upd_same
    generalize upd H' e (Known e oe) = H1 at k0 e3
    refine ⟨[X_NotStraight], X_NotStraight, fun _ => true, .one xc.c_NotStraight, hc, ?_, rfl, e3, ?_⟩
    · intro D hD
      obtain rfl := List.mem_singleton.mp hD
      exact xc.m_NotStraight_NotStraight
    have := q _ k0
    rw [hb] at this
    exact this
theorem strB_eq {rs rs' : List (Int × Str × Pa)} (h : ∀ r, r ∈ rs' ↔ r ∈ rs) : strB rs' = strB rs := by
  unfold strB
  rw [Bool.eq_iff_iff, List.all_eq_true, List.all_eq_true]
  exact ⟨fun z r hr => z r ((h r).mpr hr), fun z r hr => z r ((h r).mp hr)⟩
theorem strB_lt (rs : List (Int × Str × Pa)) : (rs.map fun r => decide ((r.2.2.nk : Int) < 2)).all id = strB rs := by
  unfold strB
  rw [List.all_map]
  congr 1
  funext r
  show decide ((r.2.2.nk : Int) < 2) = decide (r.2.2.nk ≤ 1)
  exact decide_eq_decide.mpr (by (first | lia | omega))
def spGood68 : Sp := fun vs H Q _ => ∃ (md wy : Int) (d : Addr) (m : List (List Key × V)) (rs : List (Int × Str × Pa)), vs = [.int md, .ref d, .int wy] ∧ H d = some (.dT m) ∧ MdL H m rs ∧ GdR rs ∧ rs.length ≤ 10 ∧ ∀ H', Kp H H' → Q (.bl true) H'
set_option maxHeartbeats 4000000 in
theorem ok_l_good (B : ∀ x ∈ blts, mg x = none) (g_l_changer : Has P w K mg base "_law_changer" ["_law_modes", "_law_made"] 1 spChg68) (g_straight : Has P w K mg base "straight" ["changer"] 24 spStraight) (g_l_pipe_refused : Has P w K mg base "_law_pipe_refused" ["_law_recipe"] 29 spPRef68) (g_l_refused : Has P w K mg base "_law_refused" ["_law_recipe"] 27 spRef68) (g_l_by_base : Has P w K mg base "_law_by_base" ["_law_recipe"] 27 spRef68) (F : Fun K "_law_good" "_law_good" s_l_good f fd) : FnOk P w K mg base CX0 30 f fd ["_law_modes", "_law_made", "_law_way"] spGood68 := by
  refine F.ok sc_l_good (fun vs H Q E h => ?_) (fun cdv A outer s H vs Q E hr h => ?_)
  · obtain ⟨md, wy, d, m, rs, rfl, _⟩ := h
    rfl
  obtain ⟨md, wy, d, m, rs, rfl, hd0, hm0, hg, hrl, q⟩ := h
  have hu1 : (A.deeper (PyProof.Rows.envOfC (Str.ofString "_law_good") (defScope s_l_good) s.heap.objs.size f cdv)).units + 1 < cLine := by have := hr.un; (first | lia | omega)
  have hml : m.length = rs.length := Paired.length hm0
  refine hideI ((defBody s_l_good).drop 8) (pss_one (ps_ret (pe_cmpR op_isB (pv 6) pe_bl (nomark _)))) (fun u8 h8 e8 => ?_)
  refine hideI ((defBody s_l_good).drop 7) (pss_cons (ps_if (pt_truth (pv 4) (fun _ => rfl))
      (pss_one (ps_ret (pe_cmpR op_isN (pv 6) pe_non (nomark _))))
      pss_nil) h8) (fun u7 h7 e7 => ?_)
  refine hideI ((defBody s_l_good).drop 6) (pss_cons (ps_if (pt_cmpR op_eq (pv 2) pe_int (nomark _))
      (pss_one (ps_set (i := 6) sc_l_good.nd rfl (Or.inl rfl) (pe_has g_l_by_base hr rfl (pa_cons (pv 3) pa_nil))))
      pss_nil) h7) (fun u6 h6 e6 => ?_)
  refine hideI ((defBody s_l_good).drop 5) (pss_cons (ps_set (i := 6) sc_l_good.nd rfl (Or.inl rfl) (pe_has g_l_refused hr rfl (pa_cons (pv 3) pa_nil))) h6) (fun u5 h5 e5 => ?_)
  refine hideI ((defBody s_l_good).drop 4) (pss_cons (ps_if (pt_cmpR op_ne (pe_has g_l_pipe_refused hr rfl (pa_cons (pv 3) pa_nil)) (pe_not (pv 4)) (nomark _))
      (pss_one (ps_ret pe_bl))
      pss_nil) h5) (fun u4 h4 e4 => ?_)
  refine hideI ((defBody s_l_good).drop 3) (pss_cons (ps_if (PW.pt (pw_or (pt_not (pt_truth (pe_callB call_isinst rfl (B "isinstance" (by decide)) bt_isinstance (pa_cons (pv 5) (pa_cons (pe_ty rfl (B "bool" (by decide)) bt_bool) pa_nil))) (fun _ => rfl))) (pw_or1 (pt_cmpR op_ne (pv 5) (pv 4) (nomark _)))))
      (pss_one (ps_ret pe_bl))
      pss_nil) h4) (fun u3 h3 e3 => ?_)
  refine hideI ((defBody s_l_good).drop 2) (pss_cons (ps_set (i := 5) sc_l_good.nd rfl (Or.inl rfl) (pe_has g_straight hr rfl (pa_cons (pv 3) pa_nil))) h3) (fun u2 h2 e2 => ?_)
  refine hideI ((defBody s_l_good).drop 1) (pss_cons (ps_thawT (ps_set (i := 4) sc_l_good.nd rfl (Or.inl rfl) (pe_callB (call_all rfl) rfl (B "all" (by decide)) bt_all (pa_cons (pe_comp (cl := _) ["_law_key"] [("_law_made", 1)] (pi_dictT (pv 1)) (fun _ _ _ _ => (pg_name (i := 0) (show List.Nodup (["_law_key", "_law_made"] : List Str) by decide) rfl (Or.inl rfl))) (fun _ _ _ _ => (pe_cmpR op_lt (pe_ix (ix_tupK (K := K) rfl) (pe_dget hu1 (pv 1) (pv 0) (fun _ _ => rfl)) pe_int (fun _ _ => rfl)) pe_int (nomark _))) rfl rfl (by decide) rfl (by decide) (cap_cl (by (repeat' first | exact List.forall_mem_nil _ | refine List.forall_mem_cons.mpr ⟨?_, ?_⟩) <;> rfl)) (cap_has (by (repeat' first | exact List.forall_mem_nil _ | refine List.forall_mem_cons.mpr ⟨?_, ?_⟩) <;> first | (intro h; exact ⟨_, rfl⟩) | (intro h; exact absurd h (by decide)))) (fun _ => by (repeat' first | exact List.forall_mem_nil _ | refine List.forall_mem_cons.mpr ⟨?_, ?_⟩) <;> exact ⟨rfl, rfl, Or.inl rfl⟩) (fun _ => rfl)) pa_nil)))) h2) (fun u1 h1 e1 => ?_)
  refine hideI ((defBody s_l_good).drop 0) (pss_cons (ps_set (i := 3) sc_l_good.nd rfl (Or.inl rfl) (pe_has g_l_changer hr rfl (pa_cons (pv 0) (pa_cons (pv 1) pa_nil)))) h1) (fun u0 h0 e0 => ?_)
  refine ⟨u0, h0, ?_⟩
  refine by_eq e0 ?_
  refine ⟨_, rfl, _, rfl, md, d, m, rs, rfl, hd0, hm0, hg, hrl, fun c rs' H1 s1 hC hrr => ?_⟩
  have eS := strB_eq hrr
  show u1 _ _ _
  refine by_eq e1 ?_
  have hd1 := s1 _ _ hd0
  have hm1 := hm0.tk s1.tk
  refine ⟨_, rfl, d, m, rfl, hd1, fun ob pc hpc => ?_⟩
  have tkF : TK H1 (upd H1 d (.frz ob (.dT m))) := fun b ys e => by
    rw [upd_ne (ne_of e hd1 (fun z => nomatch z))]
    exact e
  have kF : KeepX [d] H1 (upd H1 d (.frz ob (.dT m))) := fun b o hb e => by
    rw [upd_ne (fun z => hb (List.mem_singleton.mpr z))]
    exact e
  have hm2 := hm1.tk tkF
  have hd2 : (upd H1 d (.frz ob (.dT m))) d = some (.frz ob (.dT m)) := upd_same
  have hC2 := hC.tk tkF
  generalize upd H1 d (.frz ob (.dT m)) = H2 at kF hm2 hd2 hC2 hpc ⊢
  refine comp_dictT (d := d) (p := pc) (ob := ob) (kvs := m) (fun i us σ H6 => ∃ (w0 : Option V), σ = [w0, some (.ref d)] ∧ Same H2 H6 ∧ H6 pc = some (.lst us) ∧ us = ((rs.take i).map fun r => decide ((r.2.2.nk : Int) < 2)).map V.bl)
    ⟨none, rfl, Same.new hpc, upd_same, rfl⟩ ?_ ?_ ?_
  · rintro i us σ H6 _ ⟨_, _, s6, h, _⟩
    exact ⟨s6 _ _ hd2, h⟩
  · rintro i us k v b σ H6 hi hk hb ⟨w0, rfl, s6, hp6, rfl⟩
    obtain ⟨r, e1, rfl⟩ := hm2.at i k v hk
    have hr1 : r ∈ rs := List.mem_of_getElem? e1
    obtain ⟨vv, qv, yv, y1, y2, y3, y4⟩ := hm2.val1 hg.nd r hr1
    have hgt : DGet H6 d (.ref b) (some (.ref vv)) := by
      have := DGet.tf (k := psK (rkP r)) (s6 _ _ hd2) hb
      rw [y1] at this
      exact this
    refine ⟨_, rfl, _, rfl, d, _, rfl, hgt, vv, _, 1, _, rfl, rfl, SqT.of (s6 _ _ y2), rfl, _, _, rfl, rfl, hp6, len1000' (by rw [List.length_map, List.length_map, List.length_take]; (first | lia | omega)), CW.next hi ⟨_, rfl, s6.upd_new hpc, upd_same, ?_⟩⟩
    rw [take_succ' e1, List.map_append, List.map_append]
    rfl
  rintro us σ H6 ⟨w0, rfl, s6, hp6, rfl⟩
  rw [hml, List.take_length] at hp6
  refine ⟨pc, _, rfl, SqL.of hp6, ?_⟩
  rw [strB_lt]
  refine ⟨d, ob, m, s6 _ _ hd2, (fun o u z => nomatch (hd0.symm.trans z)), ?_⟩
  have s7 : Same H1 (upd H6 d (.dT m)) := fun b o e => by
    by_cases hb : b = d
    · subst hb
      rw [upd_same, ← hd1, e]
    · rw [upd_ne hb]
      exact s6 _ _ (kF b o (fun z => hb (List.mem_singleton.mp z)) e)
  have hC7 := hC.tk s7.tk
  show u2 _ [some (.int md), some (.ref d), some (.int wy), some (.ref c), some (.bl (strB rs)), none, none] _
  generalize upd H6 d (.dT m) = H7 at s7 hC7 ⊢
  have s17 := s1.trans s7
  refine by_eq e2 ?_
  refine ⟨_, rfl, c, rs', rfl, hC7, fun H8 s8 => ?_⟩
  have hC8 := hC7.tk s8.tk
  have k8 : Kp H H8 := Kp.same (s17.trans s8)
  show u3 _ [some (.int md), some (.ref d), some (.int wy), some (.ref c), some (.bl (strB rs)), some (.bl (strB rs')), none] H8
  rw [eS]
  refine by_eq e3 ?_
  refine ⟨_, rfl, .bl (strB rs), "bool", .type "bool", true, rfl, .bl _, rfl, true, rfl, iteF ?_⟩
  refine ⟨_, rfl, _, rfl, rfl, _, rfl, ite2 (fun z => absurd z (by simp)) (fun _ => ?_)⟩
  show u4 _ _ _
  refine by_eq e4 ?_
  refine ⟨_, rfl, c, rs', rfl, hC8, fun H9 k9 => ?_⟩
  rw [eS]
  refine ⟨_, rfl, strB rs, rfl, rfl, _, rfl, ite2 (fun z => absurd z (by simp)) (fun _ => ?_)⟩
  have hC9 := hC8.tk k9.tk
  have k89 := k8.trans k9
  show u5 _ _ _
  refine by_eq e5 ?_
  -- what both ways of asking come to
  have tail : ∀ (H10 : Hp) (o : V), Kp H H10 → (strB rs = true → o = .non) → (strB rs = false → o = .bl true) → u7 { nx := fun _ H' => Q .non H', rt := Q } [some (.int md), some (.ref d), some (.int wy), some (.ref c), some (.bl (strB rs)), some (.bl (strB rs)), some o] H10 := fun H10 o k10 o1 o2 => by
    refine by_eq e7 ?_
    refine ⟨_, rfl, strB rs, rfl, ?_⟩
    cases cb : strB rs with
    | true =>
      obtain rfl := o1 cb
      exact iteT ⟨_, rfl, rfl, q _ k10⟩
    | false =>
      obtain rfl := o2 cb
      refine iteF ?_
      show u8 _ _ _
      refine by_eq e8 ?_
      exact ⟨_, rfl, true, true, rfl, rfl, q _ k10⟩
  have mid : ∀ (H10 : Hp) (o : V), Kp H H10 → ChR H10 c rs' → (strB rs = true → o = .non) → (strB rs = false → o = .bl true) → u6 { nx := fun _ H' => Q .non H', rt := Q } [some (.int md), some (.ref d), some (.int wy), some (.ref c), some (.bl (strB rs)), some (.bl (strB rs)), some o] H10 := fun H10 o k10 hC10 o1 o2 => by
    refine by_eq e6 ?_
    refine ⟨_, rfl, rfl, _, rfl, ite2 (fun _ => ?_) (fun _ => tail H10 o k10 o1 o2)⟩
    refine ⟨_, rfl, c, rs', rfl, hC10, fun hs Ha ka => ?_, fun hs Ha ka => ?_⟩
    · rw [eS] at hs
      exact tail Ha .non (k10.trans ka) (fun _ => rfl) fun z => by rw [hs] at z; cases z
    · rw [eS] at hs
      exact tail Ha (.bl true) (k10.trans ka) (fun z => by rw [hs] at z; cases z) fun _ => rfl
  refine ⟨_, rfl, c, rs', rfl, hC9, fun hs Ha ka => ?_, fun hs Ha ka => ?_⟩
  · rw [eS] at hs
    exact mid Ha .non (k89.trans ka) (hC9.tk ka.tk) (fun _ => rfl) fun z => by rw [hs] at z; cases z
  · rw [eS] at hs
    exact mid Ha (.bl true) (k89.trans ka) (hC9.tk ka.tk) (fun z => by rw [hs] at z; cases z) fun _ => rfl
theorem modpow {v : Int} : 0 ≤ v % 10 ^ 9 ∧ v % 10 ^ 9 < 1000000000 := ⟨Int.emod_nonneg _ (by decide), Int.emod_lt_of_pos _ (by decide)⟩
theorem dp_key {K : PySem.W.Frag} {H : Hp} {a : Addr} {k : Srd.Ps} (h : H a = some (tps k)) : Dp K H (.ref a) (.tuple [.int k.1, .str k.2]) := .tup (SqT.of h) (.cons (.int _) (.cons (.str _) .nil))
set_option maxHeartbeats 4000000 in
theorem ok_law (B : ∀ x ∈ blts, mg x = none) (g_l_cell : Has P w K mg base "_law_cell" ["_law_script", "_law_k"] 1 (spCellS K)) (g_l_tags : Has P w K mg base "_law_tags" ["_law_cell_here"] 1 spTags3) (g_l_rules : Has P w K mg base "_law_rules" ["_law_script", "_law_modes", "_law_tags_here", "_law_once"] 2 (spRules68 K)) (g_l_good : Has P w K mg base "_law_good" ["_law_modes", "_law_made", "_law_way"] 30 spGood68) (F : Fun K "law" "law" s_law f fd) : FnOk P w K mg base CX0 31 f fd ["_law_script"] (spLaw K) := by
  refine F.ok sc_law (fun vs H Q E h => ?_) (fun cdv A outer s H vs Q E hr h => ?_)
  · obtain ⟨a, ns, rfl, _⟩ := h
    rfl
  obtain ⟨a, ns, rfl, hS, h63, q⟩ := h
  have hu : (A.deeper (PyProof.Rows.envOfC (Str.ofString "law") (defScope s_law) s.heap.objs.size f cdv)).units + 200 < cLine := by have := hr.un; (first | lia | omega)
  have hu1 : (A.deeper (PyProof.Rows.envOfC (Str.ofString "law") (defScope s_law) s.heap.objs.size f cdv)).units + 1 < cLine := by (first | lia | omega)
  refine hideI ((defBody s_law).drop 7) (pss_one (ps_ret (pe_has g_l_good hr rfl (pa_cons (pv 1) (pa_cons (pv 3) (pa_cons (pe_op op_sub pe_int (pv 4)) pa_nil)))))) (fun u7 h7 e7 => ?_)
  refine hideI ((sBody ((defBody s_law).getD 6 (.Pass ⟨0, 0, 0, 0⟩))).drop 3) (pss_one (ps_if (PW.pt (pw_or (pt_not (pt_truth (pe_has g_l_good hr rfl (pa_cons (pv 1) (pa_cons (pv 7) (pa_cons (pe_op op_sub pe_int (pv 4)) pa_nil)))) (fun _ => rfl))) (pw_or1 (pt_not (pt_truth (pe_has g_l_good hr rfl (pa_cons (pv 1) (pa_cons (pe_disp1T hu1 (pv 6) (pe_dget hu1 (pv 3) (pv 6) (fun _ _ => rfl))) (pa_cons (pv 4) pa_nil)))) (fun _ => rfl))))))
      (pss_one (ps_ret pe_bl))
      pss_nil)) (fun u6t3 h6t3 e6t3 => ?_)
  refine hideI ((sBody ((sBody ((defBody s_law).getD 6 (.Pass ⟨0, 0, 0, 0⟩))).getD 2 (.Pass ⟨0, 0, 0, 0⟩))).drop 0) (pss_one (ps_if (pt_cmpR (op_neD hu) (pv 8) (pv 6) (nomark _))
      (pss_one (ps_dput hu1 (pv 7) (pv 8) (pe_dget hu1 (pv 3) (pv 8) (fun _ _ => rfl)) rfl))
      pss_nil)) (fun u6t2_0 h6t2_0 e6t2_0 => ?_)
  refine hideI ((sBody ((defBody s_law).getD 6 (.Pass ⟨0, 0, 0, 0⟩))).drop 2) (pss_cons (ps_for PassesOwn.never rfl (pi_list (pv 5)) (pg_name (i := 8) sc_law.nd rfl (Or.inl rfl))
      h6t2_0) h6t3) (fun u6t2 h6t2 e6t2 => ?_)
  refine hideI ((sBody ((defBody s_law).getD 6 (.Pass ⟨0, 0, 0, 0⟩))).drop 1) (pss_cons (ps_set (i := 7) sc_law.nd rfl (Or.inl rfl) pe_dnewT) h6t2) (fun u6t1 h6t1 e6t1 => ?_)
  refine hideI ((sBody ((defBody s_law).getD 6 (.Pass ⟨0, 0, 0, 0⟩))).drop 0) (pss_cons (ps_set (i := 6) sc_law.nd rfl (Or.inl rfl) (pe_ix ix_list (pv 5) (pe_op op_mod (pe_has g_l_cell hr rfl (pa_cons (pv 0) (pa_cons pe_int pa_nil))) (pe_callB call_len_seq rfl (B "len" (by decide)) PySem.boot_len (pa_cons (pv 5) pa_nil))) (fun _ _ => rfl))) h6t1) (fun u6t0 h6t0 e6t0 => ?_)
  refine hideI ((defBody s_law).drop 6) (pss_cons (ps_if (pt_cmpR op_gt (pe_callB call_len_seq rfl (B "len" (by decide)) PySem.boot_len (pa_cons (pv 5) pa_nil)) pe_int (nomark _))
      h6t0
      pss_nil) h7) (fun u6 h6 e6 => ?_)
  refine hideI ((defBody s_law).drop 5) (pss_cons (ps_set (i := 5) sc_law.nd rfl (Or.inl rfl) (pe_callB (call_sorted_dPs rfl) rfl (B "sorted" (by decide)) bt_sorted (pa_cons (pv 3) pa_nil))) h6) (fun u5 h5 e5 => ?_)
  refine hideI ((defBody s_law).drop 4) (pss_cons (ps_if (pt_not (pt_truth (pe_has g_l_good hr rfl (pa_cons (pv 1) (pa_cons (pv 3) (pa_cons (pv 4) pa_nil)))) (fun _ => rfl)))
      (pss_one (ps_ret pe_bl))
      pss_nil) h5) (fun u4 h4 e4 => ?_)
  refine hideI ((defBody s_law).drop 3) (pss_cons (ps_set (i := 4) sc_law.nd rfl (Or.inl rfl) (pe_op op_mod (pe_op op_fdiv (pe_has g_l_cell hr rfl (pa_cons (pv 0) (pa_cons pe_int pa_nil))) pe_int) pe_int)) h4) (fun u3 h3 e3 => ?_)
  refine hideI ((defBody s_law).drop 2) (pss_cons (ps_set (i := 3) sc_law.nd rfl (Or.inl rfl) (pe_has g_l_rules hr rfl (pa_cons (pv 0) (pa_cons (pv 1) (pa_cons (pv 2) (pa_cons (pe_cmpR op_eq (pe_op op_mod (pe_op op_fdiv (pe_has g_l_cell hr rfl (pa_cons (pv 0) (pa_cons pe_int pa_nil))) pe_int) pe_int) pe_int (nomark _)) pa_nil)))))) h3) (fun u2 h2 e2 => ?_)
  refine hideI ((defBody s_law).drop 1) (pss_cons (ps_set (i := 2) sc_law.nd rfl (Or.inl rfl) (pe_has g_l_tags hr rfl (pa_cons (pe_op op_mod (pe_has g_l_cell hr rfl (pa_cons (pv 0) (pa_cons pe_int pa_nil))) (pe_op op_pow pe_int pe_int)) pa_nil))) h2) (fun u1 h1 e1 => ?_)
  refine hideI ((defBody s_law).drop 0) (pss_cons (ps_set (i := 1) sc_law.nd rfl (Or.inl rfl) (pe_op op_add pe_int (pe_op op_mod (pe_has g_l_cell hr rfl (pa_cons (pv 0) (pa_cons pe_int pa_nil))) pe_int))) h1) (fun u0 h0 e0 => ?_)
  refine ⟨u0, h0, ?_⟩
  refine by_eq e0 ?_
  refine ⟨_, rfl, a, ns, 0, rfl, hS, h63, by decide, by decide, fun v0 => ⟨_, _, rfl, rfl, (by show (0 : Int) < 4; decide), _, _, rfl, rfl, ?_⟩⟩
  have m0 := Int.emod_nonneg v0 (by decide : (4 : Int) ≠ 0)
  have m1 := Int.emod_lt_of_pos v0 (by decide : (0 : Int) < 4)
  show u1 _ [some (.ref a), some (.int (1 + v0 % 4)), none, none, none, none, none, none, none] H
  generalize hmd : 1 + v0 % 4 = md
  have d1 : 0 < md := by (first | lia | omega)
  have d4 : md < 100 := by (first | lia | omega)
  refine by_eq e1 ?_
  refine ⟨_, rfl, a, ns, 2, rfl, hS, h63, by decide, by decide, fun v2 => ⟨_, _, rfl, rfl, ⟨by decide, by decide, by decide⟩, _, _, rfl, rfl, (by show (0 : Int) < 10 ^ 9; decide), _, rfl, modpow.1, modpow.2, fun tg ts H1 s1 htg0 htg ht3 hts => ?_⟩⟩
  show u2 _ _ _
  refine by_eq e2 ?_
  refine ⟨_, rfl, _, rfl, _, rfl, _, rfl, a, ns, 0, rfl, s1.seq hS, h63, by decide, by decide, fun v3 => ⟨_, _, rfl, rfl, ⟨by decide, by decide⟩, _, _, rfl, rfl, (by show (0 : Int) < 2; decide), rfl, a, tg, ns, md, ts, _, rfl, s1.seq hS, h63, d1, d4, htg, ht3, fun t ht => (hts t ht).1.let0.ok, fun d m rs H2 s2 hd0 hd hm hg hrl => ?_⟩⟩
  have s12 := s1.trans s2
  have hml : m.length = rs.length := Paired.length hm
  show u3 _ _ _
  refine by_eq e3 ?_
  refine ⟨_, rfl, a, ns, 0, rfl, s12.seq hS, h63, by decide, by decide, fun v4 => ⟨_, _, rfl, rfl, ⟨by decide, by decide⟩, _, _, rfl, rfl, (by show (0 : Int) < 2; decide), ?_⟩⟩
  show u4 _ [some (.ref a), some (.int md), some (.ref tg), some (.ref d), some (.int (v4 / 8 % 2)), none, none, none, none] H2
  generalize v4 / 8 % 2 = wy
  have kS : ∀ {H3 : Hp}, Kp H2 H3 → SqL K H3 a (ns.map V.int) := fun {H3} k => by
    have h2 := s12.seq hS
    rcases h2 with (h | ⟨o, h⟩) | h
    · exact .inl (.inl (k _ _ h fun _ z => nomatch z))
    · exact .inl (.inr ⟨o, k _ _ h fun _ z => nomatch z⟩)
    · exact .inr h
  refine by_eq e4 ?_
  refine ⟨_, rfl, _, rfl, _, rfl, md, wy, d, m, rs, rfl, hd, hm, hg, hrl, fun H3 k3 => ⟨true, rfl, iteF ?_⟩⟩
  have hd3 : H3 d = some (.dT m) := k3 _ _ hd fun _ z => nomatch z
  have hm3 := hm.tk k3.tk
  show u5 _ _ _
  refine by_eq e5 ?_
  refine ⟨_, rfl, d, m, rs.map rkP, rfl, hd3, by (first | lia | omega), hm3.keys, fun ks zk kl hk0 hperm hup hks => ?_⟩
  have z1 := Same.new (o := .lst zk) hk0
  have hkl : kl.length = rs.length := by rw [hperm.length_eq, List.length_map]
  have hzk : zk.length = kl.length := hks.length
  have hk4 : (upd H3 ks (.lst zk)) ks = some (.lst zk) := upd_same
  have hks4 := hks.keep z1.tk
  have hd4 := z1 _ _ hd3
  have hm4 := hm3.tk z1.tk
  have k4 := k3.trans (Kp.same z1)
  show u6 _ [some (.ref a), some (.int md), some (.ref tg), some (.ref d), some (.int wy), some (.ref ks), none, none, none] _
  generalize upd H3 ks (.lst zk) = H4 at z1 hk4 hks4 hd4 hm4 k4 ⊢
  have last : ∀ (H5 : Hp) (v6 v7 v8 : Option V), Kp H4 H5 → u7 { nx := fun _ H' => Q .non H', rt := Q } [some (.ref a), some (.int md), some (.ref tg), some (.ref d), some (.int wy), some (.ref ks), v6, v7, v8] H5 := fun H5 v6 v7 v8 k5 => by
    refine by_eq e7 ?_
    exact ⟨_, rfl, _, rfl, _, rfl, _, _, rfl, rfl, md, _, d, m, rs, rfl, k5 _ _ hd4 (fun _ z => nomatch z), hm4.tk k5.tk, hg, hrl, fun H6 _ => q _⟩
  refine by_eq e6 ?_
  refine ⟨_, rfl, ks, _, rfl, .inl (SqL.of hk4), _, _, rfl, rfl, _, rfl, ite2 (fun cl => ?_) (fun _ => last H4 _ _ _ (Kp.same (Same.refl _)))⟩
  have cl : (0 : Int) < (zk.length : Int) := of_decide_eq_true cl
  show u6t0 _ _ _
  refine by_eq e6t0 ?_
  refine ⟨_, rfl, _, rfl, a, ns, 20, rfl, kS k4, h63, by decide, by decide, fun v20 => ?_⟩
  obtain ⟨j, hj, hjl⟩ := modN v20 (n := zk.length) (by (first | lia | omega))
  have hzj : zk[j]? = some zk[j] := List.getElem?_eq_getElem hjl
  obtain ⟨lf, kk, hkj, elf, hlf⟩ := hks4.get j _ hzj
  rw [elf] at hzj
  have hat : atI zk (v20 % (zk.length : Int)) = some (.ref lf) := by
    rw [hj]
    exact atI_nat hzj
  refine ⟨_, rfl, ks, _, rfl, .inl (SqL.of hk4), _, _, rfl, rfl, by (first | lia | omega), ks, _, _, _, rfl, rfl, SqL.of hk4, hat, ?_⟩
  have hkkm : kk ∈ rs.map rkP := hperm.mem_iff.mp (List.mem_of_getElem? hkj)
  obtain ⟨r0, hr0, ekk⟩ := List.mem_map.mp hkkm
  subst ekk
  show u6t1 _ _ _
  refine by_eq e6t1 ?_
  refine fun fe hfe => ?_
  have z2 := Same.new (o := .dT []) hfe
  have hfe5 : (upd H4 fe (.dT [])) fe = some (.dT []) := upd_same
  have hk5 := z2 _ _ hk4
  have hks5 := hks4.keep z2.tk
  have hd5 := z2 _ _ hd4
  have hm5 := hm4.tk z2.tk
  have hlf5 := z2 _ _ hlf
  have k5 : Kp H4 (upd H4 fe (.dT [])) := Kp.same z2
  show u6t2 _ _ _
  refine by_eq e6t2 ?_
  generalize upd H4 fe (.dT []) = H5 at z2 hfe5 hk5 hks5 hd5 hm5 hlf5 k5 ⊢
  refine ⟨_, rfl, ks, rfl, ⟨_, SqL.of hk5⟩, for_list (K := K) (a := ks) (xs := zk) (fun i σ H6 => ∃ (v8 : Option V) (m2 : List (List Key × V)) (rs2 : List (Int × Str × Pa)), σ = [some (.ref a), some (.int md), some (.ref tg), some (.ref d), some (.int wy), some (.ref ks), some (.ref lf), some (.ref fe), v8] ∧ Same H4 H6 ∧ H6 fe = some (.dT m2) ∧ MdL H6 m2 rs2 ∧ GdR rs2 ∧ rs2.length ≤ i)
    ⟨none, [], [], rfl, z2, hfe5, .nil, ⟨fun _ h => (nomatch h), fun _ h => (nomatch h), List.nodup_nil⟩, Nat.le_refl _⟩ ?_ ?_ ?_⟩
  · rintro i σ H6 _ ⟨_, _, _, _, s6, _⟩
    exact SqL.of (s6 _ _ hk4)
  · rintro i x σ H6 hx ⟨v8, m2, rs2, rfl, s6, hfe6, hm6, hg6, hl6⟩
    obtain ⟨pk, k2, e1, rfl, e3⟩ := hks4.get i x hx
    have hil : i < zk.length := (List.getElem?_eq_some_iff.mp hx).1
    have hkm : k2 ∈ rs.map rkP := hperm.mem_iff.mp (List.mem_of_getElem? e1)
    obtain ⟨r, hr1, ek⟩ := List.mem_map.mp hkm
    subst ek
    obtain ⟨vv, qv, yv, y1, y2, y3, y4⟩ := hm4.val1 hg.nd r hr1
    have e36 : H6 pk = some (tps (rkP r)) := s6 _ _ e3
    show u6t2_0 _ [some (.ref a), some (.int md), some (.ref tg), some (.ref d), some (.int wy), some (.ref ks), some (.ref lf), some (.ref fe), some (.ref pk)] H6
    refine by_eq e6t2_0 ?_
    refine ⟨_, rfl, _, rfl, _, _, dp_key e36, dp_key (s6 _ _ hlf), ?_, ?_, ?_, ⟨_, rfl, ite2 (fun _ => ?_) (fun _ => ?_)⟩⟩
    · show (PyData.canLay0 (.int r.1) && (PyData.strOk r.2.1 && true)) = true
      rw [hg.tg r hr1]
      rfl
    · show (PyData.canLay0 (.int r0.1) && (PyData.strOk r0.2.1 && true)) = true
      rw [hg.tg r0 hr0]
      rfl
    · show min 1 1 ≤ 200
      decide
    · have hgt : DGet H6 d (.ref pk) (some (.ref vv)) := by
        have := DGet.t (k := psK (rkP r)) (s6 _ _ hd4) (show H6 pk = some (.tup ((psK (rkP r)).map kV)) from e36)
        rw [y1] at this
        exact this
      have hml2 : m2.length = rs2.length := Paired.length hm6
      refine ⟨_, rfl, _, rfl, d, _, rfl, hgt, _, rfl, _, rfl, fe, _, rfl, DPut.t (k := psK (rkP r)) hfe6 (show H6 pk = some (.tup ((psK (rkP r)).map kV)) from e36) (len1000' (by (first | lia | omega))), ?_⟩
      have tkd : TK H6 (upd H6 fe (.dT (putK m2 (psK (rkP r)) (.ref vv)))) := fun b ys e => by
        rw [upd_ne (ne_of e hfe6 (fun z => nomatch z))]
        exact e
      have tk := s6.tk.trans tkd
      obtain ⟨rs3, g1, g2, g3⟩ := (hm6.tk tkd).put hg6 (r := r) (tk _ _ y2) (tk _ _ y3) (y4.mono tk) (hg.sz r hr1) (hg.tg r hr1)
      exact ⟨_, _, rs3, rfl, s6.upd_new hfe, upd_same, g1, g2, by (first | lia | omega)⟩
    · exact ⟨_, m2, rs2, rfl, s6, hfe6, hm6, hg6, by (first | lia | omega)⟩
  · rintro σ H6 ⟨v8, m2, rs2, rfl, s6, hfe6, hm6, hg6, hl6⟩
    show u6t3 _ _ _
    refine by_eq e6t3 ?_
    refine ⟨_, rfl, _, rfl, _, rfl, _, _, rfl, rfl, md, _, fe, m2, rs2, rfl, hfe6, hm6, hg6, by (first | lia | omega), fun H7 k7 => ⟨true, rfl, iteF ?_⟩⟩
    have k47 := (Kp.same s6).trans k7
    obtain ⟨vv, qv, yv, y1, y2, y3, y4⟩ := hm4.val1 hg.nd r0 hr0
    have hlf7 : H7 lf = some (tps (rkP r0)) := k47.tk _ _ hlf
    have hd7 : H7 d = some (.dT m) := k47 _ _ hd4 fun _ z => nomatch z
    refine ⟨_, rfl, fun nd hnd => ?_⟩
    have z8 := Same.new (o := .dT []) hnd
    have hgt : DGet (upd H7 nd (.dT [])) d (.ref lf) (some (.ref vv)) := by
      have := DGet.t (k := psK (rkP r0)) (z8 _ _ hd7) (show (upd H7 nd (.dT [])) lf = some (.tup ((psK (rkP r0)).map kV)) from z8 _ _ hlf7)
      rw [y1] at this
      exact this
    refine ⟨_, rfl, _, rfl, _, rfl, d, _, rfl, hgt, lf, psK (rkP r0), rfl, upd_same, z8 _ _ hlf7, ?_⟩
    have tk9 : TK H7 (upd (upd H7 nd (.dT [])) nd (.dT [(psK (rkP r0), .ref vv)])) := fun b ys e => by
      rw [upd_ne (ne_of_none e hnd), upd_ne (ne_of_none e hnd)]
      exact e
    have s9 : Same H7 (upd (upd H7 nd (.dT [])) nd (.dT [(psK (rkP r0), .ref vv)])) := z8.upd_new hnd
    have tk := k47.tk.trans tk9
    refine ⟨_, rfl, md, wy, nd, _, [r0], rfl, upd_same, .cons ⟨rfl, vv, qv, yv, rfl, tk _ _ y2, tk _ _ y3, y4.mono tk⟩ .nil, ⟨fun x hx => ?_, fun x hx => ?_, by simp⟩, (by show 1 ≤ 10; decide), fun H9 k9 => ⟨true, rfl, iteF (last H9 _ _ _ (k47.trans ((Kp.same s9).trans k9)))⟩⟩
    · rw [List.mem_singleton.mp hx]
      exact hg.sz r0 hr0
    · rw [List.mem_singleton.mp hx]
      exact hg.tg r0 hr0
end
theorem all_mk {l : PySem.W.OpenLaw} {w : World} {K : PySem.W.Frag} {h : Heap} {mg : Str → Option Value} {fa f1 f2 f3 f4 f5 f6 f7 f8 f9 f10 f11 f12 f13 f14 f15 f16 f17 f18 : Addr} (X : K.In h) (G : h.Ns mainGlobals mg) (hfa : mg "law" = some (.ref fa))
    {od1 an1 od2 an2 od3 an3 od4 an4 od5 an5 od6 an6 od7 an7 od8 an8 od9 an9 od10 an10 od11 an11 od12 an12 od13 an13 od14 an14 od15 an15 od16 an16 od17 an17 od18 an18 : Option Addr} {sl1 sl2 sl3 sl4 sl5 sl6 sl7 sl8 sl9 sl10 sl11 sl12 sl13 sl14 sl15 sl16 sl17 sl18 : Array (Option Value)} {oc1 kV1 dc1 pm1 cd1 ct1 oc2 kV2 dc2 pm2 cd2 ct2 oc3 kV3 dc3 pm3 cd3 ct3 oc4 kV4 dc4 pm4 cd4 ct4 oc5 kV5 dc5 pm5 cd5 ct5 oc6 kV6 dc6 pm6 cd6 ct6 oc7 kV7 dc7 pm7 cd7 ct7 oc8 kV8 dc8 pm8 cd8 ct8 oc9 kV9 dc9 pm9 cd9 ct9 oc10 kV10 dc10 pm10 cd10 ct10 oc11 kV11 dc11 pm11 cd11 ct11 oc12 kV12 dc12 pm12 cd12 ct12 oc13 kV13 dc13 pm13 cd13 ct13 oc14 kV14 dc14 pm14 cd14 ct14 oc15 kV15 dc15 pm15 cd15 ct15 oc16 kV16 dc16 pm16 cd16 ct16 oc17 kV17 dc17 pm17 cd17 ct17 oc18 kV18 dc18 pm18 cd18 ct18 : Value}
    {X_GroveError X_NoGrove X_BadChanger X_NotStraight X_NoChange : Addr}
    (xn_GroveError : PySem.W.nsIn K mainGlobals "GroveError" = some (some (.ref X_GroveError)))
    (xn_NoGrove : PySem.W.nsIn K mainGlobals "NoGrove" = some (some (.ref X_NoGrove)))
    (xn_BadChanger : PySem.W.nsIn K mainGlobals "BadChanger" = some (some (.ref X_BadChanger)))
    (xn_NotStraight : PySem.W.nsIn K mainGlobals "NotStraight" = some (some (.ref X_NotStraight)))
    (xn_NoChange : PySem.W.nsIn K mainGlobals "NoChange" = some (some (.ref X_NoChange)))
    {g0 goc : Value} {gdd god : Option Addr} {gcd : ClassData} {gsl gsl' : Array (Option Value)} {ges : Array DictEntry} {gep : Nat} (xg1 : K.lookup X_GroveError = some ⟨g0, gdd, .cls gcd, gsl⟩) (xg2 : K.lookup gcd.ns = some ⟨goc, god, .dict ges gep, gsl'⟩) (xg3 : keysOk ges = true) (xg4 : PySem.W.nsIn K gcd.ns "__init__" = some none)
    (xb1 : PySem.W.specialIn K (.ref X_GroveError) "__getattribute__" = some (some (.builtin "type.__getattribute__"))) (xb2 : PySem.W.readsIn K X_GroveError (.type "type") = true) (xb3 : PySem.W.findCls K (.ref X_GroveError) (.type "type") "__init__" = some (.val (.builtin "ValueError.__init__"))) (xb4 : PySem.W.isClsIn K X_GroveError = true) (xb5 : PySem.W.typeIn K (.ref X_GroveError) = some (.type "type"))
    (d1_GroveError : PySem.W.isClsIn K X_GroveError = true) (d2_GroveError : PySem.W.mroIn K X_GroveError (.type "BaseException") = some true) (d3_GroveError : PySem.W.instIn K (.ref X_GroveError) (.type "tuple") = some false)
    (d1_NoGrove : PySem.W.isClsIn K X_NoGrove = true) (d2_NoGrove : PySem.W.mroIn K X_NoGrove (.type "BaseException") = some true) (d3_NoGrove : PySem.W.instIn K (.ref X_NoGrove) (.type "tuple") = some false)
    (d1_BadChanger : PySem.W.isClsIn K X_BadChanger = true) (d2_BadChanger : PySem.W.mroIn K X_BadChanger (.type "BaseException") = some true) (d3_BadChanger : PySem.W.instIn K (.ref X_BadChanger) (.type "tuple") = some false)
    (d1_NotStraight : PySem.W.isClsIn K X_NotStraight = true) (d2_NotStraight : PySem.W.mroIn K X_NotStraight (.type "BaseException") = some true) (d3_NotStraight : PySem.W.instIn K (.ref X_NotStraight) (.type "tuple") = some false)
    (d1_NoChange : PySem.W.isClsIn K X_NoChange = true) (d2_NoChange : PySem.W.mroIn K X_NoChange (.type "BaseException") = some true) (d3_NoChange : PySem.W.instIn K (.ref X_NoChange) (.type "tuple") = some false)
    {nm_NotStraight q_NotStraight : Str} {N_NotStraight : Addr} {bs_NotStraight : List Value} {hdct_NotStraight : Bool} {sn_NotStraight : List Str} {sub_NotStraight : List Value} {ab_NotStraight : Bool} {col_NotStraight : Option Bool} {dd_NotStraight : Option Addr} {k0_NotStraight k1_NotStraight k2_NotStraight k3_NotStraight k5_NotStraight : Option Value}
    (xl_NotStraight : K.lookup X_NotStraight = some (excClassObj nm_NotStraight q_NotStraight X_NotStraight N_NotStraight bs_NotStraight (.ref X_GroveError :: bmV) hdct_NotStraight sn_NotStraight sub_NotStraight ab_NotStraight col_NotStraight dd_NotStraight k0_NotStraight k1_NotStraight k2_NotStraight k3_NotStraight k5_NotStraight "ValueError.__new__"))
    (xc_NotStraight : PySem.W.specialIn K (.ref X_NotStraight) "__call__" = some (some (.builtin "type.__call__"))) (xt_NotStraight : PySem.W.instIn K (.ref X_NotStraight) (.type "type") = some true) (xk_NotStraight : PySem.W.keepIn K (.ref X_NotStraight) = true) (xv_NotStraight : PySem.W.mroIn K X_NotStraight (.type "ValueError") = some true)
    (xe_NotStraight : X_NotStraight ≠ X_GroveError)
    (o1_NotStraight_BadChanger : PySem.W.findIn K (.ref X_NotStraight) "__class__" = some (some (.builtin "object.__class__"))) (o2_NotStraight_BadChanger : PySem.W.specialIn K (.builtin "object.__class__") "__get__" = some (some (.builtin "getset_descriptor.__get__"))) (o3_NotStraight_BadChanger : PySem.W.takesIn K (.builtin "object.__class__") = some true) (o4_NotStraight_BadChanger : PySem.W.mroIn K X_NotStraight (.type "object") = some true) (o5_NotStraight_BadChanger : PySem.W.typeIn K (.ref X_BadChanger) = some (.type "type")) (o6_NotStraight_BadChanger : X_NotStraight ≠ X_BadChanger)
    (o1_NotStraight_NoGrove : PySem.W.findIn K (.ref X_NotStraight) "__class__" = some (some (.builtin "object.__class__"))) (o2_NotStraight_NoGrove : PySem.W.specialIn K (.builtin "object.__class__") "__get__" = some (some (.builtin "getset_descriptor.__get__"))) (o3_NotStraight_NoGrove : PySem.W.takesIn K (.builtin "object.__class__") = some true) (o4_NotStraight_NoGrove : PySem.W.mroIn K X_NotStraight (.type "object") = some true) (o5_NotStraight_NoGrove : PySem.W.typeIn K (.ref X_NoGrove) = some (.type "type")) (o6_NotStraight_NoGrove : X_NotStraight ≠ X_NoGrove)
    (o1_NotStraight_NoChange : PySem.W.findIn K (.ref X_NotStraight) "__class__" = some (some (.builtin "object.__class__"))) (o2_NotStraight_NoChange : PySem.W.specialIn K (.builtin "object.__class__") "__get__" = some (some (.builtin "getset_descriptor.__get__"))) (o3_NotStraight_NoChange : PySem.W.takesIn K (.builtin "object.__class__") = some true) (o4_NotStraight_NoChange : PySem.W.mroIn K X_NotStraight (.type "object") = some true) (o5_NotStraight_NoChange : PySem.W.typeIn K (.ref X_NoChange) = some (.type "type")) (o6_NotStraight_NoChange : X_NotStraight ≠ X_NoChange)
    (xi_NotStraight : PySem.W.findIn K (.ref X_NotStraight) "__init__" = some (some (.builtin "ValueError.__init__")))
    (f1_NotStraight_place : PySem.W.findIn K (.ref X_NotStraight) "__setattr__" = some (some (.builtin "object.__setattr__"))) (f2_NotStraight_place : PySem.W.findIn K (.ref X_NotStraight) "place" = some none) (f3_NotStraight_place : PySem.W.hasDictIn K X_NotStraight = true) (f4_NotStraight_place : PySem.W.findIn K (.ref X_NotStraight) "__getattribute__" = some (some (.builtin "BaseException.__getattribute__"))) (f5_NotStraight_place : PySem.W.findIn K (.ref X_NotStraight) "__getattr__" = some none)
    (m_NotStraight_GroveError : PySem.W.mroIn K X_NotStraight (.ref X_GroveError) = some true)
    (m_NotStraight_NoGrove : PySem.W.mroIn K X_NotStraight (.ref X_NoGrove) = some false)
    (m_NotStraight_BadChanger : PySem.W.mroIn K X_NotStraight (.ref X_BadChanger) = some false)
    (m_NotStraight_NotStraight : PySem.W.mroIn K X_NotStraight (.ref X_NotStraight) = some true)
    (m_NotStraight_NoChange : PySem.W.mroIn K X_NotStraight (.ref X_NoChange) = some false)
    {C_Stream C_Reader C_Pipe : Addr}
    (cn1 : PySem.W.nsIn K mainGlobals "Stream" = some (some (.ref C_Stream))) (cp1 : PySem.W.plainGet K C_Stream Str.empty = true) (ch1 : PySem.W.hasDictIn K C_Stream = true) (cq1 : PySem.W.plainOver K C_Stream = true) (cs1 : PySem.W.findIn K (.ref C_Stream) "__setattr__" = some (some (.builtin "object.__setattr__"))) (cm1 : PySem.W.makesIn K C_Stream = true) (ck1 : PySem.W.keepIn K (.ref C_Stream) = true)
    (cx1_0 : PySem.W.findIn K (.ref C_Stream) "known" = some none)
    (cx1_1 : PySem.W.findIn K (.ref C_Stream) "taken" = some none)
    (cx1_2 : PySem.W.findIn K (.ref C_Stream) "begun" = some none)
    (cn2 : PySem.W.nsIn K mainGlobals "Reader" = some (some (.ref C_Reader))) (cp2 : PySem.W.plainGet K C_Reader Str.empty = true) (ch2 : PySem.W.hasDictIn K C_Reader = true) (cq2 : PySem.W.plainOver K C_Reader = true) (cs2 : PySem.W.findIn K (.ref C_Reader) "__setattr__" = some (some (.builtin "object.__setattr__"))) (cm2 : PySem.W.makesIn K C_Reader = true) (ck2 : PySem.W.keepIn K (.ref C_Reader) = true)
    (cx2_0 : PySem.W.findIn K (.ref C_Reader) "form" = some none)
    (cx2_1 : PySem.W.findIn K (.ref C_Reader) "final" = some none)
    (cx2_2 : PySem.W.findIn K (.ref C_Reader) "ways" = some none)
    (cx2_3 : PySem.W.findIn K (.ref C_Reader) "levels" = some none)
    (cx2_4 : PySem.W.findIn K (.ref C_Reader) "tags" = some none)
    (cn3 : PySem.W.nsIn K mainGlobals "Pipe" = some (some (.ref C_Pipe))) (cp3 : PySem.W.plainGet K C_Pipe Str.empty = true) (ch3 : PySem.W.hasDictIn K C_Pipe = true) (cq3 : PySem.W.plainOver K C_Pipe = true) (cs3 : PySem.W.findIn K (.ref C_Pipe) "__setattr__" = some (some (.builtin "object.__setattr__"))) (cm3 : PySem.W.makesIn K C_Pipe = true) (ck3 : PySem.W.keepIn K (.ref C_Pipe) = true)
    (cx3_0 : PySem.W.findIn K (.ref C_Pipe) "stream" = some none)
    (cx3_1 : PySem.W.findIn K (.ref C_Pipe) "first" = some none)
    (cx3_2 : PySem.W.findIn K (.ref C_Pipe) "second" = some none)
    (cx3_3 : PySem.W.findIn K (.ref C_Pipe) "told" = some none)
    (cx3_4 : PySem.W.findIn K (.ref C_Pipe) "broken_at" = some none)
    (a1 : PySem.W.nsIn K mainGlobals "_law_cell" = some (some (.ref f1))) (l1 : K.lookup f1 = some ⟨oc1, od1, .func (PySem.W.fnOf "_law_cell" "_law_cell" (defArgs s_l_cell) (defBody s_l_cell) (defScope s_l_cell) .none kV1 dc1 pm1 an1 cd1 ct1), sl1⟩) (c1 : PySem.W.codeIn K cd1 "_law_cell" = true) (k1 : PySem.W.keepIn K (.ref f1) = true)
    (a2 : PySem.W.nsIn K mainGlobals "_law_tags" = some (some (.ref f2))) (l2 : K.lookup f2 = some ⟨oc2, od2, .func (PySem.W.fnOf "_law_tags" "_law_tags" (defArgs s_l_tags) (defBody s_l_tags) (defScope s_l_tags) .none kV2 dc2 pm2 an2 cd2 ct2), sl2⟩) (c2 : PySem.W.codeIn K cd2 "_law_tags" = true) (k2 : PySem.W.keepIn K (.ref f2) = true)
    (a3 : PySem.W.nsIn K mainGlobals "_law_parts" = some (some (.ref f3))) (l3 : K.lookup f3 = some ⟨oc3, od3, .func (PySem.W.fnOf "_law_parts" "_law_parts" (defArgs s_l_parts) (defBody s_l_parts) (defScope s_l_parts) .none kV3 dc3 pm3 an3 cd3 ct3), sl3⟩) (c3 : PySem.W.codeIn K cd3 "_law_parts" = true) (k3 : PySem.W.keepIn K (.ref f3) = true)
    (a4 : PySem.W.nsIn K mainGlobals "_law_rules" = some (some (.ref f4))) (l4 : K.lookup f4 = some ⟨oc4, od4, .func (PySem.W.fnOf "_law_rules" "_law_rules" (defArgs s_l_rules) (defBody s_l_rules) (defScope s_l_rules) .none kV4 dc4 pm4 an4 cd4 ct4), sl4⟩) (c4 : PySem.W.codeIn K cd4 "_law_rules" = true) (k4 : PySem.W.keepIn K (.ref f4) = true)
    (a5 : PySem.W.nsIn K mainGlobals "_law_changer" = some (some (.ref f5))) (l5 : K.lookup f5 = some ⟨oc5, od5, .func (PySem.W.fnOf "_law_changer" "_law_changer" (defArgs s_l_changer) (defBody s_l_changer) (defScope s_l_changer) .none kV5 dc5 pm5 an5 cd5 ct5), sl5⟩) (c5 : PySem.W.codeIn K cd5 "_law_changer" = true) (k5 : PySem.W.keepIn K (.ref f5) = true)
    (a6 : PySem.W.nsIn K mainGlobals "all_parts" = some (some (.ref f6))) (l6 : K.lookup f6 = some ⟨oc6, od6, .func (PySem.W.fnOf "all_parts" "all_parts" (defArgs s_all_parts) (defBody s_all_parts) (defScope s_all_parts) .none kV6 dc6 pm6 an6 cd6 ct6), sl6⟩) (c6 : PySem.W.codeIn K cd6 "all_parts" = true) (k6 : PySem.W.keepIn K (.ref f6) = true)
    (a7 : PySem.W.nsIn K mainGlobals "kids_in" = some (some (.ref f7))) (l7 : K.lookup f7 = some ⟨oc7, od7, .func (PySem.W.fnOf "kids_in" "kids_in" (defArgs s_kids_in) (defBody s_kids_in) (defScope s_kids_in) .none kV7 dc7 pm7 an7 cd7 ct7), sl7⟩) (c7 : PySem.W.codeIn K cd7 "kids_in" = true) (k7 : PySem.W.keepIn K (.ref f7) = true)
    (a8 : PySem.W.nsIn K mainGlobals "straight" = some (some (.ref f8))) (l8 : K.lookup f8 = some ⟨oc8, od8, .func (PySem.W.fnOf "straight" "straight" (defArgs s_straight) (defBody s_straight) (defScope s_straight) .none kV8 dc8 pm8 an8 cd8 ct8), sl8⟩) (c8 : PySem.W.codeIn K cd8 "straight" = true) (k8 : PySem.W.keepIn K (.ref f8) = true)
    (a9 : PySem.W.nsIn K mainGlobals "parts_by_rule" = some (some (.ref f9))) (l9 : K.lookup f9 = some ⟨oc9, od9, .func (PySem.W.fnOf "parts_by_rule" "parts_by_rule" (defArgs s_parts_by_rule) (defBody s_parts_by_rule) (defScope s_parts_by_rule) .none kV9 dc9 pm9 an9 cd9 ct9), sl9⟩) (c9 : PySem.W.codeIn K cd9 "parts_by_rule" = true) (k9 : PySem.W.keepIn K (.ref f9) = true)
    (a10 : PySem.W.findIn K (.ref C_Stream) "__init__" = some (some (.ref f10))) (l10 : K.lookup f10 = some ⟨oc10, od10, .func (PySem.W.fnOf "__init__" "Stream.__init__" (defArgs s_Stream___init__) (defBody s_Stream___init__) (defScope s_Stream___init__) .none kV10 dc10 pm10 an10 cd10 ct10), sl10⟩) (c10 : PySem.W.codeIn K cd10 "Stream.__init__" = true) (k10 : PySem.W.keepIn K (.ref f10) = true) (n10 : PySem.W.isFn K (.ref f10) = true)
    (a11 : PySem.W.nsIn K mainGlobals "live_kinds" = some (some (.ref f11))) (l11 : K.lookup f11 = some ⟨oc11, od11, .func (PySem.W.fnOf "live_kinds" "live_kinds" (defArgs s_live_kinds) (defBody s_live_kinds) (defScope s_live_kinds) .none kV11 dc11 pm11 an11 cd11 ct11), sl11⟩) (c11 : PySem.W.codeIn K cd11 "live_kinds" = true) (k11 : PySem.W.keepIn K (.ref f11) = true)
    (a12 : PySem.W.findIn K (.ref C_Reader) "__init__" = some (some (.ref f12))) (l12 : K.lookup f12 = some ⟨oc12, od12, .func (PySem.W.fnOf "__init__" "Reader.__init__" (defArgs s_Reader___init__) (defBody s_Reader___init__) (defScope s_Reader___init__) .none kV12 dc12 pm12 an12 cd12 ct12), sl12⟩) (c12 : PySem.W.codeIn K cd12 "Reader.__init__" = true) (k12 : PySem.W.keepIn K (.ref f12) = true) (n12 : PySem.W.isFn K (.ref f12) = true)
    (a13 : PySem.W.findIn K (.ref C_Pipe) "__init__" = some (some (.ref f13))) (l13 : K.lookup f13 = some ⟨oc13, od13, .func (PySem.W.fnOf "__init__" "Pipe.__init__" (defArgs s_Pipe___init__) (defBody s_Pipe___init__) (defScope s_Pipe___init__) .none kV13 dc13 pm13 an13 cd13 ct13), sl13⟩) (c13 : PySem.W.codeIn K cd13 "Pipe.__init__" = true) (k13 : PySem.W.keepIn K (.ref f13) = true) (n13 : PySem.W.isFn K (.ref f13) = true)
    (a14 : PySem.W.nsIn K mainGlobals "_law_pipe_refused" = some (some (.ref f14))) (l14 : K.lookup f14 = some ⟨oc14, od14, .func (PySem.W.fnOf "_law_pipe_refused" "_law_pipe_refused" (defArgs s_l_pipe_refused) (defBody s_l_pipe_refused) (defScope s_l_pipe_refused) .none kV14 dc14 pm14 an14 cd14 ct14), sl14⟩) (c14 : PySem.W.codeIn K cd14 "_law_pipe_refused" = true) (k14 : PySem.W.keepIn K (.ref f14) = true)
    (a15 : PySem.W.nsIn K mainGlobals "_law_refused" = some (some (.ref f15))) (l15 : K.lookup f15 = some ⟨oc15, od15, .func (PySem.W.fnOf "_law_refused" "_law_refused" (defArgs s_l_refused) (defBody s_l_refused) (defScope s_l_refused) .none kV15 dc15 pm15 an15 cd15 ct15), sl15⟩) (c15 : PySem.W.codeIn K cd15 "_law_refused" = true) (k15 : PySem.W.keepIn K (.ref f15) = true)
    (a16 : PySem.W.nsIn K mainGlobals "_law_by_base" = some (some (.ref f16))) (l16 : K.lookup f16 = some ⟨oc16, od16, .func (PySem.W.fnOf "_law_by_base" "_law_by_base" (defArgs s_l_by_base) (defBody s_l_by_base) (defScope s_l_by_base) .none kV16 dc16 pm16 an16 cd16 ct16), sl16⟩) (c16 : PySem.W.codeIn K cd16 "_law_by_base" = true) (k16 : PySem.W.keepIn K (.ref f16) = true)
    (a17 : PySem.W.nsIn K mainGlobals "_law_good" = some (some (.ref f17))) (l17 : K.lookup f17 = some ⟨oc17, od17, .func (PySem.W.fnOf "_law_good" "_law_good" (defArgs s_l_good) (defBody s_l_good) (defScope s_l_good) .none kV17 dc17 pm17 an17 cd17 ct17), sl17⟩) (c17 : PySem.W.codeIn K cd17 "_law_good" = true) (k17 : PySem.W.keepIn K (.ref f17) = true)
    (a18 : PySem.W.nsIn K mainGlobals "law" = some (some (.ref f18))) (l18 : K.lookup f18 = some ⟨oc18, od18, .func (PySem.W.fnOf "law" "law" (defArgs s_law) (defBody s_law) (defScope s_law) .none kV18 dc18 pm18 an18 cd18 ct18), sl18⟩) (c18 : PySem.W.codeIn K cd18 "law" = true) (k18 : PySem.W.keepIn K (.ref f18) = true)
    (z0 : PySem.W.nsIn K mainGlobals "ValueError" = some none) (z1 : PySem.W.nsIn K mainGlobals "all" = some none) (z2 : PySem.W.nsIn K mainGlobals "bool" = some none) (z3 : PySem.W.nsIn K mainGlobals "dict" = some none) (z4 : PySem.W.nsIn K mainGlobals "isinstance" = some none) (z5 : PySem.W.nsIn K mainGlobals "len" = some none) (z6 : PySem.W.nsIn K mainGlobals "list" = some none) (z7 : PySem.W.nsIn K mainGlobals "range" = some none) (z8 : PySem.W.nsIn K mainGlobals "sorted" = some none) (z9 : PySem.W.nsIn K mainGlobals "tuple" = some none) :
    ∃ fd : FuncData, (∀ (s : Shared) (v : Value), BindsTo s fd ⟨[v], []⟩ [("_law_script", v)]) ∧ ∀ base : Heap, K.In base → base.Ns mainGlobals mg → FnOk l.prog w K mg base CX0 31 fa fd ["_law_script"] (Fg.spLaw K) := by
  have e := hfa.symm.trans (PySem.W.mg_of X G a18)
  cases e
  have B : ∀ x ∈ blts, mg x = none := List.forall_mem_cons.mpr ⟨PySem.W.mg_none_of X G z0, List.forall_mem_cons.mpr ⟨PySem.W.mg_none_of X G z1, List.forall_mem_cons.mpr ⟨PySem.W.mg_none_of X G z2, List.forall_mem_cons.mpr ⟨PySem.W.mg_none_of X G z3, List.forall_mem_cons.mpr ⟨PySem.W.mg_none_of X G z4, List.forall_mem_cons.mpr ⟨PySem.W.mg_none_of X G z5, List.forall_mem_cons.mpr ⟨PySem.W.mg_none_of X G z6, List.forall_mem_cons.mpr ⟨PySem.W.mg_none_of X G z7, List.forall_mem_cons.mpr ⟨PySem.W.mg_none_of X G z8, List.forall_mem_cons.mpr ⟨PySem.W.mg_none_of X G z9, List.forall_mem_nil _⟩⟩⟩⟩⟩⟩⟩⟩⟩⟩
  have F1 := fun_mk (st := s_l_cell) l1 c1 k1
  have b1 := F1.binds (ps := ["_law_script", "_law_k"]) fun _ _ _ _ _ _ us hl => by obtain ⟨_, _, rfl⟩ := len2 hl; rfl
  have F2 := fun_mk (st := s_l_tags) l2 c2 k2
  have b2 := F2.binds (ps := ["_law_cell_here"]) fun _ _ _ _ _ _ us hl => by obtain ⟨_, rfl⟩ := len1 hl; rfl
  have F3 := fun_mk (st := s_l_parts) l3 c3 k3
  have b3 := F3.binds (ps := ["_law_cell_here", "_law_tags_here", "_law_modes", "_law_once"]) fun _ _ _ _ _ _ us hl => by obtain ⟨_, _, _, _, rfl⟩ := len4 hl; rfl
  have F4 := fun_mk (st := s_l_rules) l4 c4 k4
  have b4 := F4.binds (ps := ["_law_script", "_law_modes", "_law_tags_here", "_law_once"]) fun _ _ _ _ _ _ us hl => by obtain ⟨_, _, _, _, rfl⟩ := len4 hl; rfl
  have F5 := fun_mk (st := s_l_changer) l5 c5 k5
  have b5 := F5.binds (ps := ["_law_modes", "_law_made"]) fun _ _ _ _ _ _ us hl => by obtain ⟨_, _, rfl⟩ := len2 hl; rfl
  have F6 := fun_mk (st := s_all_parts) l6 c6 k6
  have b6 := F6.binds (ps := ["parts"]) fun _ _ _ _ _ _ us hl => by obtain ⟨_, rfl⟩ := len1 hl; rfl
  have F7 := fun_mk (st := s_kids_in) l7 c7 k7
  have b7 := F7.binds (ps := ["parts"]) fun _ _ _ _ _ _ us hl => by obtain ⟨_, rfl⟩ := len1 hl; rfl
  have F8 := fun_mk (st := s_straight) l8 c8 k8
  have b8 := F8.binds (ps := ["changer"]) fun _ _ _ _ _ _ us hl => by obtain ⟨_, rfl⟩ := len1 hl; rfl
  have F9 := fun_mk (st := s_parts_by_rule) l9 c9 k9
  have b9 := F9.binds (ps := ["changer"]) fun _ _ _ _ _ _ us hl => by obtain ⟨_, rfl⟩ := len1 hl; rfl
  have F10 := fun_mk (st := s_Stream___init__) l10 c10 k10
  have b10 := F10.binds (ps := ["self", "changer"]) fun _ _ _ _ _ _ us hl => by obtain ⟨_, _, rfl⟩ := len2 hl; rfl
  have F11 := fun_mk (st := s_live_kinds) l11 c11 k11
  have b11 := F11.binds (ps := ["form"]) fun _ _ _ _ _ _ us hl => by obtain ⟨_, rfl⟩ := len1 hl; rfl
  have F12 := fun_mk (st := s_Reader___init__) l12 c12 k12
  have b12 := F12.binds (ps := ["self", "form"]) fun _ _ _ _ _ _ us hl => by obtain ⟨_, _, rfl⟩ := len2 hl; rfl
  have F13 := fun_mk (st := s_Pipe___init__) l13 c13 k13
  have b13 := F13.binds (ps := ["self", "changer", "before", "behind"]) fun _ _ _ _ _ _ us hl => by obtain ⟨_, _, _, _, rfl⟩ := len4 hl; rfl
  have F14 := fun_mk (st := s_l_pipe_refused) l14 c14 k14
  have b14 := F14.binds (ps := ["_law_recipe"]) fun _ _ _ _ _ _ us hl => by obtain ⟨_, rfl⟩ := len1 hl; rfl
  have F15 := fun_mk (st := s_l_refused) l15 c15 k15
  have b15 := F15.binds (ps := ["_law_recipe"]) fun _ _ _ _ _ _ us hl => by obtain ⟨_, rfl⟩ := len1 hl; rfl
  have F16 := fun_mk (st := s_l_by_base) l16 c16 k16
  have b16 := F16.binds (ps := ["_law_recipe"]) fun _ _ _ _ _ _ us hl => by obtain ⟨_, rfl⟩ := len1 hl; rfl
  have F17 := fun_mk (st := s_l_good) l17 c17 k17
  have b17 := F17.binds (ps := ["_law_modes", "_law_made", "_law_way"]) fun _ _ _ _ _ _ us hl => by obtain ⟨_, _, _, rfl⟩ := len3 hl; rfl
  have F18 := fun_mk (st := s_law) l18 c18 k18
  refine ⟨PySem.W.fnOf "law" "law" (defArgs s_law) (defBody s_law) (defScope s_law) .none kV18 dc18 pm18 an18 cd18 ct18, fun s v => .of_eq rfl, fun base _ _ => ?_⟩
  have xc : XC K mg X_GroveError X_NoGrove X_BadChanger X_NotStraight X_NoChange := ⟨PySem.W.mg_of X G xn_GroveError, PySem.W.mg_of X G xn_NoGrove, PySem.W.mg_of X G xn_BadChanger, PySem.W.mg_of X G xn_NotStraight, PySem.W.mg_of X G xn_NoChange, ⟨xb1, xb2, xb3⟩, xb4, xb5, ⟨d1_GroveError, d2_GroveError, d3_GroveError⟩, ⟨d1_NoGrove, d2_NoGrove, d3_NoGrove⟩, ⟨d1_BadChanger, d2_BadChanger, d3_BadChanger⟩, ⟨d1_NotStraight, d2_NotStraight, d3_NotStraight⟩, ⟨d1_NoChange, d2_NoChange, d3_NoChange⟩, ⟨⟨_, _, _, _, _, _, _, _, _, _, _, _, _, _, _, xl_NotStraight⟩, ⟨⟨_, _, _, _, _, _, _, _, _, xg1, xg2, xg3, xg4⟩⟩, xc_NotStraight, xt_NotStraight, xk_NotStraight⟩, xi_NotStraight, ⟨f1_NotStraight_place, f2_NotStraight_place, f3_NotStraight_place, f4_NotStraight_place, f5_NotStraight_place, d2_NotStraight⟩, xv_NotStraight, xe_NotStraight, ⟨o1_NotStraight_BadChanger, o2_NotStraight_BadChanger, o3_NotStraight_BadChanger, o4_NotStraight_BadChanger, o5_NotStraight_BadChanger⟩, o6_NotStraight_BadChanger, ⟨o1_NotStraight_NoGrove, o2_NotStraight_NoGrove, o3_NotStraight_NoGrove, o4_NotStraight_NoGrove, o5_NotStraight_NoGrove⟩, o6_NotStraight_NoGrove, ⟨o1_NotStraight_NoChange, o2_NotStraight_NoChange, o3_NotStraight_NoChange, o4_NotStraight_NoChange, o5_NotStraight_NoChange⟩, o6_NotStraight_NoChange, m_NotStraight_GroveError, m_NotStraight_NoGrove, m_NotStraight_BadChanger, m_NotStraight_NotStraight, m_NotStraight_NoChange⟩
  have c_Stream : Fg.StC K C_Stream := ⟨⟨cp1, ch1, cq1, cs1⟩, cx1_0, cx1_1, cx1_2⟩
  have c_Reader : Fg.RdC K C_Reader := ⟨⟨cp2, ch2, cq2, cs2⟩, cx2_0, cx2_1, cx2_2, cx2_3, cx2_4⟩
  have c_Pipe : K68.PpC K C_Pipe := ⟨⟨cp3, ch3, cq3, cs3⟩, cx3_0, cx3_1, cx3_2, cx3_3, cx3_4⟩
  have g_l_cell : Has l.prog w K mg base "_law_cell" ["_law_script", "_law_k"] 1 (K68.spCellS K) := ⟨⟨f1, _, ok_l_cell B  F1, b1, k1, PySem.W.mg_of X G a1⟩⟩
  have g_l_tags : Has l.prog w K mg base "_law_tags" ["_law_cell_here"] 1 (K68.spTags3) := ⟨⟨f2, _, ok_l_tags B  F2, b2, k2, PySem.W.mg_of X G a2⟩⟩
  have g_l_parts : Has l.prog w K mg base "_law_parts" ["_law_cell_here", "_law_tags_here", "_law_modes", "_law_once"] 1 (K68.spParts68) := ⟨⟨f3, _, ok_l_parts B  F3, b3, k3, PySem.W.mg_of X G a3⟩⟩
  have g_l_rules : Has l.prog w K mg base "_law_rules" ["_law_script", "_law_modes", "_law_tags_here", "_law_once"] 2 (K68.spRules68 K) := ⟨⟨f4, _, ok_l_rules B g_l_cell g_l_parts F4, b4, k4, PySem.W.mg_of X G a4⟩⟩
  have g_l_changer : Has l.prog w K mg base "_law_changer" ["_law_modes", "_law_made"] 1 (K68.spChg68) := ⟨⟨f5, _, ok_l_changer B  F5, b5, k5, PySem.W.mg_of X G a5⟩⟩
  have r_all_parts : ∀ d : Nat, Has l.prog w K mg base "all_parts" ["parts"] d (K68.spAllP d) := by
    intro d
    induction d with
    | zero => exact ⟨⟨f6, _, FnOk.none (fun vs H Q E z => by obtain ⟨_, _, _, _, _, _, hd, _⟩ := z; exact absurd hd (Nat.not_lt_zero _)), b6, k6, PySem.W.mg_of X G a6⟩⟩
    | succ d ih => exact ⟨⟨f6, _, ok_all_parts d B ih F6, b6, k6, PySem.W.mg_of X G a6⟩⟩
  have g_all_parts := r_all_parts 22
  have g_kids_in : Has l.prog w K mg base "kids_in" ["parts"] 23 (K68.spKidsIn 22) := ⟨⟨f7, _, ok_kids_in B g_all_parts F7, b7, k7, PySem.W.mg_of X G a7⟩⟩
  have g_straight : Has l.prog w K mg base "straight" ["changer"] 24 (K68.spStraight) := ⟨⟨f8, _, ok_straight B g_kids_in F8, b8, k8, PySem.W.mg_of X G a8⟩⟩
  have g_parts_by_rule : Has l.prog w K mg base "parts_by_rule" ["changer"] 1 (K68.spByRule) := ⟨⟨f9, _, ok_parts_by_rule B  F9, b9, k9, PySem.W.mg_of X G a9⟩⟩
  have g_Stream : HasCX l.prog w K mg base C_Stream "Stream" ["self", "changer"] 25 (K68.spStX C_Stream X_NotStraight) := ⟨⟨f10, _, ok_Stream___init__ B c_Stream xc g_straight g_parts_by_rule F10, b10, ⟨cm1, a10, n10, ck1⟩, PySem.W.mg_of X G cn1⟩⟩
  have g_live_kinds : Has l.prog w K mg base "live_kinds" ["form"] 1 (Fg.spLiveR K) := ⟨⟨f11, _, ok_live_kinds B  F11, b11, k11, PySem.W.mg_of X G a11⟩⟩
  have g_Reader : HasC l.prog w K mg base C_Reader "Reader" ["self", "form"] 2 (Fg.spRInit K C_Reader) := ⟨⟨f12, _, ok_Reader___init__ B c_Reader g_live_kinds F12, b12, ⟨cm2, a12, n12, ck2⟩, PySem.W.mg_of X G cn2⟩⟩
  have g_Pipe : HasCX l.prog w K mg base C_Pipe "Pipe" ["self", "changer", "before", "behind"] 27 (K68.spPpX C_Pipe X_NotStraight) := ⟨⟨f13, _, ok_Pipe___init__ B c_Stream c_Reader c_Pipe g_Stream g_Reader F13, b13, ⟨cm3, a13, n13, ck3⟩, PySem.W.mg_of X G cn3⟩⟩
  have g_l_pipe_refused : Has l.prog w K mg base "_law_pipe_refused" ["_law_recipe"] 29 (K68.spPRef68) := ⟨⟨f14, _, ok_l_pipe_refused B c_Pipe xc g_Pipe F14, b14, k14, PySem.W.mg_of X G a14⟩⟩
  have g_l_refused : Has l.prog w K mg base "_law_refused" ["_law_recipe"] 27 (K68.spRef68) := ⟨⟨f15, _, ok_l_refused B c_Stream xc g_Stream F15, b15, k15, PySem.W.mg_of X G a15⟩⟩
  have g_l_by_base : Has l.prog w K mg base "_law_by_base" ["_law_recipe"] 27 (K68.spRef68) := ⟨⟨f16, _, ok_l_by_base B c_Stream xc g_Stream F16, b16, k16, PySem.W.mg_of X G a16⟩⟩
  have g_l_good : Has l.prog w K mg base "_law_good" ["_law_modes", "_law_made", "_law_way"] 30 (K68.spGood68) := ⟨⟨f17, _, ok_l_good B g_l_changer g_straight g_l_pipe_refused g_l_refused g_l_by_base F17, b17, k17, PySem.W.mg_of X G a17⟩⟩
  exact ok_law B g_l_cell g_l_tags g_l_rules g_l_good F18
theorem walk {l : PySem.W.OpenLaw} {q : Program} {loose : List Str} {XP : (Str → Option Value) → Heap → Prop} {YP : World → Heap → Prop} {d : DefRec} {K : Params → PySem.W.Frag} (hn : l.most = some 63) (hdf : d.params.defaults = [])
    (hY : ∀ (w : World) (h : Heap), YP w h → (K w.params).In h)
    (F : ∀ (w : World) (mg : Str → Option Value) (fa : Addr) (h : Heap), (K w.params).In h → h.Ns mainGlobals mg → mg d.name = some (.ref fa) →
      ∃ fd : FuncData, (∀ (s : Shared) (u : Value), BindsTo s fd ⟨[u], []⟩ [("_law_script", u)]) ∧ ∀ base : Heap, (K w.params).In base → base.Ns mainGlobals mg → FnOk l.prog w (K w.params) mg base CX0 31 fa fd ["_law_script"] (Fg.spLaw (K w.params))) :
    PySem.W.WalkO q loose XP YP l.row.toRowW d [] (fun f vs => PySem.call f vs) :=
  L2.walk_of (n := 63) (k := 31) (x := "_law_script") (CX := fun _ => CX0) (sp := fun w => Fg.spLaw (K w.params)) hn (by decide) hdf ⟨rfl, by decide, by decide⟩ hY F (fun _ _ a ns hl _ hS => ⟨a, ns, rfl, hS, hl, fun _ => rfl⟩) fun _ _ _ _ _ z => z
end K68
def PySem.W.Fast.tw7541065836928793983 := 0
def PySem.W.Fast.tw14711191028360299258 := 0
def PySem.W.Fast.tw15925634583204153746 := 0
def PySem.W.Fast.tw8817837849293059940 := 0
def PySem.W.Fast.tw3723919004716595889 := 0
def PySem.W.Fast.tw6380372509224202230 := 0
def PySem.W.Fast.tw15095912192277854429 := 0
def PySem.W.Fast.tw15599846382589677818 := 0
def PySem.W.Fast.tw9350935796333983358 := 0
def PySem.W.Fast.tw11072344287634265492 := 0
def PySem.W.Fast.tw6804442692034534466 := 0
def PySem.W.Fast.tw12051407336970725567 := 0
def PySem.W.Fast.tw5684068459288162766 := 0
def PySem.W.Fast.tw7149088589632236585 := 0
def PySem.W.Fast.tw9959697068692308450 := 0
def PySem.W.Fast.tw17082864220472685789 := 0
def PySem.W.Fast.tw9536031219541787303 := 0
def PySem.W.Fast.tw16166031698447255930 := 0
def PySem.W.Fast.tw18355465537524233975 := 0
def PySem.W.Fast.tw16659650805022543865 := 0
def PySem.W.Fast.tw4394906838777728698 := 0
def PySem.W.Fast.tw7412740944002520152 := 0
def PySem.W.Fast.tw9346502900684830528 := 0
def PySem.W.Fast.tw5120987122215771689 := 0
def PySem.W.Fast.tw1156923496525550843 := 0
def PySem.W.Fast.tw13724692547673703231 := 0
def PySem.W.Fast.tw17500296756718623662 := 0
def PySem.W.Fast.tw1819673269335510092 := 0
def PySem.W.Fast.tw2466868404390051772 := 0
def PySem.W.Fast.tw5038712171911431974 := 0
def PySem.W.Fast.tw660417533954043279 := 0
def PySem.W.Fast.tw473788586317191533 := 0
def PySem.W.Fast.tw4996152083802058424 := 0
def PySem.W.Fast.tw18016256975212217543 := 0
def PySem.W.Fast.tw1323713947885616297 := 0
def PySem.W.Fast.tw6208774536942285971 := 0
def PySem.W.Fast.tw1764310352272892980 := 0
def PySem.W.Fast.tw8601809341712519802 := 0
def PySem.W.Fast.tw4508677573881335209 := 0
def PySem.W.Fast.tw5175169126252072886 := 0
def PySem.W.Fast.tw6883031874620877435 := 0
def PySem.W.Fast.tw3437176672396892505 := 0
def PySem.W.Fast.tw16097067781397936436 := 0
def PySem.W.Fast.tw9821670036680013666 := 0
def PySem.W.Fast.tw10228773428638017427 := 0
def PySem.W.Fast.tw1009780083685716494 := 0
def PySem.W.Fast.tw8670450557633904391 := 0
def PySem.W.Fast.tw1790186477653573839 := 0
def PySem.W.Fast.tw14556660268042254313 := 0
def PySem.W.Fast.tw13618639126587957622 := 0
def PySem.W.Fast.tw3218633102168412854 := 0
def PySem.W.Fast.tw4412880175808578180 := 0
def PySem.W.Fast.tw9520232934493864750 := 0
def PySem.W.Fast.tw12665849836758321079 := 0
def PySem.W.Fast.tw6243255948693132905 := 0
def PySem.W.Fast.tw17541782001956075787 := 0
def PySem.W.Fast.tw17616675350790373159 := 0
def PySem.W.Fast.tw3590109986372574254 := 0
def PySem.W.Fast.tw15856235235268169354 := 0
def PySem.W.Fast.tw1093274409141959491 := 0
def PySem.W.Fast.tw4148022283080688140 := 0
def PySem.W.Fast.tw9710780145166147094 := 0
def PySem.W.Fast.tw1904179195738737937 := 0
def PySem.W.Fast.tw6669935089271603400 := 0
def PySem.W.Fast.tw704469976714006249 := 0
def PySem.W.Fast.tw14962092674169258026 := 0
def PySem.W.Fast.tw5156227069425491654 := 0
def PySem.W.Fast.tw14088356843635383983 := 0
def PySem.W.Fast.tw2771705500059064253 := 0
def PySem.W.Fast.tw9306552341632351462 := 0
def PySem.W.Fast.tw13236853885197635652 := 0
def PySem.W.Fast.tw17408008588046507553 := 0
def PySem.W.Fast.tw13988606313333856078 := 0
def PySem.W.Fast.tw17802322206963998878 := 0
def PySem.W.Fast.tw14089506612238720458 := 0
def PySem.W.Fast.tw15093809341194288413 := 0
def PySem.W.Fast.tw8879540182450691372 := 0
def PySem.W.Fast.tw6106047357628974050 := 0
def PySem.W.Fast.tw14996168527372805335 := 0
def PySem.W.Fast.tw11042791295880371382 := 0
def PySem.W.Fast.tw15531774097286285615 := 0
def PySem.W.Fast.tw6636792776830162503 := 0
def PySem.W.Fast.tw16936492544054528665 := 0
def PySem.W.Fast.tw7918901337468785383 := 0
def PySem.W.Fast.tw17971029732797674354 := 0
def PySem.W.Fast.tw3051325586026119081 := 0
def PySem.W.Fast.tw5452176156201273207 := 0
def PySem.W.Fast.tw17384900150667408728 := 0
def PySem.W.Fast.tw543632293320095972 := 0
def PySem.W.Fast.tw9476938534897573359 := 0
def PySem.W.Fast.tw18213018207381595373 := 0
def PySem.W.Fast.tw7991441249341567146 := 0
def PySem.W.Fast.tw2589393767224153548 := 0
def PySem.W.Fast.tw9555216509808489399 := 0
def PySem.W.Fast.tw15141557957667373386 := 0
def PySem.W.Fast.tw8688097072810134383 := 0
def PySem.W.Fast.tw153365710105612132 := 0
def PySem.W.Fast.tw14779451295777452616 := 0
def PySem.W.Fast.tw7806962053401891928 := 0
def PySem.W.Fast.tw16881720728043374743 := 0
def PySem.W.Fast.tw16667460451631504149 := 0
def PySem.W.Fast.tw120657231605681826 := 0
def PySem.W.Fast.tw2414353809211852149 := 0
def PySem.W.Fast.tw13747820417354749597 := 0
def PySem.W.Fast.tw9339493179259702730 := 0
def PySem.W.Fast.tw8275338196065216066 := 0
def PySem.W.Fast.tw13825562580713576562 := 0
def PySem.W.Fast.tw15211626204401608358 := 0
def PySem.W.Fast.tw12229614034588866066 := 0
def PySem.W.Fast.tw3468524477654493807 := 0
def PySem.W.Fast.tw12032993030830445791 := 0
def PySem.W.Fast.tw9675178034848447506 := 0
def PySem.W.Fast.tw2965156618181887735 := 0
def PySem.W.Fast.tw5544026923284176056 := 0
def PySem.W.Fast.tw17523807932142225572 := 0
def PySem.W.Fast.tw13375296469521123975 := 0
def PySem.W.Fast.tw16227157763354393739 := 0
def PySem.W.Fast.tw15773733488313250132 := 0
def PySem.W.Fast.tw353814906375099975 := 0
def PySem.W.Fast.tw937619966729436610 := 0
def PySem.W.Fast.tw1819449932710365622 := 0
def PySem.W.Fast.tw16898726380904019289 := 0
def PySem.W.Fast.tw13328615068260347540 := 0
def PySem.W.Fast.tw745536674551072843 := 0
def PySem.W.Fast.tw4655169587473393440 := 0
def PySem.W.Fast.tw18378052564549568671 := 0
def PySem.W.Fast.tw2662428300192886945 := 0
def PySem.W.Fast.tw14019320604766509627 := 0
def PySem.W.Fast.tw16418331680393590845 := 0
def PySem.W.Fast.tw14162273652778902472 := 0
def PySem.W.Fast.tw12906100743984707897 := 0
def PySem.W.Fast.tw17949680222841002956 := 0
def PySem.W.Fast.tw10007650069952247569 := 0
def PySem.W.Fast.tw15067397324338656213 := 0
def PySem.W.Fast.tw10994778987296565961 := 0
def PySem.W.Fast.tw7746903259810010579 := 0
def PySem.W.Fast.tw4420754695382242250 := 0
def PySem.W.Fast.tw15410475037638338865 := 0
def PySem.W.Fast.tw7780476973159591555 := 0
def PySem.W.Fast.tw14541999519692000904 := 0
def PySem.W.Fast.tw12904831630420731148 := 0
def PySem.W.Fast.tw4005894668059123304 := 0
def PySem.W.Fast.tw7098269019489958451 := 0
def PySem.W.Fast.tw17512651472550001251 := 0
def PySem.W.Fast.tw6171311626271404358 := 0
def PySem.W.Fast.tw12534630789192630160 := 0
def PySem.W.Fast.tw3329369852858830627 := 0
def PySem.W.Fast.tw6977369024589559446 := 0
def PySem.W.Fast.tw7821823496759737305 := 0
def PySem.W.Fast.tw9506991173253169509 := 0
def PySem.W.Fast.tw4849636495759615076 := 0
def PySem.W.Fast.tw13258604274281008868 := 0
def PySem.W.Fast.tw17488096930192402337 := 0
def PySem.W.Fast.tw12803590228950912154 := 0
def PySem.W.Fast.tw3163233039511477557 := 0
def PySem.W.Fast.tw892998575652630617 := 0
def PySem.W.Fast.tw8908055628884807890 := 0
def PySem.W.Fast.tw13189603483652884241 := 0
def PySem.W.Fast.tw3074087658097986178 := 0
def PySem.W.Fast.tw5980444173931175235 := 0
def PySem.W.Fast.tw17239554701949539303 := 0
def PySem.W.Fast.tw18123950994647729731 := 0
def PySem.W.Fast.tw9856853354283039301 := 0
def PySem.W.Fast.tw5053632599262170637 := 0
def PySem.W.Fast.tw13010356290210621700 := 0
def PySem.W.Fast.tw7349969296298805388 := 0
def PySem.W.Fast.tw2427547918602031940 := 0
def PySem.W.Fast.tw11116393340023707841 := 0
def PySem.W.Fast.tw10849583298018631550 := 0
def PySem.W.Fast.tw17966645367471502615 := 0
def PySem.W.Fast.tw4920947712331977114 := 0
def PySem.W.Fast.tw17164739735476191163 := 0
def PySem.W.Fast.tw6456488858374917037 := 0
def PySem.W.Fast.tw5207083763598794137 := 0
def PySem.W.Fast.tw7226237253026688936 := 0
def PySem.W.Fast.tw1706889437499029648 := 0
def PySem.W.Fast.tw9577854051136675425 := 0
def PySem.W.Fast.tw12717079726051969439 := 0
def PySem.W.Fast.tw16440212639054015545 := 0
def PySem.W.Fast.tw15582383324119315197 := 0
def PySem.W.Fast.tw10028836010752518560 := 0
def PySem.W.Fast.tw7731781115975468439 := 0
def PySem.W.Fast.tw647826581341617280 := 0
def PySem.W.Fast.tw8199048646050162862 := 0
def PySem.W.Fast.tw12312417004796500976 := 0
def PySem.W.Fast.tw14159815218076949283 := 0
def PySem.W.Fast.tw10093157373648372181 := 0
def PySem.W.Fast.tw4263419024977625853 := 0
def PySem.W.Fast.tw13439242732776201450 := 0
def PySem.W.Fast.tw7948278150153468362 := 0
def PySem.W.Fast.tw2172034726045147908 := 0
def PySem.W.Fast.tw7187486572540247166 := 0
def PySem.W.Fast.tw11955268965952316373 := 0
def PySem.W.Fast.tw4051204039084344748 := 0
def PySem.W.Fast.tw9279103395653921909 := 0
def PySem.W.Fast.tw8201526225898076196 := 0
def PySem.W.Fast.tw12902449481067847571 := 0
def PySem.W.Fast.tw1773472131504125455 := 0
def PySem.W.Fast.tw8769011508542975087 := 0
def PySem.W.Fast.tw16942452564506964680 := 0
def PySem.W.Fast.tw14100074311695695046 := 0
def PySem.W.Fast.tw15599632619235541885 := 0
def PySem.W.Fast.tw8020121980899168397 := 0
def PySem.W.Fast.tw5553485368246028654 := 0
def PySem.W.Fast.tw13929913649317775590 := 0
def PySem.W.Fast.tw4553681725589343318 := 0
def PySem.W.Fast.tw2546393967952197768 := 0
def PySem.W.Fast.tw1432090488561866127 := 0
def PySem.W.Fast.tw3461055888561935328 := 0
def PySem.W.Fast.tw1868344591585806620 := 0
def PySem.W.Fast.tw74643695022454982 := 0
def PySem.W.Fast.tw2694144718316499324 := 0
def PySem.W.Fast.tw700505121236031204 := 0
def PySem.W.Fast.tw15411243337338977346 := 0
def PySem.W.Fast.tw15379240099939887407 := 0
def PySem.W.Fast.tw428750851443024329 := 0
def PySem.W.Fast.tw6598230931045979267 := 0
def PySem.W.Fast.tw11766694279961898639 := 0
def PySem.W.Fast.tw14764792286249163480 := 0
def PySem.W.Fast.tw12980285307808544100 := 0
def PySem.W.Fast.tw6634102781911026863 := 0
def PySem.W.Fast.tw17484819643060098140 := 0
def PySem.W.Fast.tw11766730855267222768 := 0
def PySem.W.Fast.tw14105244460654604736 := 0
def PySem.W.Fast.tw1174416371567938063 := 0
def PySem.W.Fast.tw8118208889348764940 := 0
def PySem.W.Fast.tw6499629714397070493 := 0
def PySem.W.Fast.tw2164976849144002048 := 0
def PySem.W.Fast.tw17287626313540717670 := 0
def PySem.W.Fast.tw11511137521901073262 := 0
def PySem.W.Fast.tw3911636595698082586 := 0
def PySem.W.Fast.tw7817640473502224912 := 0
def PySem.W.Fast.tw7562397261271425878 := 0
def PySem.W.Fast.tw12949675923706837629 := 0
def PySem.W.Fast.tw8625379249852956438 := 0
def PySem.W.Fast.tw6118627166565777133 := 0
def PySem.W.Fast.tw14827532596031321647 := 0
def PySem.W.Fast.tw4637810275265553989 := 0
def PySem.W.Fast.tw16411213386994729289 := 0
def PySem.W.Fast.tw13331542730738194038 := 0
def PySem.W.Fast.tw3161520906537511722 := 0
def PySem.W.Fast.tw12638507968337113251 := 0
def PySem.W.Fast.tw13855178559654311273 := 0
def PySem.W.Fast.tw14121079386625392190 := 0
def PySem.W.Fast.tw17227324375657699401 := 0
def PySem.W.Fast.tw11117481559949152013 := 0
def PySem.W.Fast.tw5574685944170640355 := 0
def PySem.W.Fast.tw1774642661180704078 := 0
def PySem.W.Fast.tw6566053749642773594 := 0
def PySem.W.Fast.tw17222939662660274164 := 0
def PySem.W.Fast.tw14510692606185536763 := 0
def PySem.W.Fast.tw8606022247575402641 := 0
def PySem.W.Fast.tw13481401498446627830 := 0
def PySem.W.Fast.tw13001495322623193711 := 0
def PySem.W.Fast.tw9188898681564105701 := 0
def PySem.W.Fast.tw13157046544482914353 := 0
def PySem.W.Fast.tw18234615208457130632 := 0
def PySem.W.Fast.tw3658431895286485776 := 0
def PySem.W.Fast.tw7780298686905369118 := 0
def PySem.W.Fast.tw1535332351292400864 := 0
def PySem.W.Fast.tw7884750607711517685 := 0
def PySem.W.Fast.tw13034469006361307146 := 0
def PySem.W.Fast.tw5429800663873411107 := 0
def PySem.W.Fast.tw12485455480075595500 := 0
def PySem.W.Fast.tw12554947824783475860 := 0
def PySem.W.Fast.tw25871285357099986 := 0
def PySem.W.Fast.tw4589210044129138374 := 0
def PySem.W.Fast.tw4302626814077175159 := 0
def PySem.W.Fast.tw2302877618617112463 := 0
def PySem.W.Fast.tw7162353346275310223 := 0
def PySem.W.Fast.tw11843191984486193237 := 0
def PySem.W.Fast.tw5479782500513247825 := 0
def PySem.W.Fast.tw5547161940549454481 := 0
def PySem.W.Fast.tw244862800167257711 := 0
def PySem.W.Fast.tw13875091157082729019 := 0
def PySem.W.Fast.tw7575850401740299585 := 0
def PySem.W.Fast.tw8352281232332774842 := 0
def PySem.W.Fast.tw7662772231451826116 := 0
def PySem.W.Fast.tw8674385475238713414 := 0
def PySem.W.Fast.tw712959275142929518 := 0
def PySem.W.Fast.tw4580083724615640782 := 0
def PySem.W.Fast.tw16094827296084204969 := 0
def PySem.W.Fast.tw14218473150115137566 := 0
def PySem.W.Fast.tw7922937005248947689 := 0
def PySem.W.Fast.tw3396430289951958149 := 0
def PySem.W.Fast.tw479559975904451294 := 0
def PySem.W.Fast.tw16115635919680953544 := 0
def PySem.W.Fast.tw12287985442746914951 := 0
def PySem.W.Fast.tw5139916087191571452 := 0
def PySem.W.Fast.tw3658329543031882730 := 0
def PySem.W.Fast.tw10083059193064248099 := 0
def PySem.W.Fast.tw53801286038704909 := 0
def PySem.W.Fast.tw15870190152122769838 := 0
def PySem.W.Fast.tw15157910649187762724 := 0
def PySem.W.Fast.tw7311141667926007075 := 0
def PySem.W.Fast.tw15322997235014944109 := 0
def PySem.W.Fast.tw8354236984469585371 := 0
def PySem.W.Fast.tw15522481294095646522 := 0
def PySem.W.Fast.tw5294753241371403386 := 0
def PySem.W.Fast.tw2995651836190518847 := 0
def PySem.W.Fast.tw16329929133207321158 := 0
def PySem.W.Fast.tw6208785387785968413 := 0
def PySem.W.Fast.tw7031706164150237460 := 0
def PySem.W.Fast.tw8175498523208356713 := 0
def PySem.W.Fast.tw18066791383567291638 := 0
def PySem.W.Fast.tw911879851027405118 := 0
def PySem.W.Fast.tw1425970197434612899 := 0
def PySem.W.Fast.tw7744998796271571965 := 0
def PySem.W.Fast.tw5973684386528400062 := 0
def PySem.W.Fast.tw5353135635895593854 := 0
def PySem.W.Fast.tw10980878942319785769 := 0
def PySem.W.Fast.tw10844684138386389740 := 0
def PySem.W.Fast.tw4851714386973974581 := 0
def PySem.W.Fast.tw5311073475031277325 := 0
def PySem.W.Fast.tw6512844981510260279 := 0
def PySem.W.Fast.tw12015709108733464287 := 0
def PySem.W.Fast.tw15736279174168970294 := 0
def PySem.W.Fast.tw14584452054878417583 := 0
def PySem.W.Fast.tw6173751488897801660 := 0
def PySem.W.Fast.tw4452004807806626558 := 0
def PySem.W.Fast.tw4137712112928785171 := 0
def PySem.W.Fast.tw18064541799671038033 := 0
def PySem.W.Fast.tw12609439411907480494 := 0
def PySem.W.Fast.tw10331258287963998722 := 0
def PySem.W.Fast.tw12035914267793981916 := 0
def PySem.W.Fast.tw3365412482398772153 := 0
def PySem.W.Fast.tw4205296536087562239 := 0
def PySem.W.Fast.tw9408612503584010372 := 0
def PySem.W.Fast.tw2261061045712920647 := 0
def PySem.W.Fast.tw5585828945308895025 := 0
def PySem.W.Fast.tw12760333627561185542 := 0
def PySem.W.Fast.tw719223363529455558 := 0
def PySem.W.Fast.tw17639710179933792791 := 0
def PySem.W.Fast.tw13978170736645692110 := 0
def PySem.W.Fast.tw10298423413515356800 := 0
def PySem.W.Fast.tw18031272847557621891 := 0
def PySem.W.Fast.tw11408483558234126109 := 0
def PySem.W.Fast.tw4811836042086005152 := 0
def PySem.W.Fast.tw1514041806776358 := 0
def PySem.W.Fast.tw9593193875152126811 := 0
def PySem.W.Fast.tw17603663409189520037 := 0
def PySem.W.Fast.tw14126279414847751249 := 0
def PySem.W.Fast.tw12636961267385486178 := 0
def PySem.W.Fast.tw17987524765765231154 := 0
def PySem.W.Fast.tw1949441919887393759 := 0
def PySem.W.Fast.tw2200059479651820275 := 0
def PySem.W.Fast.tw15880318951777271131 := 0
def PySem.W.Fast.tw6342640710764403897 := 0
def PySem.W.Fast.tw15581413812683818148 := 0
def PySem.W.Fast.tw7137635091419467049 := 0
def PySem.W.Fast.tw17457912083084503922 := 0
def PySem.W.Fast.tw6510993348037301675 := 0
def PySem.W.Fast.tw15469326363346299872 := 0
def PySem.W.Fast.tw10038812870369834670 := 0
def PySem.W.Fast.tw8586626906960751779 := 0
def PySem.W.Fast.tw1074602557059646337 := 0
def PySem.W.Fast.tw15720576981627903849 := 0
def PySem.W.Fast.tw11185994877741696651 := 0
def PySem.W.Fast.tw12790484182076301150 := 0
def PySem.W.Fast.tw14126065655358227002 := 0
def PySem.W.Fast.tw7886692021845111528 := 0
def PySem.W.Fast.tw16440368968566917784 := 0
def PySem.W.Fast.tw12769321683468686173 := 0
def PySem.W.Fast.tw7576944512420439399 := 0
def PySem.W.Fast.tw11656471744612404729 := 0
def PySem.W.Fast.tw17152022930451326659 := 0
def PySem.W.Fast.tw6921712635863103194 := 0
def PySem.W.Fast.tw2753913559710062375 := 0
def PySem.W.Fast.tw2483178330139465807 := 0
def PySem.W.Fast.tw3761333606769669376 := 0
def PySem.W.Fast.tw17176776378559262628 := 0
def PySem.W.Fast.tw3467684444107228341 := 0
def PySem.W.Fast.tw14181246432487094872 := 0
def PySem.W.Fast.tw1288470402885425895 := 0
def PySem.W.Fast.tw1010613347654412529 := 0
def PySem.W.Fast.tw11032233531891878991 := 0
def PySem.W.Fast.tw8179415636808948839 := 0
def PySem.W.Fast.tw12539734371460166362 := 0
def PySem.W.Fast.tw11611850428960531734 := 0
def PySem.W.Fast.tw14975815915371869282 := 0
def PySem.W.Fast.tw15013656079170245647 := 0
def PySem.W.Fast.tw6369723344724115943 := 0
def PySem.W.Fast.tw9946093848719024087 := 0
def PySem.W.Fast.tw13371488975291689471 := 0
def PySem.W.Fast.tw5599850603349206088 := 0
def PySem.W.Fast.tw3093168340070226140 := 0
def PySem.W.Fast.tw13424270917865811023 := 0
def PySem.W.Fast.tw1751876350545664706 := 0
def PySem.W.Fast.tw17746018079610678605 := 0
def PySem.W.Fast.tw10271833009571432314 := 0
def PySem.W.Fast.tw17067576494443277283 := 0
def PySem.W.Fast.tw12715151357323888187 := 0
def PySem.W.Fast.tw11635439151611512008 := 0
def PySem.W.Fast.tw11560195971708710583 := 0
def PySem.W.Fast.tw15369649306476778325 := 0
def PySem.W.Fast.tw11135303902021892629 := 0
def PySem.W.Fast.tw1042751907986303830 := 0
def PySem.W.Fast.tw9714843724901139431 := 0
def PySem.W.Fast.tw17552169356601813238 := 0
def PySem.W.Fast.tw5812496298376624432 := 0
def PySem.W.Fast.tw3327229942771999982 := 0
def PySem.W.Fast.tw12120822004729367384 := 0
def PySem.W.Fast.tw11932342280100394973 := 0
def PySem.W.Fast.tw12123339024187530647 := 0
def PySem.W.Fast.tw8406598020119829154 := 0
def PySem.W.Fast.tw5390521735127235264 := 0
def PySem.W.Fast.tw10406185450754733924 := 0
def PySem.W.Fast.tw2059046910040290957 := 0
def PySem.W.Fast.tw3837140908668612022 := 0
def PySem.W.Fast.tw16011041365418922207 := 0
open PySem PySem.W PyProof.Rows
set_option maxRecDepth 100000 in
set_option maxHeartbeats 0 in
theorem PySem.Challenge.cw_formgrove_k68_straight_changers_holds : PySem.Challenge.rw_formgrove_k68_straight_changers.Holds := by
  w_on; o_law; k_head; (case hw => w_witness2)
  k_fill
  refine K68.walk (l := PySem.Challenge.rw_formgrove_k68_straight_changers) rfl rfl (fun w h Y => PySem.W.kIn_of Y) ?F
  case F =>
    intro w mg fa h KX G hmg
    refine' K68.all_mk KX G hmg ?xn_GroveError ?xn_NoGrove ?xn_BadChanger ?xn_NotStraight ?xn_NoChange ?xg1 ?xg2 ?xg3 ?xg4 ?xb1 ?xb2 ?xb3 ?xb4 ?xb5 ?d1_GroveError ?d2_GroveError ?d3_GroveError ?d1_NoGrove ?d2_NoGrove ?d3_NoGrove ?d1_BadChanger ?d2_BadChanger ?d3_BadChanger ?d1_NotStraight ?d2_NotStraight ?d3_NotStraight ?d1_NoChange ?d2_NoChange ?d3_NoChange ?xl_NotStraight ?xc_NotStraight ?xt_NotStraight ?xk_NotStraight ?xv_NotStraight ?xe_NotStraight ?o1_NotStraight_BadChanger ?o2_NotStraight_BadChanger ?o3_NotStraight_BadChanger ?o4_NotStraight_BadChanger ?o5_NotStraight_BadChanger ?o6_NotStraight_BadChanger ?o1_NotStraight_NoGrove ?o2_NotStraight_NoGrove ?o3_NotStraight_NoGrove ?o4_NotStraight_NoGrove ?o5_NotStraight_NoGrove ?o6_NotStraight_NoGrove ?o1_NotStraight_NoChange ?o2_NotStraight_NoChange ?o3_NotStraight_NoChange ?o4_NotStraight_NoChange ?o5_NotStraight_NoChange ?o6_NotStraight_NoChange ?xi_NotStraight ?f1_NotStraight_place ?f2_NotStraight_place ?f3_NotStraight_place ?f4_NotStraight_place ?f5_NotStraight_place ?m_NotStraight_GroveError ?m_NotStraight_NoGrove ?m_NotStraight_BadChanger ?m_NotStraight_NotStraight ?m_NotStraight_NoChange ?cn1 ?cp1 ?ch1 ?cq1 ?cs1 ?cm1 ?ck1 ?cx1_0 ?cx1_1 ?cx1_2 ?cn2 ?cp2 ?ch2 ?cq2 ?cs2 ?cm2 ?ck2 ?cx2_0 ?cx2_1 ?cx2_2 ?cx2_3 ?cx2_4 ?cn3 ?cp3 ?ch3 ?cq3 ?cs3 ?cm3 ?ck3 ?cx3_0 ?cx3_1 ?cx3_2 ?cx3_3 ?cx3_4 ?a1 ?l1 ?c1 ?k1 ?a2 ?l2 ?c2 ?k2 ?a3 ?l3 ?c3 ?k3 ?a4 ?l4 ?c4 ?k4 ?a5 ?l5 ?c5 ?k5 ?a6 ?l6 ?c6 ?k6 ?a7 ?l7 ?c7 ?k7 ?a8 ?l8 ?c8 ?k8 ?a9 ?l9 ?c9 ?k9 ?a10 ?l10 ?c10 ?k10 ?n10 ?a11 ?l11 ?c11 ?k11 ?a12 ?l12 ?c12 ?k12 ?n12 ?a13 ?l13 ?c13 ?k13 ?n13 ?a14 ?l14 ?c14 ?k14 ?a15 ?l15 ?c15 ?k15 ?a16 ?l16 ?c16 ?k16 ?a17 ?l17 ?c17 ?k17 ?a18 ?l18 ?c18 ?k18 ?z0 ?z1 ?z2 ?z3 ?z4 ?z5 ?z6 ?z7 ?z8 ?z9
    (case xn_GroveError => k_is)
    (case xn_NoGrove => k_is)
    (case xn_BadChanger => k_is)
    (case xn_NotStraight => k_is)
    (case xn_NoChange => k_is)
    (case xg1 => k_is)
    (case xg2 => k_is)
    (case xg3 => rfl)
    (case xg4 => k_is)
    (case xb1 => k_is)
    (case xb2 => k_is)
    (case xb3 => k_is)
    (case xb4 => k_is)
    (case xb5 => k_is)
    (case d1_GroveError => k_is)
    (case d2_GroveError => k_is)
    (case d3_GroveError => k_is)
    (case d1_NoGrove => k_is)
    (case d2_NoGrove => k_is)
    (case d3_NoGrove => k_is)
    (case d1_BadChanger => k_is)
    (case d2_BadChanger => k_is)
    (case d3_BadChanger => k_is)
    (case d1_NotStraight => k_is)
    (case d2_NotStraight => k_is)
    (case d3_NotStraight => k_is)
    (case d1_NoChange => k_is)
    (case d2_NoChange => k_is)
    (case d3_NoChange => k_is)
    (case xl_NotStraight => k_is)
    (case xc_NotStraight => k_is)
    (case xt_NotStraight => k_is)
    (case xk_NotStraight => k_is)
    (case xv_NotStraight => k_is)
    (case xe_NotStraight => decide)
    (case o1_NotStraight_BadChanger => k_is)
    (case o2_NotStraight_BadChanger => k_is)
    (case o3_NotStraight_BadChanger => k_is)
    (case o4_NotStraight_BadChanger => k_is)
    (case o5_NotStraight_BadChanger => k_is)
    (case o6_NotStraight_BadChanger => decide)
    (case o1_NotStraight_NoGrove => k_is)
    (case o2_NotStraight_NoGrove => k_is)
    (case o3_NotStraight_NoGrove => k_is)
    (case o4_NotStraight_NoGrove => k_is)
    (case o5_NotStraight_NoGrove => k_is)
    (case o6_NotStraight_NoGrove => decide)
    (case o1_NotStraight_NoChange => k_is)
    (case o2_NotStraight_NoChange => k_is)
    (case o3_NotStraight_NoChange => k_is)
    (case o4_NotStraight_NoChange => k_is)
    (case o5_NotStraight_NoChange => k_is)
    (case o6_NotStraight_NoChange => decide)
    (case xi_NotStraight => k_is)
    (case f1_NotStraight_place => k_is)
    (case f2_NotStraight_place => k_is)
    (case f3_NotStraight_place => k_is)
    (case f4_NotStraight_place => k_is)
    (case f5_NotStraight_place => k_is)
    (case m_NotStraight_GroveError => k_is)
    (case m_NotStraight_NoGrove => k_is)
    (case m_NotStraight_BadChanger => k_is)
    (case m_NotStraight_NotStraight => k_is)
    (case m_NotStraight_NoChange => k_is)
    (case cn1 => k_is)
    (case cp1 => k_is)
    (case ch1 => k_is)
    (case cq1 => k_is)
    (case cs1 => k_is)
    (case cm1 => k_is)
    (case ck1 => k_is)
    (case cx1_0 => k_is)
    (case cx1_1 => k_is)
    (case cx1_2 => k_is)
    (case cn2 => k_is)
    (case cp2 => k_is)
    (case ch2 => k_is)
    (case cq2 => k_is)
    (case cs2 => k_is)
    (case cm2 => k_is)
    (case ck2 => k_is)
    (case cx2_0 => k_is)
    (case cx2_1 => k_is)
    (case cx2_2 => k_is)
    (case cx2_3 => k_is)
    (case cx2_4 => k_is)
    (case cn3 => k_is)
    (case cp3 => k_is)
    (case ch3 => k_is)
    (case cq3 => k_is)
    (case cs3 => k_is)
    (case cm3 => k_is)
    (case ck3 => k_is)
    (case cx3_0 => k_is)
    (case cx3_1 => k_is)
    (case cx3_2 => k_is)
    (case cx3_3 => k_is)
    (case cx3_4 => k_is)
    (case a1 => k_is)
    (case l1 => k_is)
    (case c1 => k_is)
    (case k1 => k_is)
    (case a2 => k_is)
    (case l2 => k_is)
    (case c2 => k_is)
    (case k2 => k_is)
    (case a3 => k_is)
    (case l3 => k_is)
    (case c3 => k_is)
    (case k3 => k_is)
    (case a4 => k_is)
    (case l4 => k_is)
    (case c4 => k_is)
    (case k4 => k_is)
    (case a5 => k_is)
    (case l5 => k_is)
    (case c5 => k_is)
    (case k5 => k_is)
    (case a6 => k_is)
    (case l6 => k_is)
    (case c6 => k_is)
    (case k6 => k_is)
    (case a7 => k_is)
    (case l7 => k_is)
    (case c7 => k_is)
    (case k7 => k_is)
    (case a8 => k_is)
    (case l8 => k_is)
    (case c8 => k_is)
    (case k8 => k_is)
    (case a9 => k_is)
    (case l9 => k_is)
    (case c9 => k_is)
    (case k9 => k_is)
    (case a10 => k_is)
    (case l10 => k_is)
    (case c10 => k_is)
    (case k10 => k_is)
    (case n10 => k_is)
    (case a11 => k_is)
    (case l11 => k_is)
    (case c11 => k_is)
    (case k11 => k_is)
    (case a12 => k_is)
    (case l12 => k_is)
    (case c12 => k_is)
    (case k12 => k_is)
    (case n12 => k_is)
    (case a13 => k_is)
    (case l13 => k_is)
    (case c13 => k_is)
    (case k13 => k_is)
    (case n13 => k_is)
    (case a14 => k_is)
    (case l14 => k_is)
    (case c14 => k_is)
    (case k14 => k_is)
    (case a15 => k_is)
    (case l15 => k_is)
    (case c15 => k_is)
    (case k15 => k_is)
    (case a16 => k_is)
    (case l16 => k_is)
    (case c16 => k_is)
    (case k16 => k_is)
    (case a17 => k_is)
    (case l17 => k_is)
    (case c17 => k_is)
    (case k17 => k_is)
    (case a18 => k_is)
    (case l18 => k_is)
    (case c18 => k_is)
    (case k18 => k_is)
    (case z0 => k_is)
    (case z1 => k_is)
    (case z2 => k_is)
    (case z3 => k_is)
    (case z4 => k_is)
    (case z5 => k_is)
    (case z6 => k_is)
    (case z7 => k_is)
    (case z8 => k_is)
    (case z9 => k_is)
