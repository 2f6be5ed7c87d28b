import PyProof.Rows.All
import Wide.All
import OpenK.AllK
import Wide.FinOn
import Lean
import PyProof.EqAt
import PyProof.EqKinds
import PyProof.TupleCall
import PySem.Challenge.RW_formgrove_k19_trimmed
set_option Elab.async false
set_option linter.all false
set_option maxRecDepth 100000
namespace L2
open PySem PySem.Spec PyProof.Rows
abbrev Key:=Sum Int Str
def ZeK:Key -> Value -> Bool
 | .inl k,v=>Value.isInt k v
 | .inr x,v=>Value.isStrOf x v
def Zlh (w:World):Key -> Int
 | .inl k=>hashInt k
 | .inr x=>hashStr w x
theorem ZS:∀ {k:Key} {v:Value},ZeK k v = true -> (∃ i t,k = Sum.inl i /\ v = Value.int i t) \/ (∃ x t,k = Sum.inr x /\ v = Value.str x t)
 | .inl i,v,h=>by
  obtain ⟨t,e⟩:=Value.isInt_shape (k:=i) (v:=v) h
  exact .inl ⟨i,t,rfl,e⟩
 | .inr x,v,h=>by
  obtain ⟨t,e⟩:=Value.isStrOf_shape (x:=x) (v:=v) h
  exact .inr ⟨x,t,rfl,e⟩
theorem Zhr (i:Int) (t:Tok):ZeK (.inl i) (.int i t) = true:=by simp [ZeK,Value.isInt]
theorem ZgD (x:Str) (t:Tok):ZeK (.inr x) (.str x t) = true:=by simp [ZeK,Value.isStrOf]
theorem Zj4 (a b:Int):decide ((Sum.inl a:Key) = Sum.inl b) = (a == b):=by
 by_cases e:a = b
 ·subst e; simp
 ·have h : ¬ (Sum.inl a:Key) = Sum.inl b:=fun q=>e (Sum.inl.inj q)
  rw [decide_eq_false h]
  exact (beq_eq_false_iff_ne.mpr e).symm
theorem Zj8 (a b:Str):decide ((Sum.inr a:Key) = Sum.inr b) = decide (a = b):=by
 by_cases e:a = b
 ·subst e; simp
 ·have h : ¬ (Sum.inr a:Key) = Sum.inr b:=fun q=>e (Sum.inr.inj q)
  rw [decide_eq_false h,decide_eq_false e]
theorem ZjW (a:Int) (b:Str):decide ((Sum.inl a:Key) = Sum.inr b) = false:=decide_eq_false (fun q=>nomatch q)
theorem ZjT (a:Str) (b:Int):decide ((Sum.inr a:Key) = Sum.inl b) = false:=decide_eq_false (fun q=>nomatch q)
def Zy (prog:Program) (w:World):PySem.KeyKind prog w Key where
 is:=ZeK
 hash:=Zlh w
 inj:=fun v a b ha hb=>by
  rcases ZS ha with ⟨i,t,rfl,rfl⟩ | ⟨x,t,rfl,rfl⟩
  ·rcases ZS hb with ⟨j,u,rfl,e⟩ | ⟨y,u,rfl,e⟩
   ·injection e with e1 _; rw [e1]
   ·exact nomatch e
  ·rcases ZS hb with ⟨j,u,rfl,e⟩ | ⟨y,u,rfl,e⟩
   ·exact nomatch e
   ·injection e with e1 _; rw [e1]
 byValue:=fun k v h=>by
  rcases ZS h with ⟨i,t,rfl,rfl⟩ | ⟨x,t,rfl,rfl⟩ <;> rfl
 pyHash:=fun hv h=>by
  rcases ZS hv with ⟨i,t,rfl,rfl⟩ | ⟨x,t,rfl,rfl⟩
  ·exact wpAny_pyHash_int h
  ·exact wpAny_pyHash_str h
 eqBool:=fun hu hv h=>by
  rcases ZS hu with ⟨i,t,rfl,rfl⟩ | ⟨x,t,rfl,rfl⟩
  ·rcases ZS hv with ⟨j,u,rfl,rfl⟩ | ⟨y,u,rfl,rfl⟩
   ·rw [Zj4] at h; exact wpAny_eqBool_int h
   ·rw [ZjW] at h; exact SeqAt.EqAt.int_str i t y u _ _ _ _ h
  ·rcases ZS hv with ⟨j,u,rfl,rfl⟩ | ⟨y,u,rfl,rfl⟩
   ·rw [ZjT] at h; exact SeqAt.EqAt.str_int x t j u _ _ _ _ h
   ·rw [Zj8] at h; exact wpAny_eqBool_str h
 «strs» := fun k x t v h=>by
  rcases ZS h with ⟨i,u,rfl,e⟩ | ⟨y,u,rfl,e⟩
  ·exact nomatch e
  ·injection e with e1 _
   subst e1
   cases v <;> rfl
theorem ZeB (prog:Program) (w:World) (i:Int) (t:Tok):(Zy prog w).is (.inl i) (.int i t) = true:=Zhr i t
theorem ZeG (prog:Program) (w:World) (x:Str) (t:Tok):(Zy prog w).is (.inr x) (.str x t) = true:=ZgD x t
end L2
namespace L2
open PySem PySem.Spec PyProof.Rows
inductive V where
 | non | bl (b:Bool) | int (i:Int) | str (x:Str) | byt (b:Array UInt8) | flt (b:UInt64) | ref (a:Addr) | ty (n:String)
 deriving DecidableEq
def RelV:V -> Value -> Prop
 | .non,u=>u = Value.none
 | .bl b,u=>u = Value.bool b
 | .int i,u=>∃ t,u = Value.int i t
 | .str x,u=>∃ t,u = Value.str x t
 | .byt b,u=>∃ t,u = Value.bytes b t
 | .flt b,u=>∃ t,u = Value.float b t
 | .ref a,u=>u = Value.ref a
 | .ty n,u=>u = Value.type n
abbrev Vals:List V -> List Value -> Prop:=Paired RelV
theorem Vals.length {xs:List V} {us:List Value} (r:Vals xs us):xs.length = us.length:=Paired.length r
theorem Vals.get:∀ {xs:List V} {us:List Value} {i:Nat} {x:V},Vals xs us -> xs[i]? = some x -> ∃ u,us[i]? = some u /\ RelV x u
 | _,_,_,_,.nil,e=>by simp at e
 | _,_,0,_,.cons r _,e=>by simp at e; subst e; exact ⟨_,rfl,r⟩
 | _,_,i + 1,x,.cons _ t,e=>by
  obtain ⟨u,h1,h2⟩:=Vals.get (i:=i) (x:=x) t (by simpa using e)
  exact ⟨u,by simpa using h1,h2⟩
theorem Vals.set {x:V} {u:Value} (r:RelV x u):∀ {xs:List V} {us:List Value} (i:Nat),Vals xs us -> Vals (xs.set i x) (us.set i u)
 | _,_,_,.nil=>.nil
 | _,_,0,.cons _ t=>.cons r t
 | _,_,i + 1,.cons q t=>.cons q (Vals.set r i t)
theorem Vals.append:∀ {xs ys:List V} {us ws:List Value},Vals xs us -> Vals ys ws -> Vals (xs ++ ys) (us ++ ws)
 | _,_,_,_,.nil,s=>s
 | _,_,_,_,.cons r t,s=>.cons r (Vals.append t s)
def ZgA:Option V -> Option Value -> Prop
 | some v,some u=>RelV v u
 | none,none=>True
 | _,_=>False
def KV {κ : Type}:List (κ × V) -> List (κ × Value) -> Prop:=Paired fun (p : κ × V) (q : κ × Value)=>p.1 = q.1 /\ RelV p.2 q.2
def kV:Key -> V
 | .inl i=>.int i
 | .inr x=>.str x
inductive HO where
 | lst (xs:List V)
 | tup (xs:List V)
 | dK (kvs:List (Key × V)) | dT (kvs:List (List Key × V))
 | set (S:Int -> Bool) (n:Nat)
 | ins (C dx:Addr) (fs:List (Str × V))
 | own (x:Addr)
 | xd (fs:List (Str × V))
 | met (f x:Addr)
 | rng (lo hi:Int)
 | frz (o:Obj) (u:HO)
 | tbl (ps:Array Value)
 | ext (φ : Heap -> Prop)
abbrev Hp:=Addr -> Option HO
def upd (H:Hp) (a:Addr) (o:HO):Hp:=fun b=>if b = a then some o else H b
theorem Zb {H:Hp} {a:Addr} {o:HO}:upd H a o a = some o:=by unfold upd; rw [if_pos rfl]
theorem Zk {H:Hp} {a b:Addr} {o:HO} (h:b ≠ a):upd H a o b = H b:=by unfold upd; rw [if_neg h]
theorem Zks {H:Hp} {a b:Addr} {o u:HO} (h:H a = some o) (h':H b = some u) (d:o ≠ u):a ≠ b:=by
 intro e; subst e; rw [h] at h'; exact d (Option.some.inj h')
theorem Zo {H:Hp} {a b:Addr} {o:HO} (h:H a = some o) (h':H b = none):a ≠ b:=by
 intro e; subst e; rw [h] at h'; cases h'
section
variable (P:Program) (w:World)
def Zal (H:Hp) (h:Heap) (a:Addr):HO -> Prop
 | .lst xs=>xs.length <= sizeLine /\ ∃ (its:List Value) (n:Nat),Vals xs its /\ h.get? a = some { cls:=.type "list",data:=.seq its.toArray n }
 | .tup xs=>xs.length <= sizeLine /\ ∃ its:List Value,Vals xs its /\ IsTup h a its.toArray
 | .dK kvs=>kvs.length <= sizeLine /\ (a == sysModules) = false /\ ∃ vs,KV kvs vs /\ h.DictOf (Zy P w) a vs
 | .dT kvs=>kvs.length <= sizeLine /\ (a == sysModules) = false /\ ∃ xs:List (List Key × Addr × Value),
   Paired (fun (p:List Key × V) (q:List Key × Addr × Value)=>p.1 = q.1 /\ H q.2.1 = some (.tup (p.1.map kV)) /\ RelV p.2 q.2.2) kvs xs /\
   ∃ o es ep,h.get? a = some o /\ o.ExactDict /\ o.data = .dict es ep /\ es.toList = xs.map (entryOfKey (tupleKind (Zy P w))) /\ (xs.map (·.1)).Nodup
 | .set S n=>h.SetOf (intKind P w) a S n
 | .ins C dx fs=>H dx = some (.own a) /\ fs.length <= 1000 /\ dx ≠ a /\ h.get? a = some (PySem.W.instObj C dx) /\
   ∃ mA,h.Ns1 dx mA /\ (∀ f,ZgA (fs.lookup f) (mA f)) /\ PySem.Within mA (fs.map (·.1))
 | .own _=>∃ o,h.get? a = some o
 | .xd fs=>∃ mA,h.Ns1 a mA /\ ∀ f,ZgA (fs.lookup f) (mA f)
 | .rng lo hi=>∃ t u v,h.get? a = some { cls:=.type "range",data:=.fields #[.int lo t,.int hi u,.int 1 v] }
 | .frz o u=>h.get? a = some o /\ Zal H h a u
 | .tbl ps=>h.get? a = some { cls:=.none,data:=.fields ps }
 | .met f x=>h.get? a = some (PySem.W.methodObj (.ref f) (.ref x))
 | .ext φ=>φ h /\ (∃ o,h.get? a = some o) /\ ∀ h1 h2:Heap,φ h1 -> (∀ o,h1.get? a = some o -> h2.get? a = some o) -> φ h2
def HOk (H:Hp) (h:Heap):Prop := ∀ a o,H a = some o -> Zal P w H h a o
end
section
variable {P:Program} {w:World} {H H':Hp} {h h':Heap} {a:Addr} {o:HO}
theorem Zal.lt (x:Zal P w H h a o):a < h.objs.size:=by
 cases o with
 | lst xs=>obtain ⟨_,_,_,_,e⟩:=x; exact Heap.lt_size e
 | tup xs=>obtain ⟨_,_,_,p⟩:=x; exact p.lt
 | dK kvs=>obtain ⟨_,_,_,_,o,_,_,e,_⟩:=x; exact Heap.lt_size e
 | dT kvs=>obtain ⟨_,_,_,_,o,_,_,e,_⟩:=x; exact Heap.lt_size e
 | set S n=>obtain ⟨o,_,_,_,e,_⟩:=x; exact Heap.lt_size e
 | ins C dx fs=>obtain ⟨_,_,_,e,_⟩:=x; exact Heap.lt_size e
 | own y=>obtain ⟨_,e⟩:=x; exact Heap.lt_size e
 | xd fs=>obtain ⟨_,⟨_,_,_,e,_⟩,_⟩:=x; exact Heap.lt_size e
 | rng lo hi=>obtain ⟨_,_,_,e⟩:=x; exact Heap.lt_size e
 | frz ob u=>obtain ⟨e,_⟩:=x; exact Heap.lt_size e
 | tbl ps=>exact Heap.lt_size (show h.get? a = some _ from x)
 | met f y=>exact Heap.lt_size (show h.get? a = some _ from x)
 | ext φ=>obtain ⟨_,⟨_,e⟩,_⟩:=x; exact Heap.lt_size e
theorem Paired.mapP {α β : Type} {F G : α -> β -> Prop}:∀ {l₁ : List α} {l₂ : List β},Paired F l₁ l₂ -> (∀ a b,F a b -> G a b) -> Paired G l₁ l₂
 | _,_,.nil,_=>.nil
 | _,_,.cons r t,f=>.cons (f _ _ r) (Paired.mapP t f)
theorem Zal.stay (x:Zal P w H h a o) (k:∀ b u,(b = a \/ H b = some (.own a)) -> h.get? b = some u -> h'.get? b = some u)
  (ho:∀ b,H b = some (.own a) -> H' b = some (.own a)) (ht:∀ b xs,H b = some (.tup xs) -> H' b = some (.tup xs)):Zal P w H' h' a o:=by
 induction o with
 | lst xs=>obtain ⟨z,its,n,r,e⟩:=x; exact ⟨z,its,n,r,k _ _ (.inl rfl) e⟩
 | tup xs=>obtain ⟨z,its,r,ob,e,c⟩:=x; exact ⟨z,its,r,ob,k _ _ (.inl rfl) e,c⟩
 | dK kvs=>obtain ⟨z,y,vs,r,ob,es,ep,e,c⟩:=x; exact ⟨z,y,vs,r,ob,es,ep,k _ _ (.inl rfl) e,c⟩
 | dT kvs =>
  obtain ⟨z,y,xs,r,ob,es,ep,e,c⟩:=x
  exact ⟨z,y,xs,Paired.mapP r fun p q z=>⟨z.1,ht _ _ z.2.1,z.2.2⟩,ob,es,ep,k _ _ (.inl rfl) e,c⟩
 | set S n=>obtain ⟨ob,es,ep,t,e,c⟩:=x; exact ⟨ob,es,ep,t,k _ _ (.inl rfl) e,c⟩
 | ins C dx fs =>
  obtain ⟨d,z,ne,e,mA,⟨od,es,ep,e2,c⟩,r⟩:=x
  exact ⟨ho _ d,z,ne,k _ _ (.inl rfl) e,mA,⟨od,es,ep,k _ _ (.inr d) e2,c⟩,r⟩
 | own y=>obtain ⟨ob,e⟩:=x; exact ⟨ob,k _ _ (.inl rfl) e⟩
 | xd fs=>obtain ⟨mA,⟨od,es,ep,e,c⟩,r⟩:=x; exact ⟨mA,⟨od,es,ep,k _ _ (.inl rfl) e,c⟩,r⟩
 | rng lo hi=>obtain ⟨t,u,v,e⟩:=x; exact ⟨t,u,v,k _ _ (.inl rfl) e⟩
 | frz ob u ih=>obtain ⟨e,q⟩:=x; exact ⟨k _ _ (.inl rfl) e,ih q⟩
 | tbl ps =>
  have e:h.get? a = some { cls:=.none,data:=.fields ps }:=x
  show h'.get? a = some { cls:=.none,data:=.fields ps }
  exact k a _ (.inl rfl) e
 | met f y =>
  have e:h.get? a = some (PySem.W.methodObj (.ref f) (.ref y)):=x
  show h'.get? a = some (PySem.W.methodObj (.ref f) (.ref y))
  exact k a _ (.inl rfl) e
 | ext φ=>obtain ⟨p,⟨o,e⟩,st⟩:=x; exact ⟨st _ _ p fun o q=>k _ _ (.inl rfl) q,⟨o,k _ _ (.inl rfl) e⟩,st⟩
theorem HOk.lt (x:HOk P w H h) (e:H a = some o):a < h.objs.size:=(x a o e).lt
theorem HOk.fresh (x:HOk P w H h) (e:h.objs.size <= a):H a = none:=by
 cases q:H a with
 | none=>rfl
 | some u=>exact absurd (Nat.lt_of_lt_of_le (x.lt q) e) (Nat.lt_irrefl _)
theorem HOk.kept (x:HOk P w H h) (k:∀ b u,h.get? b = some u -> h'.get? b = some u):HOk P w H h':=fun a o e =>
 (x a o e).stay (fun b u _ q=>k b u q) (fun _ q=>q) fun _ _ q=>q
theorem HOk.laid (x:HOk P w H h) (k:∀ b u,h.get? b = some u -> h'.get? b = some u) (hp:h.objs.size <= a) (new:Zal P w (upd H a o) h' a o):HOk P w (upd H a o) h':=fun b u e=>by
 have hn:=x.fresh hp
 by_cases hb:b = a
 ·subst hb; rw [Zb] at e; cases e; exact new
 ·rw [Zk hb] at e
  exact (x b u e).stay (fun c v _ q=>k c v q) (fun c q=>by rw [Zk (Zo q hn)]; exact q) fun c xs q=>by rw [Zk (Zo q hn)]; exact q
end
def Rd (H:Hp) (a:Addr) (u:HO):Prop:=H a = some u \/ ∃ o,H a = some (.frz o u)
theorem Rd.ok {P:Program} {w:World} {H:Hp} {h:Heap} {a:Addr} {u:HO} (r:Rd H a u) (x:HOk P w H h):Zal P w H h a u:=by
 rcases r with r | ⟨o,r⟩
 ·exact x a u r
 ·obtain ⟨_,q⟩:=x a _ r
  exact q
def Mut:Option HO -> Prop
 | some (.lst _)=>True
 | some (.dK _)=>True
 | some (.dT _)=>True
 | some (.set _ _)=>True
 | some (.ins _ _ _)=>True
 | some (.ext _)=>True
 | _=>False
section
variable {P:Program} {w:World} {H:Hp} {h h':Heap} {x e:Addr} {o':HO}
theorem HOk.write (ok:HOk P w H h) (mu:Mut (H x)) (he:e = x \/ H e = some (.own x)) (k:∀ b u,b ≠ e -> h.get? b = some u -> h'.get? b = some u) (heo:∃ u,h'.get? e = some u)
  (new:Zal P w (upd H x o') h' x o'):HOk P w (upd H x o') h':=fun b u q=>by
 have nown:∀ c y,H c = some (.own y) -> c ≠ x:=fun c y r z=>by subst z; rw [r] at mu; exact mu
 have ntup:∀ c xs,H c = some (.tup xs) -> c ≠ x:=fun c xs r z=>by subst z; rw [r] at mu; exact mu
 by_cases hb:b = x
 ·subst hb; rw [Zb] at q; cases q; exact new
 ·rw [Zk hb] at q
  by_cases hbe:b = e
  ·have q':H b = some (.own x):=by
    rcases he with z | z
    ·exact absurd (hbe.trans z) hb
    ·rw [hbe]; exact z
   rw [q] at q'; cases q'
   obtain ⟨v,hv⟩:=heo
   exact ⟨v,by rw [hbe]; exact hv⟩
  ·refine (ok b u q).stay (fun c v hc r=>k c v ?_ r) (fun c r=>by rw [Zk (nown c b r)]; exact r) fun c xs r=>by rw [Zk (ntup c xs r)]; exact r
   rcases hc with rfl | hc
   ·exact hbe
   ·rintro rfl
    rcases he with z | z
    ·exact nown c b hc z
    ·rw [hc] at z; cases z; exact hb rfl
end
structure Un (fs ex:List Addr) (H H':Hp) (h h':Heap):Prop where
 keep:∀ b o,h.get? b = some o -> H b = none -> b ∉ fs -> b ∉ ex -> h'.get? b = some o
 slot:∀ b o,h.get? b = some o -> H b = none -> b ∈ fs -> b ∉ ex -> ∃ sl,h'.get? b = some { o with slots:=sl }
 free:∀ b o,h.get? b = some o -> H b = none -> b ∉ ex -> H' b = none
 there:∀ b o,h.get? b = some o -> b ∉ ex -> ∃ o',h'.get? b = some o'
 tups:∀ b xs,H b = some (.tup xs) -> H' b = some (.tup xs)
 frzs:∀ b o u,H b = some (.frz o u) -> H' b = some (.frz o u)
 tbls:∀ b ps,H b = some (.tbl ps) -> ∃ more,H' b = some (.tbl (ps ++ more))
section
variable {fs fs' ex ex':List Addr} {H H1 H2:Hp} {h h1 h2 h':Heap} {a x e:Addr} {o:HO}
theorem Un.any (u:Un fs ex H H1 h h1) {b:Addr} {ob:Obj} (q:h.get? b = some ob) (n:H b = none) (hx:b ∉ ex):∃ sl,h1.get? b = some { ob with slots:=sl }:=by
 by_cases hb:b ∈ fs
 ·exact u.slot b ob q n hb hx
 ·exact ⟨ob.slots,u.keep b ob q n hb hx⟩
theorem Un.kept (k:∀ b u,h.get? b = some u -> h'.get? b = some u):Un fs ex H H h h' :=
 ⟨fun b ob q _ _ _=>k b ob q,fun b ob q _ _ _=>⟨ob.slots,k b ob q⟩,fun _ _ _ n _=>n,fun b ob q _=>⟨ob,k b ob q⟩,fun _ _ q=>q,fun _ _ _ q=>q,fun _ ps q=>⟨#[],by rw [q]; simp⟩⟩
theorem Un.refl:Un fs ex H H h h:=Un.kept fun _ _ q=>q
theorem Un.laid (k:∀ b u,h.get? b = some u -> h'.get? b = some u) (hp:h.objs.size <= a) (hn:H a = none):Un fs ex H (upd H a o) h h' where
 keep:=fun b u q _ _ _=>k b u q
 slot:=fun b u q _ _ _=>⟨u.slots,k b u q⟩
 free:=fun b u q n _=>by rw [Zk (Nat.ne_of_lt (Nat.lt_of_lt_of_le (Heap.lt_size q) hp))]; exact n
 there:=fun b u q _=>⟨u,k b u q⟩
 tups:=fun b xs q=>by rw [Zk (Zo q hn)]; exact q
 frzs:=fun b u xs q=>by rw [Zk (Zo q hn)]; exact q
 tbls:=fun b ps q=>⟨#[],by rw [Zk (Zo q hn),q]; simp⟩
theorem Un.write (mu:Mut (H x)) (he:e = x \/ H e = some (.own x)) (k:∀ b u,b ≠ e -> h.get? b = some u -> h'.get? b = some u) (heo:∃ u,h'.get? e = some u):Un fs ex H (upd H x o) h h':=by
 have hx:∀ b,H b = none -> b ≠ x:=fun b n z=>by subst z; rw [n] at mu; exact mu
 have hb:∀ b,H b = none -> b ≠ e:=fun b n z=>by
  subst z
  rcases he with r | r
  ·exact hx b n r
  ·rw [n] at r; cases r
 have hm:∀ b u,H b = some u -> ¬ Mut (some u) -> b ≠ x:=fun b u q nm z=>by subst z; rw [q] at mu; exact nm mu
 refine ⟨fun b u q n _ _=>k b u (hb b n) q,fun b u q n _ _=>⟨u.slots,k b u (hb b n) q⟩,fun b u q n _=>by rw [Zk (hx b n)]; exact n,fun b u q _=>?_,
  fun b xs q=>by rw [Zk (hm b _ q fun z=>z)]; exact q,fun b u xs q=>by rw [Zk (hm b _ q fun z=>z)]; exact q,fun b ps q=>⟨#[],by rw [Zk (hm b _ q fun z=>z),q]; simp⟩⟩
 by_cases hbe:b = e
 ·subst hbe; exact heo
 ·exact ⟨u,k b u hbe q⟩
end
def trk (h:Heap) (H:Hp):List Addr:=(List.range h.objs.size).filter fun a=>(H a).isSome
def Zid (h:Heap) (H:Hp):Heap:=PySem.W.hideAll h (trk h H)
theorem ZhM (h:Heap) (H:Hp):(Zid h H).objs.size = h.objs.size:=PySem.W.hideAll_size _ _
theorem Zim {h:Heap} {H:Hp} {b:Addr} {o:Obj} (e:h.get? b = some o) (n:H b = none):(Zid h H).get? b = some o :=
 PySem.W.hideAll_get _ e fun hm=>by
  have q:(H b).isSome = true:=(List.mem_filter.mp hm).2
  rw [n] at q; simp at q
theorem Zjy {h:Heap} {H:Hp} {b:Addr} {o:Obj} (e:(Zid h H).get? b = some o):h.get? b = some o /\ H b = none:=by
 have e':h.get? b = some o:=PySem.W.of_hideAll (trk h H) e
 refine ⟨e',?_⟩
 cases q:H b with
 | none=>rfl
 | some x =>
  have hm:b ∈ trk h H:=List.mem_filter.mpr ⟨List.mem_range.mpr (Heap.lt_size e'),by simp [q]⟩
  have z:(Zid h H).get? b = none:=PySem.W.hideAll_none (trk h H) hm
  rw [z] at e; cases e
end L2
namespace L2
open PySem PySem.Spec PyProof.Rows
structure Mod (K:PySem.W.Frag) (mg:Str -> Option Value) (base:Heap):Prop where
 kin:K.In base
 glob:base.Ns mainGlobals mg
 blt:∃ mb,base.Ns builtinsNs mb /\ ∀ x:Str,x ≠ "__name__" -> mb x = bootBuiltins x
 nolimit:base.NoLimit
/-- the context: a def's body (or a comprehension's block) running. base: fixed through the whole law; s₀,H₀: the entry; outer: the frames whose slots others may change (a def's callers); stack: all frames that run;
   ex: iterators that were made ahead of the entry and are walked here (a comprehension's); fn: the names whose cells were made at the entry (a def: all; a comprehension's block: its own); calm: not within an except suite; pn: pins that every state bears; xe: what is wanted of an exception that leaves the code -/
structure Cx where
 prog:Program
 w:World
 K:PySem.W.Frag
 mg:Str -> Option Value
 base:Heap
 A:Around
 N:List Str
 s₀ : Shared
 H₀ : Hp
 env:Env
 outer:List Env
 stack:List Env
 ex:List Addr
 fn:Str -> Bool
 calm:Bool
 pn:List (Addr × Obj)
 xe:Value -> Shared -> Prop
def frs (l:List Env):List Addr:=l.filterMap (·.frame)
abbrev Cx.fs (X:Cx):List Addr:=frs X.outer
def Vis (sc:Scope) (x:Str):Prop:=sc.names.lookup x = some .local \/ sc.names.lookup x = some .cell \/ sc.names.lookup x = some .free
def Loc (sc:Scope) (x:Str):Prop:=sc.names.lookup x = some .local \/ sc.names.lookup x = some .cell
def Look (env:Env) (h:Heap) (m:Str -> Option Value) (x:Str) (u:Value):Prop :=
 (env.kindOf x = some .local /\ m x = some u) \/ ((env.kindOf x = some .cell \/ env.kindOf x = some .free) /\ ∃ c,env.cells.lookup x = some c /\ h.IsCell c (some u))
structure Cx.Ok (X:Cx):Prop where
 mod:Mod X.K X.mg X.base
 kind:X.env.scope.kind = .function
 glob:X.env.globals = mainGlobals
 blt:X.env.builtins = builtinsNs
 above:X.s₀.heap.objs.size <= X.env.locals
 inj:∀ x y c,X.env.cells.lookup x = some c -> X.env.cells.lookup y = some c -> x = y
 has:∀ x,(X.env.kindOf x = some .cell \/ X.env.kindOf x = some .free) -> ∃ c,X.env.cells.lookup x = some c
 cab:∀ x c,X.fn x = true -> X.env.cells.lookup x = some c -> X.s₀.heap.objs.size <= c
 hd:X.calm = true -> X.A.handled = none
 frames:X.A.frames = some X.stack
 stk:X.stack = X.outer \/ (X.stack = X.env :: X.outer /\ X.env.frame = some X.env.locals)
 exf:∀ b ∈ X.ex,b ≠ X.env.locals /\ ∀ x c,X.env.cells.lookup x = some c -> c ≠ b
 bs:∀ b o,X.base.get? b = some o -> X.s₀.heap.get? b = some o /\ X.H₀ b = none
 bsz:X.base.objs.size <= X.s₀.heap.objs.size
 noex:∀ b o,X.base.get? b = some o -> b ∉ X.ex
 exfs:∀ b ∈ X.ex,b ∉ X.fs
 funs:X.s₀.heap.FunFrames X.base X.outer
 frf:∀ b ∈ X.fs,X.H₀ b = none
structure Inv (X:Cx) (pins:List (Addr × Obj)) (σ : List (Option V)) (H:Hp) (s:Shared):Prop where
 ok:X.Ok
 os:s.os = X.s₀.os
 bare:AllBare s.gens
 base:Un X.fs X.ex X.H₀ H X.s₀.heap s.heap
 loc:∃ m,s.heap.Ns X.env.locals m /\ ∀ (i:Nat) (x:Str) (v:V),X.N[i]? = some x -> σ[i]? = some (some v) -> Vis X.env.scope x -> ∃ u,RelV v u /\ Look X.env s.heap m x u
 cell:∀ x c,X.env.cells.lookup x = some c -> ∃ v,s.heap.IsCell c v
 free:H X.env.locals = none
 freeC:∀ x c,X.env.cells.lookup x = some c -> H c = none
 pin:∀ p ∈ X.pn ++ pins,s.heap.get? p.1 = some p.2 /\ H p.1 = none /\ p.1 ≠ X.env.locals /\ p.1 ∉ X.fs /\ ∀ v,p.2.data ≠ .cell v
 hok:HOk X.prog X.w H s.heap
 len : σ.length = X.N.length
section
variable {X:Cx} {pins:List (Addr × Obj)} {σ : List (Option V)} {H H':Hp} {s:Shared} {h':Heap}
theorem Cx.Ok.nofr (ok:X.Ok) {b:Addr} {o:Obj} (e:X.base.get? b = some o):b ∉ X.fs:=fun hb=>by
 have:=(ok.funs.mem hb).1
 rw [e] at this; cases this
theorem Inv.bs (I:Inv X pins σ H s):∀ b o,X.base.get? b = some o -> s.heap.get? b = some o /\ H b = none:=fun b o e =>
 ⟨I.base.keep b o (I.ok.bs b o e).1 (I.ok.bs b o e).2 (I.ok.nofr e) (I.ok.noex b o e),I.base.free b o (I.ok.bs b o e).1 (I.ok.bs b o e).2 (I.ok.noex b o e)⟩
theorem Inv.bk (I:Inv X pins σ H s):∀ b o,X.base.get? b = some o -> s.heap.get? b = some o:=fun b o e=>(I.bs b o e).1
theorem Inv.mod (I:Inv X pins σ H s):Mod X.K X.mg X.base:=I.ok.mod
theorem Inv.kIn (I:Inv X pins σ H s):X.K.In s.heap:=I.ok.mod.kin.keeps I.bk
theorem Inv.lt (I:Inv X pins σ H s):X.env.locals < s.heap.objs.size:=let ⟨_,hn,_⟩:=I.loc; hn.lt
theorem Inv.sz (I:Inv X pins σ H s):X.s₀.heap.objs.size <= s.heap.objs.size:=Nat.le_trans I.ok.above (Nat.le_of_lt I.lt)
theorem Inv.nofs (I:Inv X pins σ H s) {a:Addr} (h:s.heap.objs.size <= a):a ∉ X.fs:=fun hb=>by
 obtain ⟨_,o,ho,_⟩:=I.ok.funs.mem hb
 exact absurd (Nat.lt_of_lt_of_le (Heap.lt_size ho) (Nat.le_trans I.sz h)) (Nat.lt_irrefl _)
theorem Inv.cne (I:Inv X pins σ H s):∀ x c,X.env.cells.lookup x = some c -> c ≠ X.env.locals:=fun x c e z=>by
 obtain ⟨v,o,ho,hd⟩:=I.cell x c e
 obtain ⟨m,⟨o',es,ep,ho',hd',_⟩,_⟩:=I.loc
 rw [z,ho'] at ho; cases ho; rw [hd'] at hd; cases hd
theorem Inv.funs (I:Inv X pins σ H s):s.heap.FunFrames X.base X.outer:=by
 have all:∀ (l:List Env),(∀ b ∈ frs l,b ∈ X.fs) -> X.s₀.heap.FunFrames X.base l -> s.heap.FunFrames X.base l:=by
  intro l
  induction l with
  | nil=>intro _ _; trivial
  | cons env r ih =>
   intro hs hl
   obtain ⟨hk,⟨L,o,hf,hn,ho,hd⟩,hr⟩:=hl
   have hL:L ∈ X.fs:=hs L (by unfold frs; rw [List.filterMap_cons,hf]; exact List.mem_cons_self)
   obtain ⟨sl,e⟩:=I.base.slot L o ho (I.ok.frf L hL) hL fun z=>I.ok.exfs L z hL
   exact ⟨hk,⟨L,_,hf,hn,e,hd⟩,ih (fun b hb=>hs b (by unfold frs; rw [List.filterMap_cons,hf]; exact List.mem_cons_of_mem _ hb)) hr⟩
 exact all X.outer (fun _ hb=>hb) I.ok.funs
theorem Inv.stack (I:Inv X pins σ H s):s.heap.FunFrames X.base X.stack:=by
 rcases I.ok.stk with e | ⟨e,hf⟩
 ·rw [e]; exact I.funs
 ·rw [e]
  obtain ⟨m,hn,_⟩:=I.loc
  refine .cons (by rw [I.ok.kind]; decide) hf hn ?_ I.funs
  exact Heap.get?_none_of_le (Nat.le_trans I.ok.bsz I.ok.above)
theorem Inv.stkSub (I:Inv X pins σ H s):∀ b ∈ frs X.stack,b ∈ X.env.locals :: X.fs:=fun b hb=>by
 rcases I.ok.stk with e | ⟨e,hf⟩
 ·rw [e] at hb; exact List.mem_cons_of_mem _ hb
 ·rw [e] at hb
  unfold frs at hb
  rw [List.filterMap_cons,hf] at hb
  exact hb
theorem Inv.stkFree (I:Inv X pins σ H s):∀ b ∈ frs X.stack,H b = none:=fun b hb=>by
 rcases List.mem_cons.mp (I.stkSub b hb) with e | hb
 ·rw [e]; exact I.free
 ·obtain ⟨_,o,ho,_⟩:=I.ok.funs.mem hb
  exact I.base.free b o ho (I.ok.frf b hb) fun z=>I.ok.exfs b z hb
theorem Inv.step {g':Array GenState} {t':Nat} {d':Drawn} {ch:List Addr} (I:Inv X pins σ H s)
  (hch:∀ b ∈ ch,(b ∈ X.ex \/ X.s₀.heap.objs.size <= b) /\ b ≠ X.env.locals /\ (∀ x c,X.env.cells.lookup x = some c -> c ≠ b) /\ ∀ p ∈ X.pn ++ pins,p.1 ≠ b)
  (keep:∀ b o,b ≠ X.env.locals -> b ∉ X.fs -> b ∉ ch -> s.heap.get? b = some o -> H b = none -> h'.get? b = some o)
  (slot:∀ b o,b ≠ X.env.locals -> b ∈ X.fs -> b ∉ ch -> s.heap.get? b = some o -> H b = none -> ∃ sl,h'.get? b = some { o with slots:=sl }) (free:∀ b o,b ∉ ch -> s.heap.get? b = some o -> H b = none -> H' b = none)
  (there:∀ b o,b ∉ ch -> s.heap.get? b = some o -> ∃ o',h'.get? b = some o')
  (tups:∀ b xs,H b = some (.tup xs) -> H' b = some (.tup xs)) (frzs:∀ b o u,H b = some (.frz o u) -> H' b = some (.frz o u)) (tbls:∀ b ps,H b = some (.tbl ps) -> ∃ more,H' b = some (.tbl (ps ++ more)))
  (ns:∀ m,s.heap.Ns X.env.locals m -> h'.Ns X.env.locals m) (hok:HOk X.prog X.w H' h') (hg:AllBare g') :
  Inv X pins σ H' { s with heap:=h',gens:=g',drawn:=d',toks:=t' }:=by
 have neL:∀ b o,X.s₀.heap.get? b = some o -> b ≠ X.env.locals:=fun b o e=>Nat.ne_of_lt (Nat.lt_of_lt_of_le (Heap.lt_size e) I.ok.above)
 have neC:∀ b o,X.s₀.heap.get? b = some o -> b ∉ X.ex -> b ∉ ch:=fun b o e hx hb=>by
  rcases (hch b hb).1 with z | z
  ·exact hx z
  ·exact absurd (Nat.lt_of_lt_of_le (Heap.lt_size e) z) (Nat.lt_irrefl _)
 have cellK:∀ x c,X.env.cells.lookup x = some c -> ∀ v,s.heap.IsCell c v -> h'.IsCell c v:=fun x c e v ⟨o,ho,hd⟩=>by
  have nch:c ∉ ch:=fun z=>(hch c z).2.2.1 x c e rfl
  by_cases hc:c ∈ X.fs
  ·obtain ⟨sl,q⟩:=slot c o (I.cne x c e) hc nch ho (I.freeC x c e)
   exact ⟨_,q,hd⟩
  ·exact ⟨o,keep c o (I.cne x c e) hc nch ho (I.freeC x c e),hd⟩
 refine ⟨I.ok,I.os,hg,⟨fun b o e n hb hx=>?_,fun b o e n hb hx=>?_,fun b o e n hx=>?_,fun b o e hx=>?_,fun b xs e=>tups b xs (I.base.tups b xs e),fun b o xs e=>frzs b o xs (I.base.frzs b o xs e),fun b ps e=>?_⟩,?_,fun x c e=>?_,?_,fun x c e=>?_,fun p hp=>?_,hok,I.len⟩
 ·exact keep b o (neL b o e) hb (neC b o e hx) (I.base.keep b o e n hb hx) (I.base.free b o e n hx)
 ·obtain ⟨sl,e1⟩:=I.base.slot b o e n hb hx
  obtain ⟨sl',e2⟩:=slot b _ (neL b o e) hb (neC b o e hx) e1 (I.base.free b o e n hx)
  exact ⟨sl',e2⟩
 ·obtain ⟨o',e1⟩:=I.base.there b o e hx
  exact free b o' (neC b o e hx) e1 (I.base.free b o e n hx)
 ·obtain ⟨o',e1⟩:=I.base.there b o e hx
  exact there b o' (neC b o e hx) e1
 ·obtain ⟨m1,e1⟩:=I.base.tbls b ps e
  obtain ⟨m2,e2⟩:=tbls b _ e1
  exact ⟨m1 ++ m2,by rw [e2,Array.append_assoc]⟩
 ·obtain ⟨m,hn,hl⟩:=I.loc
  refine ⟨m,ns m hn,fun i x v e1 e2 e3=>?_⟩
  obtain ⟨u,r,l⟩:=hl i x v e1 e2 e3
  refine ⟨u,r,?_⟩
  rcases l with l | ⟨k,c,e,z⟩
  ·exact .inl l
  ·exact .inr ⟨k,c,e,cellK x c e _ z⟩
 ·obtain ⟨v,z⟩:=I.cell x c e
  exact ⟨v,cellK x c e v z⟩
 ·obtain ⟨m,⟨o,_,_,ho,_⟩,_⟩:=I.loc
  exact free _ o (fun z=>(hch _ z).2.1 rfl) ho I.free
 ·obtain ⟨v,o,ho,hd⟩:=I.cell x c e
  exact free c o (fun z=>(hch c z).2.2.1 x c e rfl) ho (I.freeC x c e)
 ·obtain ⟨e,n,ne,nf,d⟩:=I.pin p hp
  have nch:p.1 ∉ ch:=fun z=>(hch p.1 z).2.2.2 p hp rfl
  exact ⟨keep p.1 p.2 ne nf nch e n,free p.1 p.2 nch e n,ne,nf,d⟩
theorem Inv.un {t':Nat} (I:Inv X pins σ H s) (u:Un X.fs [] H H' s.heap h') (hok:HOk X.prog X.w H' h'):Inv X pins σ H' { s with heap:=h',toks:=t' }:=by
 obtain ⟨m,⟨o,es,ep,ho,r⟩,_⟩:=id I.loc
 obtain ⟨sl,hL⟩:=u.any ho I.free (by simp)
 exact I.step (g':=s.gens) (d':=s.drawn) (ch:=[]) (fun _ z=>nomatch z) (fun b o _ hb _ e n=>u.keep b o e n hb (by simp)) (fun b o _ hb _ e n=>u.slot b o e n hb (by simp)) (fun b o _ e n=>u.free b o e n (by simp)) (fun b o _ e=>u.there b o e (by simp)) u.tups u.frzs u.tbls (fun m' hm=>by
  obtain ⟨o',es',ep',ho',r'⟩:=hm
  rw [ho] at ho'; cases ho'
  exact ⟨_,es',ep',hL,r'⟩) hok I.bare
theorem Inv.call {g':Array GenState} {t':Nat} {d':Drawn} {ch:List Addr} (I:Inv X pins σ H s) (u:Un (frs X.stack) ch H H' s.heap h') (hok:HOk X.prog X.w H' h') (hg:AllBare g')
  (hch:∀ b ∈ ch,(b ∈ X.ex \/ X.s₀.heap.objs.size <= b) /\ b ≠ X.env.locals /\ (∀ x c,X.env.cells.lookup x = some c -> c ≠ b) /\ ∀ p ∈ X.pn ++ pins,p.1 ≠ b) :
  Inv X pins σ H' { s with heap:=h',gens:=g',drawn:=d',toks:=t' }:=by
 obtain ⟨m,⟨o,es,ep,ho,r⟩,_⟩:=id I.loc
 obtain ⟨sl,hL⟩:=u.any ho I.free fun z=>(hch _ z).2.1 rfl
 exact I.step (ch:=ch) hch (fun b o hL hb hc e n=>u.keep b o e n (fun z=>(List.mem_cons.mp (I.stkSub b z)).elim hL hb) hc) (fun b o _ _ hc e n=>u.any e n hc) (fun b o hc e n=>u.free b o e n hc) (fun b o hc e=>u.there b o e hc) u.tups u.frzs u.tbls (fun m' hm=>by
  obtain ⟨o',es',ep',ho',r'⟩:=hm
  rw [ho] at ho'; cases ho'
  exact ⟨_,es',ep',hL,r'⟩) hok hg
theorem Inv.turned {t':Nat} {it:Addr} (I:Inv X pins σ H s) (k:∀ b o,b ≠ it -> s.heap.get? b = some o -> h'.get? b = some o) (hn:H it = none) (hL:it ≠ X.env.locals)
  (h1:it ∈ X.ex \/ X.s₀.heap.objs.size <= it) (h2:∀ x c,X.env.cells.lookup x = some c -> c ≠ it) (h3:∀ p ∈ X.pn ++ pins,p.1 ≠ it):Inv X pins σ H { s with heap:=h',toks:=t' }:=by
 have nit:∀ b u,H b = some u -> b ≠ it:=fun b u e z=>by rw [z,hn] at e; cases e
 refine I.step (g':=s.gens) (d':=s.drawn) (ch:=[it]) (fun b hb=>?_) (fun b o _ _ hc e _=>k b o (fun z=>hc (by simp [z])) e) (fun b o _ _ hc e _=>⟨o.slots,k b o (fun z=>hc (by simp [z])) e⟩) (fun _ _ _ _ n=>n)
  (fun b o hc e=>⟨o,k b o (fun z=>hc (by simp [z])) e⟩) (fun _ _ e=>e) (fun _ _ _ e=>e) (fun b ps e=>⟨#[],by rw [e]; simp⟩) (fun m hm=>?_) (fun b u e=>?_) I.bare
 ·have e:b = it:=by simpa using hb
  subst e
  exact ⟨h1,hL,h2,h3⟩
 ·obtain ⟨o,es,ep,ho,r⟩:=hm
  exact ⟨o,es,ep,k _ o (Ne.symm hL) ho,r⟩
 ·refine (I.hok b u e).stay (fun c v hc q=>k c v ?_ q) (fun _ q=>q) fun _ _ q=>q
  rcases hc with z | z
  ·rw [z]; exact nit b u e
  ·exact nit c _ z
theorem Inv.tok (I:Inv X pins σ H s) (t:Nat):Inv X pins σ H { s with toks:=t }:=I.un (h':=s.heap) (t':=t) Un.refl I.hok
theorem Inv.kept {t':Nat} (I:Inv X pins σ H s) (k:∀ b u,s.heap.get? b = some u -> h'.get? b = some u):Inv X pins σ H { s with heap:=h',toks:=t' }:=I.un (Un.kept k) (I.hok.kept k)
theorem Inv.laid {a:Addr} {o:HO} {t':Nat} (I:Inv X pins σ H s) (k:∀ b u,s.heap.get? b = some u -> h'.get? b = some u) (hp:s.heap.objs.size <= a) (new:Zal X.prog X.w (upd H a o) h' a o) :
  Inv X pins σ (upd H a o) { s with heap:=h',toks:=t' }:=I.un (Un.laid k hp (I.hok.fresh hp)) (I.hok.laid k hp new)
theorem Inv.write {x e:Addr} {o:HO} {t':Nat} (I:Inv X pins σ H s) (mu:Mut (H x)) (he:e = x \/ H e = some (.own x)) (k:∀ b u,b ≠ e -> s.heap.get? b = some u -> h'.get? b = some u) (heo:∃ u,h'.get? e = some u)
  (new:Zal X.prog X.w (upd H x o) h' x o):Inv X pins σ (upd H x o) { s with heap:=h',toks:=t' }:=I.un (Un.write mu he k heo) (I.hok.write mu he k heo new)
theorem Inv.pins_of {pins':List (Addr × Obj)} (I:Inv X pins σ H s) (h:∀ p ∈ pins',s.heap.get? p.1 = some p.2 /\ H p.1 = none /\ p.1 ≠ X.env.locals /\ p.1 ∉ X.fs /\ ∀ v,p.2.data ≠ .cell v):Inv X pins' σ H s :=
 ⟨I.ok,I.os,I.bare,I.base,I.loc,I.cell,I.free,I.freeC,fun p hp=>(List.mem_append.mp hp).elim (fun z=>I.pin p (List.mem_append_left _ z)) (h p),I.hok,I.len⟩
theorem Zfh {N:List Str} (hN:N.Nodup) {i j:Nat} {x:Str} (a:N[i]? = some x) (b:N[j]? = some x):i = j:=by
 obtain ⟨h1,e1⟩:=List.getElem?_eq_some_iff.mp a
 obtain ⟨h2,e2⟩:=List.getElem?_eq_some_iff.mp b
 exact (List.getElem_inj hN).mp (e1.trans e2.symm)
theorem ZcI {M:Model} {A:Around} {E:Value -> Shared -> Prop} {i:Nat} {x:Str} {v:V} {u:Value} {Q:Unit -> Shared -> Prop} (I:Inv X pins σ H s) (hN:X.N.Nodup) (hi:X.N[i]? = some x) (hx:Loc X.env.scope x) (r:RelV v u)
  (h:∀ s',Inv X pins (σ.set i (some v)) H s' -> (∃ a,Heap.SameBut a s.heap s'.heap /\ (a = X.env.locals \/ X.env.cells.lookup x = some a)) -> Q () s') (hf:X.fn x = true \/ X.env.scope.names.lookup x = some .local:=by first | exact .inl rfl | exact .inr rfl | assumption):wpAny M A (storeName X.env x u) Q E s:=by
 obtain ⟨m,hn,hl⟩:=id I.loc
 have hcls:(X.env.scope.kind == .class || (X.env.scope.kind == .module && X.env.locals != X.env.globals)) = false:=by rw [I.ok.kind]; rfl
 have hiσ : i < σ.length:=by rw [I.len]; exact (List.getElem?_eq_some_iff.mp hi).1
 have cne:=I.cne
 have tracked:∀ {a:Addr} {h':Heap},(∃ o,s.heap.get? a = some o /\ H a = none) -> Heap.SameBut a s.heap h' -> HOk X.prog X.w H h':=fun {a h'} ha hs b ob e=>by
  obtain ⟨_,_,hfree⟩:=ha
  refine (I.hok b ob e).stay (fun c w' hc q=>(hs.2 c ?_).trans q) (fun _ q=>q) fun _ _ q=>q
  rintro rfl
  rcases hc with rfl | hc
  ·rw [hfree] at e; cases e
  ·rw [hfree] at hc; cases hc
 rcases hx with hk | hk
 ·refine wpAny_storeName_local hk hn (fun h' hn' hs=>?_) hcls
  obtain ⟨oL,_,_,hoL,_⟩:=id hn
  refine h _ ⟨I.ok,I.os,I.bare,⟨fun b o e n hb hx=>?_,fun b o e n hb hx=>?_,I.base.free,fun b o e hx=>?_,I.base.tups,I.base.frzs,I.base.tbls⟩,⟨_,hn',fun j y v' e1 e2 e3=>?_⟩,fun y c e=>?_,I.free,I.freeC,fun p hp=>?_,tracked ⟨oL,hoL,I.free⟩ hs,by simpa using I.len⟩ ⟨_,hs,.inl rfl⟩
  ·exact (hs.2 b (Nat.ne_of_lt (Nat.lt_of_lt_of_le (Heap.lt_size e) I.ok.above))).trans (I.base.keep b o e n hb hx)
  ·obtain ⟨sl,e1⟩:=I.base.slot b o e n hb hx
   exact ⟨sl,(hs.2 b (Nat.ne_of_lt (Nat.lt_of_lt_of_le (Heap.lt_size e) I.ok.above))).trans e1⟩
  ·obtain ⟨o',e1⟩:=I.base.there b o e hx
   exact ⟨o',(hs.2 b (Nat.ne_of_lt (Nat.lt_of_lt_of_le (Heap.lt_size e) I.ok.above))).trans e1⟩
  ·by_cases hj:j = i
   ·subst hj
    rw [hi] at e1; cases e1
    rw [List.getElem?_set_self hiσ] at e2
    cases e2
    exact ⟨u,r,.inl ⟨hk,by simp⟩⟩
   ·rw [List.getElem?_set_ne (Ne.symm hj)] at e2
    obtain ⟨u',r',q⟩:=hl j y v' e1 e2 e3
    refine ⟨u',r',?_⟩
    rcases q with ⟨k,e⟩ | ⟨k,c,e,z⟩
    ·refine .inl ⟨k,?_⟩
     have:y ≠ x:=fun e=>hj (Zfh hN e1 (e ▸ hi))
     simp [this,e]
    ·exact .inr ⟨k,c,e,z.sameBut hs (cne y c e)⟩
  ·obtain ⟨w',z⟩:=I.cell y c e
   exact ⟨w',z.sameBut hs (cne y c e)⟩
  ·obtain ⟨e,n,ne,nf,d⟩:=I.pin p hp
   exact ⟨(hs.2 p.1 ne).trans e,n,ne,nf,d⟩
 ·have hfn:X.fn x = true:=by
   rcases hf with z | z
   ·exact z
   ·rw [z] at hk; cases hk
  obtain ⟨c,hc⟩:=I.ok.has x (.inl hk)
  obtain ⟨w',z⟩:=I.cell x c hc
  refine wpAny_storeName_cell I.ok.kind hk hc z (fun h' hc' hs=>?_)
  obtain ⟨oc,hoc,hocd⟩:=id z
  refine h { s with heap:=h' } ⟨I.ok,I.os,I.bare,⟨fun b o e n hb hx=>?_,fun b o e n hb hx=>?_,I.base.free,fun b o e hx=>?_,I.base.tups,I.base.frzs,I.base.tbls⟩,⟨m,hn.sameBut hs (Ne.symm (cne x c hc)),fun j y v' e1 e2 e3=>?_⟩,fun y c' e=>?_,I.free,I.freeC,fun p hp=>?_,tracked ⟨oc,hoc,I.freeC x c hc⟩ hs,by simpa using I.len⟩ ⟨c,hs,.inr hc⟩
  ·exact (hs.2 b (Nat.ne_of_lt (Nat.lt_of_lt_of_le (Heap.lt_size e) (I.ok.cab x c hfn hc)))).trans (I.base.keep b o e n hb hx)
  ·obtain ⟨sl,e1⟩:=I.base.slot b o e n hb hx
   exact ⟨sl,(hs.2 b (Nat.ne_of_lt (Nat.lt_of_lt_of_le (Heap.lt_size e) (I.ok.cab x c hfn hc)))).trans e1⟩
  ·obtain ⟨o',e1⟩:=I.base.there b o e hx
   exact ⟨o',(hs.2 b (Nat.ne_of_lt (Nat.lt_of_lt_of_le (Heap.lt_size e) (I.ok.cab x c hfn hc)))).trans e1⟩
  ·by_cases hj:j = i
   ·subst hj
    rw [hi] at e1; cases e1
    rw [List.getElem?_set_self hiσ] at e2
    cases e2
    exact ⟨u,r,.inr ⟨.inl hk,c,hc,hc'⟩⟩
   ·rw [List.getElem?_set_ne (Ne.symm hj)] at e2
    obtain ⟨u',r',q⟩:=hl j y v' e1 e2 e3
    refine ⟨u',r',?_⟩
    rcases q with q | ⟨k,c',e,z'⟩
    ·exact .inl q
    ·refine .inr ⟨k,c',e,z'.sameBut hs ?_⟩
     rintro rfl
     exact hj (Zfh hN e1 (I.ok.inj _ _ _ e hc ▸ hi))
  ·by_cases hcc:c' = c
   ·subst hcc; exact ⟨_,hc'⟩
   ·obtain ⟨w2,z2⟩:=I.cell y c' e
    exact ⟨w2,z2.sameBut hs hcc⟩
  ·obtain ⟨e,n,ne,nf,d⟩:=I.pin p hp
   refine ⟨(hs.2 p.1 ?_).trans e,n,ne,nf,d⟩
   intro q
   rw [q,hoc] at e
   have q':oc = p.2:=Option.some.inj e
   exact d w' (by rw [<- q']; exact hocd)
theorem Ze8 {M:Model} {A:Around} {E:Value -> Shared -> Prop} {i:Nat} {x:Str} {v:V} {u:Value} {Q:Unit -> Shared -> Prop} (I:Inv X pins σ H s) (hN:X.N.Nodup) (hi:X.N[i]? = some x) (hx:Loc X.env.scope x) (r:RelV v u)
  (h:∀ s',Inv X pins (σ.set i (some v)) H s' -> Q () s') (hf:X.fn x = true \/ X.env.scope.names.lookup x = some .local:=by first | exact .inl rfl | exact .inr rfl | assumption):wpAny M A (storeName X.env x u) Q E s :=
 ZcI I hN hi hx r (fun s' I' _=>h s' I') hf
theorem Inv.call' {s':Shared} {ch:List Addr} (I:Inv X pins σ H s) (ho:s'.os = s.os) (u:Un (frs X.stack) ch H H' s.heap s'.heap) (hok:HOk X.prog X.w H' s'.heap) (hg:AllBare s'.gens)
  (hch:∀ b ∈ ch,(b ∈ X.ex \/ X.s₀.heap.objs.size <= b) /\ b ≠ X.env.locals /\ (∀ x c,X.env.cells.lookup x = some c -> c ≠ b) /\ ∀ p ∈ X.pn ++ pins,p.1 ≠ b):Inv X pins σ H' s':=by
 obtain ⟨h',g',d',t',o'⟩:=s'
 have e:o' = s.os:=ho
 subst e
 exact I.call (g':=g') (t':=t') (d':=d') u hok hg hch
end
abbrev XK:=Value -> Option Addr -> Hp -> Prop
abbrev St:=List (Option V)
abbrev VK:=V -> Hp -> Prop
abbrev TE:=St -> Hp -> VK -> Prop
abbrev TT:=St -> Hp -> (Bool -> Hp -> Prop) -> Prop
abbrev TA:=St -> Hp -> (List V -> Hp -> Prop) -> Prop
structure Ends where
 nx:St -> Hp -> Prop
 rt:VK
 bk:St -> Hp -> Prop:=fun _ _=>False
 ct:St -> Hp -> Prop:=fun _ _=>False
abbrev TS:=Ends -> St -> Hp -> Prop
def EP (X:Cx) (pins:List (Addr × Obj)) (σ : St) (Q:VK) (u:Value) (s':Shared):Prop := ∃ v H',Inv X pins σ H' s' /\ RelV v u /\ Q v H'
def TP (X:Cx) (pins:List (Addr × Obj)) (σ : St) (Q:Bool -> Hp -> Prop) (b:Bool) (s':Shared):Prop := ∃ H',Inv X pins σ H' s' /\ Q b H'
def AP (X:Cx) (pins:List (Addr × Obj)) (σ : St) (Q:List V -> Hp -> Prop) (us:List Value) (s':Shared):Prop := ∃ vs H',Inv X pins σ H' s' /\ Vals vs us /\ Q vs H'
def SP (X:Cx) (pins:List (Addr × Obj)) (D:Ends) (f:Flow) (s':Shared):Prop :=
 match f with
 | .next=>∃ σ' H',Inv X pins σ' H' s' /\ D.nx σ' H'
 | .brk=>∃ σ' H',Inv X pins σ' H' s' /\ D.bk σ' H'
 | .cont=>∃ σ' H',Inv X pins σ' H' s' /\ D.ct σ' H'
 | .ret u=>∃ v σ' H',Inv X pins σ' H' s' /\ RelV v u /\ D.rt v H'
def PE (X:Cx) (e:Expr) (t:TE):Prop :=
 ∀ (pins:List (Addr × Obj)) (s:Shared) (σ : St) (H:Hp) (Q:VK),Inv X pins σ H s -> t σ H Q -> wpAny (model X.prog X.w) X.A (eval e X.env) (EP X pins σ Q) X.xe s
def PT (X:Cx) (e:Expr) (t:TT):Prop :=
 ∀ (pins:List (Addr × Obj)) (s:Shared) (σ : St) (H:Hp) (Q:Bool -> Hp -> Prop),Inv X pins σ H s -> t σ H Q -> wpAny (model X.prog X.w) X.A (isTrue e X.env (eval e X.env)) (TP X pins σ Q) X.xe s
def PW (X:Cx) (e:Expr) (t:TT):Prop :=
 ∀ (whole:Sem Value) (pins:List (Addr × Obj)) (s:Shared) (σ : St) (H:Hp) (Q:Bool -> Hp -> Prop),Inv X pins σ H s -> t σ H Q -> wpAny (model X.prog X.w) X.A (isTrue e X.env whole) (TP X pins σ Q) X.xe s
theorem PW.pt {X:Cx} {e:Expr} {t:TT} (h:PW X e t):PT X e t:=h _
def PA (X:Cx) (es:List Expr) (t:TA):Prop :=
 ∀ (pos:Pos) (pins:List (Addr × Obj)) (s:Shared) (σ : St) (H:Hp) (Q:List V -> Hp -> Prop),Inv X pins σ H s -> t σ H Q -> wpAny (model X.prog X.w) X.A (spliced (backTo pos (starEach es X.env))) (AP X pins σ Q) X.xe s
def PS (X:Cx) (st:Stmt) (t:TS):Prop :=
 ∀ (pins:List (Addr × Obj)) (s:Shared) (σ : St) (H:Hp) (D:Ends),Inv X pins σ H s -> t D σ H -> wpAny (model X.prog X.w) X.A (exec st X.env) (SP X pins D) X.xe s
def PSs (X:Cx) (st:List Stmt) (t:TS):Prop :=
 ∀ (pins:List (Addr × Obj)) (s:Shared) (σ : St) (H:Hp) (D:Ends),Inv X pins σ H s -> t D σ H -> wpAny (model X.prog X.w) X.A (execs st X.env) (SP X pins D) X.xe s
theorem thn {α : Type} {t:Sem α} {Q Q' : α -> Shared -> Prop} {M:Model} {A:Around} {E:Value -> Shared -> Prop} {s:Shared} (h:wpAny M A t Q E s) (hQ:∀ a s,Q a s -> Q' a s):wpAny M A t Q' E s:=wpAny_mono h hQ fun _ _ x=>x
end L2
namespace L2
open PySem PySem.Spec PyProof.Rows
section
variable {X:Cx}
def Zk1 (i:Nat):TE:=fun σ H Q=>∃ v,σ[i]? = some (some v) /\ Q v H
def tC (v:V):TE:=fun _ H Q=>Q v H
theorem Zkg {i:Nat} {x:Str} {pos:Pos} (hN:X.N[i]? = some x) (hv:Vis X.env.scope x) (hd:(x == ("__debug__" : Str)) = false:=by decide) (hcd:(x == ("__classdict__" : Str)) = false:=by decide):PE X (.Name x pos) (Zk1 i):=by
 intro pins s σ H Q I h
 obtain ⟨v,e,h⟩:=h
 obtain ⟨m,hn,hl⟩:=I.loc
 obtain ⟨u,r,l⟩:=hl i x v hN e hv
 have fin:EP X pins σ Q u s:=⟨v,H,I,r,h⟩
 rcases l with ⟨hk,hm⟩ | ⟨hk,c,hc,hcell⟩
 ·exact wpAny_Name (wpAny_loadName_local I.ok.kind hk hn hm fin) hd
 ·rcases hk with hk | hk
  ·exact wpAny_Name (wpAny_loadName_cell I.ok.kind hk hc hcell fin) hd
  ·exact wpAny_Name (wpAny_loadName_free I.ok.kind hk hc hcell fin hcd) hd
theorem Ze {i j pos}:PE X (.Constant (.int i) j pos) (tC (.int i)):=fun _ _ _ H _ I h=>wpAny_Constant_int ⟨.int i,H,I.tok _,⟨_,rfl⟩,h⟩
theorem Zbf {b j pos}:PE X (.Constant (.bool b) j pos) (tC (.bl b)):=fun _ _ _ H _ I h=>Constant_bool ⟨.bl b,H,I,rfl,h⟩
theorem ZiO {j pos}:PE X (.Constant .none j pos) (tC .non):=fun _ _ _ H _ I h=>Constant_none ⟨.non,H,I,rfl,h⟩
theorem ZbR {x j pos}:PE X (.Constant (.str x) j pos) (tC (.str x)):=fun _ _ _ H _ I h=>Calls.Constant_str ⟨.str x,H,I.tok _,⟨_,rfl⟩,h⟩
def Gl (X:Cx) (x:Str):Prop:=X.env.kindOf x = some .globalImplicit
theorem ZhI {E:Value -> Shared -> Prop} {pins:List (Addr × Obj)} {s:Shared} {σ : St} {H:Hp} {x:Str} {u:Value} {pos:Pos} {Q:Value -> Shared -> Prop} (I:Inv X pins σ H s) (hg:Gl X x) (hm:X.mg x = some u) (h:Q u s)
  (hd:(x == ("__debug__" : Str)) = false:=by decide):wpAny (model X.prog X.w) X.A (eval (.Name x pos) X.env) Q E s :=
 Calls.Name_function_global I.ok.kind hg (Calls.loadGlobal_global (by rw [I.ok.glob]; exact I.mod.glob.keeps I.bk) hm h) hd
theorem Zcc {E:Value -> Shared -> Prop} {pins:List (Addr × Obj)} {s:Shared} {σ : St} {H:Hp} {x:Str} {u:Value} {pos:Pos} {Q:Value -> Shared -> Prop} (I:Inv X pins σ H s) (hg:Gl X x) (hm:X.mg x = none) (hv:bootBuiltins x = some u) (h:Q u s)
  (hn:x ≠ "__name__" := by decide) (hd:(x == ("__debug__" : Str)) = false:=by decide):wpAny (model X.prog X.w) X.A (eval (.Name x pos) X.env) Q E s:=by
 obtain ⟨mb,h1,h2⟩:=I.mod.blt
 exact Calls.Name_function_global I.ok.kind hg (Calls.loadGlobal_builtin (by rw [I.ok.glob]; exact I.mod.glob.keeps I.bk) hm (by rw [I.ok.blt]; exact h1.keeps I.bk) ((h2 x hn).trans hv) h) hd
theorem ZhD {x:Str} {v:V} {u:Value} {pos:Pos} (hg:Gl X x) (hm:X.mg x = some u) (r:RelV v u) (hd:(x == ("__debug__" : Str)) = false:=by decide):PE X (.Name x pos) (tC v) :=
 fun _ _ _ H _ I h=>ZhI I hg hm ⟨v,H,I,r,h⟩ hd
theorem Zju {x:Str} {v:V} {u:Value} {pos:Pos} (hg:Gl X x) (hm:X.mg x = none) (hv:bootBuiltins x = some u) (r:RelV v u) (hn:x ≠ "__name__" := by decide) (hd:(x == ("__debug__" : Str)) = false:=by decide):PE X (.Name x pos) (tC v) :=
 fun _ _ _ H _ I h=>Zcc I hg hm hv ⟨v,H,I,r,h⟩ hn hd
variable {a b:Expr} {ta tb:TE} {pos:Pos}
def PC (X:Cx) (op:CmpOp) (a b:Expr) (t:TE):Prop :=
 ∀ (pins:List (Addr × Obj)) (s:Shared) (σ : St) (H:Hp) (Q:VK),Inv X pins σ H s -> t σ H Q ->
  wpAny (model X.prog X.w) X.A (eval a X.env) (fun v s₁=>wpAny (model X.prog X.w) X.A (eval b X.env) (fun u s₂=>wpAny (model X.prog X.w) X.A (compareOp op v u) (EP X pins σ Q) X.xe s₂) X.xe s₁) X.xe s
def tB (t:TE):TT:=fun σ H Q=>t σ H fun x H1=>∃ c,x = .bl c /\ Q c H1
theorem Zbz {op:CmpOp} {t:TE} (h:PC X op a b t) (h1:behindInMarks op b = false:=by first | exact nobehind _ (by decide) (by decide) | rfl):PT X (.Compare a [op] [b] pos) (tB t):=by
 intro pins s σ H Q I hw
 refine wpAny_isTrue_Compare1 (thn (h pins s σ H _ I hw) fun v s1 h1=>thn h1 fun u s2 h2=>thn h2 fun c s3 ⟨x,H1,I1,r1,q1⟩=>?_) h1
 obtain ⟨d,rfl,q⟩:=q1
 cases r1
 exact wpAny_truthy_bool ⟨H1,I1,q⟩
variable {tA tB':TT} {rest:List Expr}
def Zle (t u:TT):TT:=fun σ H Q=>t σ H fun c H1=>if c = true then u σ H1 Q else Q false H1
def tOr (t u:TT):TT:=fun σ H Q=>t σ H fun c H1=>if c = true then Q true H1 else u σ H1 Q
def Zlo (t:TT):TT:=fun σ H Q=>t σ H fun c H1=>Q (!c) H1
theorem Za9 (ha:PT X a tA):PW X (.BoolOp .And [a] pos) tA:=by
 intro wh pins s σ H Q I h
 refine isTrue_and (thn (ha pins s σ H Q I h) fun c s1 e=>?_)
 cases c with
 | true=>exact isTrue_and_nil e
 | false=>exact e
theorem Zc3 (ha:PT X a tA):PW X (.BoolOp .Or [a] pos) tA:=by
 intro wh pins s σ H Q I h
 refine isTrue_or (thn (ha pins s σ H Q I h) fun c s1 e=>?_)
 cases c with
 | false=>exact isTrue_or_nil e
 | true=>exact e
theorem ZaZ (ha:PT X a tA) (hb:PW X (.BoolOp .And (b :: rest) pos) tB'):PW X (.BoolOp .And (a :: b :: rest) pos) (Zle tA tB'):=by
 intro wh pins s σ H Q I h
 refine isTrue_and (thn (ha pins s σ H _ I h) fun c s1 ⟨H1,I1,q1⟩=>?_)
 cases c with
 | true=>exact hb wh pins s1 σ H1 Q I1 q1
 | false=>exact ⟨H1,I1,q1⟩
theorem Zf9 (ha:PT X a tA) (hb:PW X (.BoolOp .Or (b :: rest) pos) tB'):PW X (.BoolOp .Or (a :: b :: rest) pos) (tOr tA tB'):=by
 intro wh pins s σ H Q I h
 refine isTrue_or (thn (ha pins s σ H _ I h) fun c s1 ⟨H1,I1,q1⟩=>?_)
 cases c with
 | true=>exact ⟨H1,I1,q1⟩
 | false=>exact hb wh pins s1 σ H1 Q I1 q1
theorem ZdQ (ha:PT X a tA):PT X (.UnaryOp .Not a pos) (Zlo tA):=by
 intro pins s σ H Q I h
 exact isTrue_not (ha pins s σ H (fun c H1=>Q (!c) H1) I h)
def ZkL (ta tb:TE):TE:=fun σ H Q=>ta σ H fun x H1=>∃ c,x = .bl c /\ if c = true then tb σ H1 Q else Q (.bl false) H1
def ZkE (ta:TE):TE:=fun σ H Q=>ta σ H fun x H1=>∃ c,x = .bl c /\ Q (.bl (!c)) H1
theorem Zgq {op} {t:TE} (h:PE X a t):PE X (.BoolOp op [a] pos) t:=fun pins s σ H Q I hw=>BoolOp_one (h pins s σ H Q I hw)
theorem Zfw (ha:PE X a ta) (hb:PE X (.BoolOp .And (b :: rest) pos) tb):PE X (.BoolOp .And (a :: b :: rest) pos) (ZkL ta tb):=by
 intro pins s σ H Q I h
 refine BoolOp_and (thn (ha pins s σ H _ I h) fun v s1 ⟨x,H1,I1,r1,q1⟩=>?_)
 obtain ⟨c,rfl,q1⟩:=q1
 cases r1
 refine wpAny_truthy_bool ?_
 cases c with
 | true=>exact hb pins s1 σ H1 Q I1 q1
 | false=>exact ⟨.bl false,H1,I1,rfl,q1⟩
theorem ZjL (ha:PE X a ta):PE X (.UnaryOp .Not a pos) (ZkE ta):=by
 intro pins s σ H Q I h
 refine UnaryOp_ (thn (ha pins s σ H _ I h) fun v s1 ⟨x,H1,I1,r1,q1⟩=>?_)
 obtain ⟨c,rfl,q1⟩:=q1
 cases r1
 exact not_of (wpAny_truthy_bool ⟨.bl (!c),H1,I1,rfl,q1⟩)
end
end L2
namespace L2
open PySem PySem.Spec PyProof.Rows
def SqL (K:PySem.W.Frag) (H:Hp) (a:Addr) (xs:List V):Prop :=
 Rd H a (.lst xs) \/
  ∃ (o:Obj) (its:Array Value) (n:Nat),K.lookup a = some o /\ o.cls = .type "list" /\ o.dict = none /\ o.data = .seq its n /\ its.size <= sizeLine /\ Vals xs its.toList
def SqT (K:PySem.W.Frag) (H:Hp) (a:Addr) (xs:List V):Prop :=
 Rd H a (.tup xs) \/
  ∃ (o:Obj) (its:Array Value) (n:Nat),K.lookup a = some o /\ o.cls = .type "tuple" /\ o.data = .seq its n /\ its.size <= sizeLine /\ Vals xs its.toList
def ZlC:Value -> Option V
 | .none=>some .non
 | .bool b=>some (.bl b)
 | .int i _=>some (.int i)
 | .str x _=>some (.str x)
 | .bytes b _=>some (.byt b)
 | .float b _=>some (.flt b)
 | .ref a=>some (.ref a)
 | .type n=>some (.ty n)
 | _=>none
theorem RelV.abs {x:V} {u:Value} (r:RelV x u):ZlC u = some x:=by
 cases x with
 | non=>cases r; rfl
 | bl _=>cases r; rfl
 | int _=>obtain ⟨t,rfl⟩:=r; rfl
 | str _=>obtain ⟨t,rfl⟩:=r; rfl
 | byt _=>obtain ⟨t,rfl⟩:=r; rfl
 | flt _=>obtain ⟨t,rfl⟩:=r; rfl
 | ref _=>cases r; rfl
 | ty _=>cases r; rfl
theorem RelV.inj {x y:V} {u:Value} (r:RelV x u) (q:RelV y u):x = y:=Option.some.inj (r.abs.symm.trans q.abs)
theorem Vals.inj:∀ {xs ys:List V} {us:List Value},Vals xs us -> Vals ys us -> xs = ys
 | _,_,_,.nil,.nil=>rfl
 | _,_,_,.cons r t,.cons r' t'=>by rw [r.inj r',Vals.inj t t']
section
variable {X:Cx} {pins:List (Addr × Obj)} {σ : St} {H:Hp} {s:Shared} {a:Addr} {xs ys:List V}
theorem SqL.of {K:PySem.W.Frag} (h:H a = some (.lst xs)):SqL K H a xs:=.inl (.inl h)
theorem SqT.of {K:PySem.W.Frag} (h:H a = some (.tup xs)):SqT K H a xs:=.inl (.inl h)
theorem Inv.list (I:Inv X pins σ H s) (h:SqL X.K H a xs):∃ its:List Value,Vals xs its /\ PlainL s.heap a its.toArray /\ xs.length <= sizeLine:=by
 rcases h with h | ⟨o,its,n,hk,hc,hd,hs,hz,r⟩
 ·obtain ⟨z,its,n,r,e⟩:=h.ok I.hok
  exact ⟨its,r,⟨_,n,e,rfl,rfl,rfl⟩,z⟩
 ·refine ⟨its.toList,r,⟨o,n,I.kIn a o hk,hc,hd,by simpa using hs⟩,?_⟩
  have e:=r.length
  simp only [Array.length_toList] at e
  lia
theorem Inv.tuple (I:Inv X pins σ H s) (h:SqT X.K H a xs):∃ its:List Value,Vals xs its /\ IsTup s.heap a its.toArray /\ xs.length <= sizeLine:=by
 rcases h with h | ⟨o,its,n,hk,hc,hs,hz,r⟩
 ·obtain ⟨z,its,r,p⟩:=h.ok I.hok
  exact ⟨its,r,p,z⟩
 ·refine ⟨its.toList,r,⟨o,I.kIn a o hk,hc,n,by simpa using hs⟩,?_⟩
  have e:=r.length
  simp only [Array.length_toList] at e
  lia
theorem Inv.list_inj (I:Inv X pins σ H s) (h:SqL X.K H a xs) (h':SqL X.K H a ys):xs = ys:=by
 obtain ⟨its,r,⟨o,n,e,_,_,d⟩,_⟩:=I.list h
 obtain ⟨its',r',⟨o',n',e',_,_,d'⟩,_⟩:=I.list h'
 rw [e] at e'; cases e'
 rw [d] at d'
 injection d' with d1 _
 have:its = its':=by simpa using congrArg Array.toList d1
 subst this
 exact r.inj r'
theorem Inv.tuple_inj (I:Inv X pins σ H s) (h:SqT X.K H a xs) (h':SqT X.K H a ys):xs = ys:=by
 obtain ⟨its,r,⟨o,e,_,n,d⟩,_⟩:=I.tuple h
 obtain ⟨its',r',⟨o',e',_,n',d'⟩,_⟩:=I.tuple h'
 rw [e] at e'; cases e'
 rw [d] at d'
 injection d' with d1 _
 have:its = its':=by simpa using congrArg Array.toList d1
 subst this
 exact r.inj r'
end
abbrev Cx.wish (X:Cx) (E:Value -> Shared -> Prop):Cx:={ X with xe:=E }
abbrev Cx.nox (X:Cx):Cx:=X.wish fun _ _=>False
theorem Cx.Ok.wish {X:Cx} (ok:X.Ok) (E:Value -> Shared -> Prop):(X.wish E).Ok :=
 ⟨ok.mod,ok.kind,ok.glob,ok.blt,ok.above,ok.inj,ok.has,ok.cab,ok.hd,ok.frames,ok.stk,ok.exf,ok.bs,ok.bsz,ok.noex,ok.exfs,ok.funs,ok.frf⟩
theorem Cx.Ok.unwish {X:Cx} {E:Value -> Shared -> Prop} (ok:(X.wish E).Ok):X.Ok :=
 ⟨ok.mod,ok.kind,ok.glob,ok.blt,ok.above,ok.inj,ok.has,ok.cab,ok.hd,ok.frames,ok.stk,ok.exf,ok.bs,ok.bsz,ok.noex,ok.exfs,ok.funs,ok.frf⟩
section
variable {X:Cx} {pins:List (Addr × Obj)} {σ : St} {H:Hp} {s:Shared} {E:Value -> Shared -> Prop}
theorem Inv.wish (I:Inv X pins σ H s) (E:Value -> Shared -> Prop):Inv (X.wish E) pins σ H s:=⟨I.ok.wish E,I.os,I.bare,I.base,I.loc,I.cell,I.free,I.freeC,I.pin,I.hok,I.len⟩
theorem Inv.unwish (I:Inv (X.wish E) pins σ H s):Inv X pins σ H s:=⟨I.ok.unwish,I.os,I.bare,I.base,I.loc,I.cell,I.free,I.freeC,I.pin,I.hok,I.len⟩
theorem SP.unwish {D:Ends} {f:Flow} {s':Shared} (h:SP (X.wish E) pins D f s'):SP X pins D f s':=by
 cases f with
 | next=>obtain ⟨σ',H',I,q⟩:=h; exact ⟨σ',H',I.unwish,q⟩
 | brk=>obtain ⟨σ',H',I,q⟩:=h; exact ⟨σ',H',I.unwish,q⟩
 | cont=>obtain ⟨σ',H',I,q⟩:=h; exact ⟨σ',H',I.unwish,q⟩
 | ret u=>obtain ⟨v,σ',H',I,r,q⟩:=h; exact ⟨v,σ',H',I.unwish,r,q⟩
theorem PSs.nox {st:List Stmt} {t:TS} (h:PSs X.nox st t):PSs X st t:=fun pins s σ H D I hw =>
 wpAny_mono (h pins s σ H D (I.wish _) hw) (fun _ _ q=>q.unwish) fun _ _ z=>False.elim z
end
section
variable {X:Cx} {st:Stmt} {rest:List Stmt} {t u:TS} {e:Expr} {te:TE} {pos:Pos}
def Zku:TS:=fun D σ H=>D.nx σ H
def Zlr (t u:TS):TS:=fun D σ H=>t { D with nx:=u D } σ H
theorem Z6:PSs X [] Zku:=fun _ _ σ H _ I h=>wpAny_execs_nil ⟨σ,H,I,h⟩
theorem Zd (h1:PS X st t) (h2:PSs X rest u):PSs X (st :: rest) (Zlr t u):=by
 intro pins s σ H D I h
 refine wpAny_execs_cons (thn (h1 pins s σ H { D with nx:=u D } I h) fun f s1 q=>?_)
 cases f with
 | next =>
  obtain ⟨σ',H',I',q⟩:=q
  exact h2 pins s1 σ' H' D I' q
 | ret v=>exact q
 | brk=>exact q
 | cont=>exact q
theorem Zf (h1:PS X st t):PSs X [st] t:=by
 intro pins s σ H D I h
 refine wpAny_execs_cons (thn (h1 pins s σ H D I h) fun f s1 q=>?_)
 cases f with
 | next=>exact wpAny_execs_nil q
 | ret v=>exact q
 | brk=>exact q
 | cont=>exact q
theorem Inv.quiet {pins:List (Addr × Obj)} {σ : St} {H:Hp} {s:Shared} (I:Inv X pins σ H s):interactive X.env = false:=by simp [interactive,I.ok.kind]
def Zkt (te:TE):TS:=fun D σ H=>te σ H fun _ H1=>D.nx σ H1
theorem Zar (he:PE X e te) (hs:swapsWith e none pos.line X.env = pure false:=by rfl):PS X (.Expr e pos) (Zkt te):=by
 intro pins s σ H D I h
 exact wpAny_Expr_any (thn (he pins s σ H _ I h) fun v s1 ⟨x,H1,I1,r1,q1⟩=>⟨σ,H1,I1,q1⟩) I.quiet hs
def Zll (te:TE):TS:=fun D σ H=>te σ H D.rt
theorem ZQ (he:PE X e te):PS X (.Return (some e) pos) (Zll te):=by
 intro pins s σ H D I h
 exact wpAny_Return_some (thn (he pins s σ H _ I h) fun v s1 ⟨x,H1,I1,r1,q1⟩=>⟨x,σ,H1,I1,r1,q1⟩)
def Zls (c:TT) (t u:TS):TS:=fun D σ H=>c σ H fun b H1=>if b = true then t D σ H1 else u D σ H1
theorem ZaK {c:Expr} {a b:List Stmt} {tc:TT} (hc:PT X c tc) (ha:PSs X a t) (hb:PSs X b u):PS X (.If c a b pos) (Zls tc t u):=by
 intro pins s σ H D I h
 refine wpAny_If (thn (hc pins s σ H _ I h) fun d s1 ⟨H1,I1,q1⟩=>?_)
 cases d with
 | true=>exact ha pins s1 σ H1 D I1 q1
 | false=>exact hb pins s1 σ H1 D I1 q1
def ZjR:TS:=fun _ _ _=>False
theorem Zfz:PS X st ZjR:=fun _ _ _ _ _ _ h=>h.elim
end
abbrev TG:=V -> St -> Hp -> (St -> Hp -> Prop) -> Prop
abbrev TGs:=List V -> St -> Hp -> (St -> Hp -> Prop) -> Prop
def PG (X:Cx) (target:Expr) (t:TG):Prop :=
 ∀ (pins:List (Addr × Obj)) (s:Shared) (σ : St) (H:Hp) (v:V) (u:Value) (Q:St -> Hp -> Prop),Inv X pins σ H s -> RelV v u -> t v σ H Q ->
  wpAny (model X.prog X.w) X.A (assign target X.env u) (fun _ s'=>∃ σ' H',Inv X pins σ' H' s' /\ Q σ' H') X.xe s
def PGs (X:Cx) (ts:List Expr) (t:TGs):Prop :=
 ∀ (pins:List (Addr × Obj)) (s:Shared) (σ : St) (H:Hp) (vs:List V) (us:List Value) (Q:St -> Hp -> Prop),Inv X pins σ H s -> Vals vs us -> t vs σ H Q ->
  wpAny (model X.prog X.w) X.A (assignInOrder ((assignEach ts X.env).map (·.2)) us) (fun _ s'=>∃ σ' H',Inv X pins σ' H' s' /\ Q σ' H') X.xe s
abbrev Zkw:=V -> V -> V -> Hp -> (Hp -> Prop) -> Prop
def Zk8 (X:Cx) (t:Zkw):Prop :=
 ∀ (pins:List (Addr × Obj)) (s:Shared) (σ : St) (H:Hp) (o i v:V) (ov iv u:Value) (Q:Hp -> Prop),Inv X pins σ H s -> RelV o ov -> RelV i iv -> RelV v u -> t o i v H Q ->
  wpAny (model X.prog X.w) X.A (setItem ov iv u) (fun _ s'=>∃ H',Inv X pins σ H' s' /\ Q H') X.xe s
section
variable {X:Cx} {pos:Pos}
def ZfK (i:Nat):TG:=fun v σ H Q=>Q (σ.set i (some v)) H
theorem Zj {i:Nat} {x:Str} (hN:X.N.Nodup) (hi:X.N[i]? = some x) (hx:Loc X.env.scope x) (hf:X.fn x = true \/ X.env.scope.names.lookup x = some .local:=by first | exact .inl rfl | exact .inr rfl | assumption):PG X (.Name x pos) (ZfK i):=by
 intro pins s σ H v u Q I r h
 exact wpAny_assign_Name (Ze8 I hN hi hx r (fun s' I'=>⟨_,H,I',h⟩) hf)
def Zlp:TGs:=fun vs σ H Q=>vs = [] /\ Q σ H
def Zky (t:TG) (u:TGs):TGs:=fun vs σ H Q=>∃ v r,vs = v :: r /\ t v σ H fun σ' H'=>u r σ' H' Q
theorem Zdz:PGs X [] Zlp:=by
 intro pins s σ H vs us Q I r h
 obtain ⟨e,h⟩:=h
 subst e
 cases r
 exact assignInOrder_nil ⟨σ,H,I,h⟩
theorem Z0 {e:Expr} {es:List Expr} {t:TG} {u:TGs} (h1:PG X e t) (h2:PGs X es u)
  (hs:(assignEach (e :: es) X.env).map (·.2) = assign e X.env :: (assignEach es X.env).map (·.2):=by rfl):PGs X (e :: es) (Zky t u):=by
 intro pins s σ H vs us Q I r h
 obtain ⟨v,vr,e1,h⟩:=h
 subst e1
 cases r with
 | cons r rr =>
  rw [hs]
  refine assignInOrder_cons (thn (h1 pins s σ H _ _ _ I r h) fun _ s1 ⟨σ1,H1,I1,q1⟩=>?_)
  exact h2 pins s1 σ1 H1 _ _ Q I1 rr q1
def Zk0 (K:PySem.W.Frag) (n:Nat) (t:TGs):TG:=fun v σ H Q=>∃ a xs,v = .ref a /\ SqT K H a xs /\ xs.length = n /\ t xs σ H Q
theorem Zfd {es:List Expr} {k:Nat} {t:TGs} {n:Nat} (hc:X.calm = true) (h:PGs X es t)
  (hn:(assignEach es X.env).length = n:=by rfl) (hst:(assignEach es X.env).findIdx? (·.1) = none:=by rfl):PG X (.Tuple es k pos) (Zk0 X.K n t):=by
 intro pins s σ H v u Q I r hw
 obtain ⟨a,xs,e1,hq,hl,hw⟩:=hw
 subst e1
 cases r
 obtain ⟨its,rv,ht,hz⟩:=I.tuple hq
 refine assign_Tuple_tuple (I.ok.hd hc) ht (by simp [hn,<- hl,rv.length]) hst fun h' hx=>?_
 have I1:Inv X pins σ H { s with heap:=h' }:=I.kept (t':=s.toks) fun b o e=>hx b o (Nat.ne_of_lt (Heap.lt_size e)) e
 exact h pins _ σ H xs _ Q I1 (by simpa using rv) hw
def Zln (to ti:TE) (t:Zkw):TG:=fun v σ H Q=>to σ H fun o H1=>ti σ H1 fun i H2=>t o i v H2 fun H3=>Q σ H3
theorem Zfx {o i:Expr} {to ti:TE} {t:Zkw} (ho:PE X o to) (hi:PE X i ti) (hs:Zk8 X t)
  (ha:∀ v,assign (.Subscript o i pos) X.env v = (do
   let ov <- holding [v] (eval o X.env)
   let iv <- holding [v,ov] (eval i X.env)
   standAt pos
   holding [v,ov,iv] (setItem ov iv v)
   release [v,ov,iv] []):=by intro _; rfl):PG X (.Subscript o i pos) (Zln to ti t):=by
 intro pins s σ H v u Q I r h
 rw [ha]
 refine wpAny_bind (wpAny_holding (thn (ho pins s σ H _ I h) fun ov s1 ⟨x,H1,I1,r1,q1⟩=>?_))
 refine wpAny_bind (wpAny_holding (thn (hi pins s1 σ H1 _ I1 q1) fun iv s2 ⟨y,H2,I2,r2,q2⟩=>?_))
 refine wpAny_bind (wpAny_standAt (wpAny_bind (wpAny_holding (thn (hs pins s2 σ H2 x y v ov iv u _ I2 r1 r2 r q2) fun _ s3 ⟨H3,I3,q3⟩=>?_))))
 exact wpAny_release ⟨σ,H3,I3,q3⟩
def Zkn (te:TE) (g:TG):TS:=fun D σ H=>te σ H fun x H1=>g x σ H1 D.nx
theorem Ze7 {tg e:Expr} {te:TE} {g:TG} (he:PE X e te) (hg:PG X tg g) (hs:swapsWithSole [tg] e pos.line X.env = pure false:=by rfl) (hw:swappedStores [tg] e X.env = pure none:=by rfl)
  (h1:(assignEach [tg] X.env).map (·.2) = [assign tg X.env]:=by rfl):PS X (.Assign [tg] e pos) (Zkn te g):=by
 intro pins s σ H D I h
 refine wpAny_Assign_stores (thn (he pins s σ H _ I h) fun v s1 ⟨x,H1,I1,r1,q1⟩=>?_) hs hw
 rw [h1]
 exact thn (hg pins s1 σ H1 x v _ I1 r1 q1) fun _ s2 q=>q
theorem Zn {i:Nat} {x:Str} {e:Expr} {te:TE} {pos':Pos} (hN:X.N.Nodup) (hi:X.N[i]? = some x) (hx:Loc X.env.scope x) (he:PE X e te) (hs:swapsWith e (some (.Name x pos')) pos.line X.env = pure false:=by rfl) (hf:X.fn x = true \/ X.env.scope.names.lookup x = some .local:=by first | exact .inl rfl | exact .inr rfl | assumption) :
  PS X (.Assign [.Name x pos'] e pos) (Zkn te (ZfK i)):=by
 intro pins s σ H D I h
 refine wpAny_Assign_Name (thn (he pins s σ H _ I h) fun v s1 ⟨y,H1,I1,r1,q1⟩=>?_) hs
 exact Ze8 I1 hN hi hx r1 (fun s2 I2=>⟨_,H1,I2,q1⟩) hf
end
section
variable {X:Cx} {pos:Pos}
def ZjE (c:TT) (tb:TS):TS:=fun D σ H=>∃ W:Nat -> St -> Hp -> Prop,(∃ m,W m σ H) /\ ∀ m σ H,W m σ H ->
 c σ H fun b H1=>if b = true then ∃ N:St -> Hp -> Prop,(∀ σ' H',N σ' H' -> ∃ m',m' < m /\ W m' σ' H') /\ tb { D with nx:=N,ct:=N,bk:=D.nx } σ H1 else D.nx σ H1
theorem ZdI {c:Expr} {body:List Stmt} {tc:TT} {tb:TS} (hp:PassesOwn (model X.prog X.w) X.A X.env X.xe) (hc:PT X c tc) (hb:PSs X body tb):PS X (.While c body [] pos) (ZjE tc tb):=by
 intro pins s σ H D I h
 obtain ⟨W,⟨m0,w0⟩,turn⟩:=h
 refine wpAny_While (codeAny_whileLoop (fun n s'=>∃ σ' H',Inv X pins σ' H' s' /\ W n σ' H') ?_ m0 ⟨σ,H,I,w0⟩)
 rintro n s1 ⟨σ1,H1,I1,w1⟩
 refine wpAny_passesOwn hp (thn (hc pins s1 σ1 H1 _ I1 (turn n σ1 H1 w1)) fun b s2 ⟨H2,I2,q2⟩=>?_)
 cases b with
 | true =>
  obtain ⟨N,hN,q2⟩:=q2
  rw [if_pos rfl]
  refine wpAny_passesOwn hp (thn (hb pins s2 σ1 H2 _ I2 q2) fun f s3 q3=>?_)
  cases f with
  | next =>
   obtain ⟨σ3,H3,I3,n3⟩:=q3
   obtain ⟨m',hm,w3⟩:=hN σ3 H3 n3
   exact ⟨m',hm,σ3,H3,I3,w3⟩
  | cont =>
   obtain ⟨σ3,H3,I3,n3⟩:=q3
   obtain ⟨m',hm,w3⟩:=hN σ3 H3 n3
   exact ⟨m',hm,σ3,H3,I3,w3⟩
  | brk=>exact q3
  | ret v=>exact q3
 | false =>
  rw [if_neg Bool.false_ne_true]
  exact wpAny_execs_nil ⟨σ1,H2,I2,q2⟩
end
structure It where
 go:Nat -> Hp -> Prop
 yld:Nat -> Hp -> V -> Hp -> Prop
 stop:Nat -> Hp -> Prop
def ZdN (X:Cx) (pins:List (Addr × Obj)) (H:Hp) (b:Addr):Prop :=
 H b = none /\ b ≠ X.env.locals /\ b ∉ X.fs /\ (b ∈ X.ex \/ X.s₀.heap.objs.size <= b) /\ (∀ x c,X.env.cells.lookup x = some c -> c ≠ b) /\ ∀ p ∈ X.pn ++ pins,p.1 ≠ b
theorem Inv.fpOk {X:Cx} {pins:List (Addr × Obj)} {σ : St} {H H':Hp} {s:Shared} {b:Addr} (I:Inv X pins σ H s) (hb:s.heap.objs.size <= b) (hn:H' b = none):ZdN X pins H' b:=by
 refine ⟨hn,Nat.ne_of_gt (Nat.lt_of_lt_of_le I.lt hb),I.nofs hb,.inr (Nat.le_trans I.sz hb),fun x c e z=>?_,fun p hp z=>?_⟩
 ·obtain ⟨v,q⟩:=I.cell x c e
  exact absurd (Nat.lt_of_lt_of_le q.lt (by rw [z]; exact hb)) (Nat.lt_irrefl _)
 ·exact absurd (Nat.lt_of_lt_of_le (Heap.lt_size (I.pin p hp).1) (by rw [z]; exact hb)) (Nat.lt_irrefl _)
structure Turn (P:Program) (w:World) (K:PySem.W.Frag) (tg:Expr) (J:It) (fp:List Addr) (it:Addr) (tn:Nat -> Heap -> Prop):Prop where
 mem:it ∈ fp
 obj:∀ i h,tn i h -> ∀ b ∈ fp,∃ o,h.get? b = some o /\ ∀ v,o.data ≠ .cell v
 keep:∀ i h h',tn i h -> (∀ b ∈ fp,∀ o,h.get? b = some o -> h'.get? b = some o) -> tn i h'
 item:∀ (X:Cx),X.prog = P -> X.w = w -> X.K = K -> X.calm = true -> ∀ (i:Nat) (pins:List (Addr × Obj)) (s:Shared) (σ : St) (H:Hp) (E:Value -> Shared -> Prop),Inv X pins σ H s -> (∀ b ∈ fp,ZdN X pins H b) -> tn i s.heap -> J.go i H ->
  wpAny (model P w) X.A (pyNext (.ref it)) (fun r s1=>∃ u,r = some u /\
   wpAny (model P w) X.A (letOwnedTupleGo tg (.ref it) u) (fun _ s2=>∃ x H',Inv X pins σ H' s2 /\ RelV x u /\ J.yld i H x H' /\ tn (i + 1) s2.heap /\ ∀ b ∈ fp,H' b = none) E s1) E s
 done:∀ (X:Cx),X.prog = P -> X.w = w -> X.K = K -> X.calm = true -> ∀ (i:Nat) (pins:List (Addr × Obj)) (s:Shared) (σ : St) (H:Hp) (E:Value -> Shared -> Prop),Inv X pins σ H s -> (∀ b ∈ fp,ZdN X pins H b) -> tn i s.heap -> J.stop i H ->
  wpAny (model P w) X.A (pyNext (.ref it)) (fun r s1=>r = none /\ Inv X pins σ H s1) E s
 self:∀ (A:Around) (i:Nat) (s:Shared) (Q:Value -> Shared -> Prop) (E:Value -> Shared -> Prop),tn i s.heap -> Q (.ref it) s -> wpAny (model P w) A (pyIter (.ref it)) Q E s
abbrev TI:=St -> Hp -> (It -> Hp -> Prop) -> Prop
def PIE (X:Cx) (pins:List (Addr × Obj)) (σ : St) (tg:Expr) (R:It -> Hp -> Prop) (itv:Value) (s2:Shared):Prop :=
 ∃ (it:Addr) (fp:List Addr) (tn:Nat -> Heap -> Prop) (J:It) (H':Hp),itv = .ref it /\ Inv X pins σ H' s2 /\ Turn X.prog X.w X.K tg J fp it tn /\ tn 0 s2.heap /\ (∀ b ∈ fp,ZdN X pins H' b) /\ R J H'
def PI (X:Cx) (tg iter:Expr) (wi:TI):Prop :=
 ∀ (pins:List (Addr × Obj)) (s:Shared) (σ : St) (H:Hp) (R:It -> Hp -> Prop),Inv X pins σ H s -> wi σ H R ->
  wpAny (model X.prog X.w) X.A (eval iter X.env) (fun v s1=>wpAny (model X.prog X.w) X.A (pyIter v) (PIE X pins σ tg R) X.xe s1) X.xe s
theorem Zh8 {M:Model} {A:Around} {E:Value -> Shared -> Prop} {s:Shared} {tg:Expr} {it:Addr} {u:Value} {o:Obj} {n:String} {vs:Array Value} {Q:Unit -> Shared -> Prop} (ho:s.heap.get? it = some o) (hc:o.cls = .type n) (hd:o.data = .fields vs)
    (hn:["enumerate","zip","dict_itemiterator","dict_reverseitemiterator","odict_iterator","itertools.zip_longest","itertools.pairwise"].contains n = false) (hQ:Q () s):wpAny M A (letOwnedTupleGo tg (.ref it) u) Q E s:=by
  unfold letOwnedTupleGo
  cases tg <;> first
    | exact wpAny_pure hQ
    | (cases u <;> first
        | exact wpAny_pure hQ
        | (refine wpAny_bind (wpAny_load ho ?_)
           rw [hc,hd]
           show wpAny M A (if (["enumerate","zip","dict_itemiterator","dict_reverseitemiterator","odict_iterator","itertools.zip_longest","itertools.pairwise"].contains n && vs[0]? == some (rawInt _)) = true then _ else _) Q E s
           rw [if_neg (by intro h; rw [hn,Bool.false_and] at h; cases h)]
           exact wpAny_pure hQ))
def Itl (K:PySem.W.Frag) (a:Addr):It :=
 ⟨fun i H=>∃ xs x,SqL K H a xs /\ xs[i]? = some x,fun i H x H'=>H' = H /\ ∀ xs,SqL K H a xs -> xs[i]? = some x,fun i H=>∃ xs,SqL K H a xs /\ xs.length <= i⟩
def Itt (K:PySem.W.Frag) (a:Addr):It :=
 ⟨fun i H=>∃ xs x,SqT K H a xs /\ xs[i]? = some x,fun i H x H'=>H' = H /\ ∀ xs,SqT K H a xs -> xs[i]? = some x,fun i H=>∃ xs,SqT K H a xs /\ xs.length <= i⟩
def Itr (lo:Int) (n:Nat):It:=⟨fun i _=>i < n,fun i H x H'=>H' = H /\ x = .int (lo + i),fun i _=>n <= i⟩
theorem Zhm {P:Program} {w:World} {K:PySem.W.Frag} {tg:Expr} (a it:Addr):Turn P w K tg (Itl K a) [it] it (fun i h=>h.IsListIter it a i) where
 mem:=by simp
 obj:=fun i h st b hb=>by
  have e:b = it:=by simpa using hb
  subst e
  obtain ⟨o,e,c,d⟩:=st
  exact ⟨o,e,fun v z=>by rw [d] at z; cases z⟩
 keep:=fun i h h' st k=>st.at fun o e=>k it (by simp) o e
 item:=by
  intro X hP hw hK hc i pins s σ H E I hf st hg
  subst hP hw hK
  obtain ⟨xs,x,hq,hx⟩:=hg
  obtain ⟨its,rv,p,hz⟩:=I.list hq
  obtain ⟨u,hu,ru⟩:=rv.get hx
  obtain ⟨f0,f1,f2,f3,f4,f5⟩:=hf it (by simp)
  refine wpAny_pyNext_list_item st p.isList (x:=u) (by simpa using hu) fun h' st' sb=>?_
  have I1:Inv X pins σ H { s with heap:=h' }:=I.turned (t':=s.toks) (fun b o hb e=>(sb.2 b hb).trans e) f0 f1 f3 f4 f5
  obtain ⟨o,e,c,d⟩:=id st'
  exact ⟨u,rfl,Zh8 (s:={ s with heap:=h' }) e c d (by decide) ⟨x,H,I1,ru,⟨rfl,fun ys hy=>by rw [I.list_inj hy hq]; exact hx⟩,st',fun b hb=>(hf b hb).1⟩⟩
 done:=by
  intro X hP hw hK hc i pins s σ H E I hf st hg
  subst hP hw hK
  obtain ⟨xs,hq,hx⟩:=hg
  obtain ⟨its,rv,p,hz⟩:=I.list hq
  obtain ⟨f0,f1,f2,f3,f4,f5⟩:=hf it (by simp)
  have hl:=rv.length
  exact wpAny_pyNext_list_end (I.ok.hd hc) st p.isList (by simp; lia) fun h' eb=>⟨rfl,I.turned (t':=s.toks) (fun b o hb e=>eb b o hb e) f0 f1 f3 f4 f5⟩
 self:=fun _ _ _ _ _ st h=>wpAny_pyIter_listiter st h
theorem Zge {P:Program} {w:World} {K:PySem.W.Frag} {tg:Expr} (a it:Addr):Turn P w K tg (Itt K a) [it] it (fun i h=>h.IsTupleIter it a i) where
 mem:=by simp
 obj:=fun i h st b hb=>by
  have e:b = it:=by simpa using hb
  subst e
  obtain ⟨o,e,c,d⟩:=st
  exact ⟨o,e,fun v z=>by rw [d] at z; cases z⟩
 keep:=fun i h h' st k=>st.at fun o e=>k it (by simp) o e
 item:=by
  intro X hP hw hK hc i pins s σ H E I hf st hg
  subst hP hw hK
  obtain ⟨xs,x,hq,hx⟩:=hg
  obtain ⟨its,rv,p,hz⟩:=I.tuple hq
  obtain ⟨u,hu,ru⟩:=rv.get hx
  obtain ⟨f0,f1,f2,f3,f4,f5⟩:=hf it (by simp)
  refine wpAny_pyNext_tuple_item st (show s.heap.IsTuple a its.toArray from p) (x:=u) (by simpa using hu) fun h' st' sb=>?_
  have I1:Inv X pins σ H { s with heap:=h' }:=I.turned (t':=s.toks) (fun b o hb e=>(sb.2 b hb).trans e) f0 f1 f3 f4 f5
  obtain ⟨o,e,c,d⟩:=id st'
  exact ⟨u,rfl,Zh8 (s:={ s with heap:=h' }) e c d (by decide) ⟨x,H,I1,ru,⟨rfl,fun ys hy=>by rw [I.tuple_inj hy hq]; exact hx⟩,st',fun b hb=>(hf b hb).1⟩⟩
 done:=by
  intro X hP hw hK hc i pins s σ H E I hf st hg
  subst hP hw hK
  obtain ⟨xs,hq,hx⟩:=hg
  obtain ⟨its,rv,p,hz⟩:=I.tuple hq
  obtain ⟨f0,f1,f2,f3,f4,f5⟩:=hf it (by simp)
  have hl:=rv.length
  exact wpAny_pyNext_tuple_end (I.ok.hd hc) st (show s.heap.IsTuple a its.toArray from p) (by simp; lia) fun h' eb=>⟨rfl,I.turned (t':=s.toks) (fun b o hb e=>eb b o hb e) f0 f1 f3 f4 f5⟩
 self:=fun _ _ _ _ _ st h=>wpAny_pyIter_tupleiter st h
theorem ZfO {P:Program} {w:World} {K:PySem.W.Frag} {tg:Expr} (it:Addr) (lo:Int) (n:Nat):Turn P w K tg (Itr lo n) [it] it (fun i h=>IsRangeIter h it (lo + (i:Nat) * 1) ((n:Int) - (i:Nat)) 1) where
 mem:=by simp
 obj:=fun i h st b hb=>by
  have e:b = it:=by simpa using hb
  subst e
  exact ⟨_,st,fun v z=>by
   have z':Data.fields _ = Data.cell v:=z
   cases z'⟩
 keep:=fun i h h' st k=>k it (by simp) _ st
 item:=by
  intro X hP hw hK hc i pins s σ H E I hf st hg
  subst hP hw hK
  obtain ⟨f0,f1,f2,f3,f4,f5⟩:=hf it (by simp)
  have W:=Walks.range (prog:=X.prog) (w:=X.w) (I.ok.hd hc) it lo 1 n
  refine W.item i s _ _ hg st fun v h' tk hv st' kk=>?_
  obtain ⟨t,rfl⟩:=hv
  have I1:Inv X pins σ H { s with heap:=h',toks:=tk }:=I.turned (fun b o hb e=>kk b o (by simpa using hb) e) f0 f1 f3 f4 f5
  refine ⟨_,rfl,Zh8 (s:={ s with heap:=h',toks:=tk }) (n := "range_iterator") st' rfl rfl (by decide) ⟨.int (lo + i),H,I1,⟨t,?_⟩,⟨rfl,rfl⟩,st',fun b hb=>(hf b hb).1⟩⟩
  rw [Int.mul_one]
 done:=by
  intro X hP hw hK hc i pins s σ H E I hf st hg
  subst hP hw hK
  obtain ⟨f0,f1,f2,f3,f4,f5⟩:=hf it (by simp)
  exact wpAny_pyNext_range_end (I.ok.hd hc) st (by have:n <= i:=hg; lia) fun h' eb=>⟨rfl,I.turned (t':=s.toks) (fun b o hb e=>eb b o hb e) f0 f1 f3 f4 f5⟩
 self:=fun _ _ _ _ _ st h=>wpAny_pyIter_rangeiter st h
end L2
namespace L2
open PySem PySem.Spec PyProof.Rows
section
variable {X:Cx} {tg:Expr}
def ZkI (K:PySem.W.Frag) (tl:TE):TI:=fun σ H R=>tl σ H fun x H1=>∃ a,x = .ref a /\ (∃ xs,SqL K H1 a xs) /\ R (Itl K a) H1
def Zlq (K:PySem.W.Frag) (tl:TE):TI:=fun σ H R=>tl σ H fun x H1=>∃ a,x = .ref a /\ (∃ xs,SqT K H1 a xs) /\ R (Itt K a) H1
theorem ZbB {l:Expr} {tl:TE} (hl:PE X l tl):PI X tg l (ZkI X.K tl):=by
 intro pins s σ H R I h
 refine thn (hl pins s σ H _ I h) fun v s1 ⟨x,H1,I1,r1,q1⟩=>?_
 obtain ⟨a,e,⟨xs,hq⟩,q⟩:=q1
 subst e
 cases r1
 obtain ⟨its,rv,p,hz⟩:=I1.list hq
 refine wpAny_pyIter_list p.isList ?_
 refine ⟨s1.heap.objs.size,[s1.heap.objs.size],_,_,H1,rfl,I1.kept (t':=s1.toks) fun b o e=>Heap.get?_push_of_some _ e,Zhm a _,⟨_,Heap.get?_push_size _ rfl,rfl,rfl⟩,fun b hb=>?_,q⟩
 have e:b = s1.heap.objs.size:=by simpa using hb
 subst e
 exact I1.fpOk (Nat.le_refl _) (I1.hok.fresh (Nat.le_refl _))
theorem ZaO {l:Expr} {tl:TE} (hl:PE X l tl):PI X tg l (Zlq X.K tl):=by
 intro pins s σ H R I h
 refine thn (hl pins s σ H _ I h) fun v s1 ⟨x,H1,I1,r1,q1⟩=>?_
 obtain ⟨a,e,⟨xs,hq⟩,q⟩:=q1
 subst e
 cases r1
 obtain ⟨its,rv,p,hz⟩:=I1.tuple hq
 refine wpAny_pyIter_tuple (show s1.heap.IsTuple a its.toArray from p) ?_
 refine ⟨s1.heap.objs.size,[s1.heap.objs.size],_,_,H1,rfl,I1.kept (t':=s1.toks) fun b o e=>Heap.get?_push_of_some _ e,Zge a _,⟨_,Heap.get?_push_size _ rfl,rfl,rfl⟩,fun b hb=>?_,q⟩
 have e:b = s1.heap.objs.size:=by simpa using hb
 subst e
 exact I1.fpOk (Nat.le_refl _) (I1.hok.fresh (Nat.le_refl _))
theorem Zfm {pins:List (Addr × Obj)} {σ : St} {H:Hp} {s:Shared} {R:It -> Hp -> Prop} {E:Value -> Shared -> Prop} {lo hi:Int} {t u v:Tok} {tk:Nat} (I:Inv X pins σ H s) (h1 : -(2 ^ 62) <= lo) (h2:lo < 2 ^ 62) (h3 : -(2 ^ 62) <= hi) (h4:hi < 2 ^ 62)
  (q:R (Itr lo (hi - lo).toNat) H):wpAny (model X.prog X.w) X.A (pyIter (.ref s.heap.objs.size)) (PIE X pins σ tg R) E { s with heap:=s.heap.push { cls:=.type "range",data:=.fields #[.int lo t,.int hi u,.int 1 v] },toks:=tk }:=by
 refine wpAny_pyIter_range (IsRange.new ..) (small_one h1 h2 h3 h4) ?_
 have I1:Inv X pins σ H { s with heap:=s.heap.push { cls:=.type "range",data:=.fields #[.int lo t,.int hi u,.int 1 v] },toks:=tk }:=I.kept fun b o e=>Heap.get?_push_of_some _ e
 refine ⟨(s.heap.push { cls:=.type "range",data:=.fields #[.int lo t,.int hi u,.int 1 v] }).objs.size,[(s.heap.push { cls:=.type "range",data:=.fields #[.int lo t,.int hi u,.int 1 v] }).objs.size],_,_,H,rfl,
  I1.kept (t':=tk) fun b o e=>Heap.get?_push_of_some _ e,ZfO _ lo (hi - lo).toNat,?_,fun b hb=>?_,q⟩
 ·have e1:lo + ((0:Nat):Int) * 1 = lo:=by simp
  have e2:(((hi - lo).toNat:Nat):Int) - ((0:Nat):Int) = Builtin.Range.rangeSize lo hi 1:=by rw [rangeSize_one]; split <;> lia
  show IsRangeIter _ _ (lo + ((0:Nat):Int) * 1) ((((hi - lo).toNat:Nat):Int) - ((0:Nat):Int)) 1
  rw [e1,e2]
  exact Heap.get?_push_size _ rfl
 ·have e:b = (s.heap.push { cls:=.type "range",data:=.fields #[.int lo t,.int hi u,.int 1 v] }).objs.size:=by simpa using hb
  subst e
  exact I1.fpOk (Nat.le_refl _) (I1.hok.fresh (Nat.le_refl _))
def ZkM (ta:TA):TI:=fun σ H R=>ta σ H fun vs H1=>∃ j:Int,vs = [.int j] /\ -(2 ^ 62) <= j /\ j < 2 ^ 62 /\ R (Itr 0 j.toNat) H1
def ZkY (ta:TA):TI:=fun σ H R=>ta σ H fun vs H1=>∃ i j:Int,vs = [.int i,.int j] /\ (-(2 ^ 62) <= i /\ i < 2 ^ 62 /\ -(2 ^ 62) <= j /\ j < 2 ^ 62) /\ R (Itr i (j - i).toNat) H1
theorem Z4 {a:Expr} {ta:TA} {p pos:Pos} (hg:Gl X "range") (hm:X.mg "range" = none) (ha:PA X [a] ta) (hs:starEach [a] X.env = [(false,eval a X.env)]:=by rfl):PI X tg (.Call (.Name "range" p) [a] [] pos) (ZkM ta):=by
 intro pins s σ H R I h
 refine Call_ (Zcc I hg hm boot_range (PyProof.Rows.callWith_type1 (thn (ha pos pins s σ H _ I h) fun us s1 ⟨vs,H1,I1,r1,q1⟩=>?_) hs rfl))
 obtain ⟨j,e,q1,q2,q⟩:=q1
 subst e
 cases r1 with
 | cons r rr =>
  cases rr
  obtain ⟨t,rfl⟩:=r
  exact call_range_1 (Zfm I1 (by lia) (by lia) q1 q2 (by simpa using q))
theorem ZhL {a b:Expr} {ta:TA} {p pos:Pos} (hg:Gl X "range") (hm:X.mg "range" = none) (ha:PA X [a,b] ta) (hs:starEach [a,b] X.env = [(false,eval a X.env),(false,eval b X.env)]:=by rfl) (hs2:starEach [b] X.env = [(false,eval b X.env)]:=by rfl) :
  PI X tg (.Call (.Name "range" p) [a,b] [] pos) (ZkY ta):=by
 intro pins s σ H R I h
 refine Call_ (Zcc I hg hm boot_range (PyProof.Rows.callWith_type1 (thn (ha pos pins s σ H _ I h) fun us s1 ⟨vs,H1,I1,r1,q1⟩=>?_) (by rw [hs,hs2]) (by rw [hs2]; rfl)))
 obtain ⟨i,j,e,⟨q1,q2,q3,q4⟩,q⟩:=q1
 subst e
 cases r1 with
 | cons r rr =>
  cases rr with
  | cons r' rr =>
   cases rr
   obtain ⟨t,rfl⟩:=r
   obtain ⟨t',rfl⟩:=r'
   exact call_range_2 (Zfm I1 q1 q2 q3 q4 q)
def ZlD (wi:TI) (g:TG) (tb:TS):TS:=fun D σ H=>wi σ H fun J H1=>∃ W:Nat -> Nat -> St -> Hp -> Prop,(∃ m,W 0 m σ H1) /\ ∀ i m σ H,W i m σ H ->
 (J.stop i H /\ D.nx σ H) \/ (J.go i H /\ ∃ N:St -> Hp -> Prop,(∀ σ' H',N σ' H' -> ∃ m',m' < m /\ W (i + 1) m' σ' H') /\ ∀ x H',J.yld i H x H' -> g x σ H' fun σ2 H2=>tb { D with nx:=N,ct:=N,bk:=D.nx } σ2 H2)
def Zff (fp:List Addr) (h:Heap):List (Addr × Obj):=fp.filterMap fun b=>(h.get? b).map fun o=>(b,o)
theorem Zao {fp:List Addr} {h:Heap} {b:Addr} {o:Obj} (hb:b ∈ fp) (e:h.get? b = some o):(b,o) ∈ Zff fp h:=List.mem_filterMap.mpr ⟨b,hb,by rw [e]; rfl⟩
theorem Zgl {fp:List Addr} {h:Heap} {p:Addr × Obj} (hp:p ∈ Zff fp h):p.1 ∈ fp /\ h.get? p.1 = some p.2:=by
 obtain ⟨b,hb,e⟩:=List.mem_filterMap.mp hp
 cases q:h.get? b with
 | none=>rw [q] at e; cases e
 | some o =>
  rw [q] at e
  have e':(b,o) = p:=Option.some.inj e
  subst e'
  exact ⟨hb,q⟩
theorem Inv.pinned {pins:List (Addr × Obj)} {σ : St} {H:Hp} {s:Shared} {fp:List Addr} (I:Inv X pins σ H s) (hf:∀ b ∈ fp,ZdN X pins H b) (ho:∀ b ∈ fp,∃ o,s.heap.get? b = some o /\ ∀ v,o.data ≠ .cell v):Inv X (pins ++ Zff fp s.heap) σ H s :=
 I.pins_of fun p hp=>(List.mem_append.mp hp).elim (fun z=>I.pin p (List.mem_append_right _ z)) fun z=>by
  obtain ⟨hb,e⟩:=Zgl z
  obtain ⟨f0,f1,f2,_⟩:=hf p.1 hb
  obtain ⟨o,e',d⟩:=ho p.1 hb
  rw [e] at e'; cases e'
  exact ⟨e,f0,f1,f2,d⟩
theorem Inv.unpinned {pins pl:List (Addr × Obj)} {σ : St} {H:Hp} {s:Shared} (I:Inv X (pins ++ pl) σ H s):Inv X pins σ H s:=I.pins_of fun p hp=>I.pin p (List.mem_append_right _ (List.mem_append_left _ hp))
theorem ZaD {iter:Expr} {body:List Stmt} {wi:TI} {g:TG} {tb:TS} {pos:Pos} (hp:PassesOwn (model X.prog X.w) X.A X.env X.xe) (hc:X.calm = true) (hi:PI X tg iter wi) (hg:PG X tg g) (hb:PSs X body tb)
  (hs:∀ x,foldedSetIterable iter X.env x = pure x:=by intro _; rfl):PS X (.For tg iter body [] pos) (ZlD wi g tb):=by
 intro pins s σ H D I h
 refine wpAny_For (thn (hi pins s σ H _ I h) fun v s1 h1=>thn h1 fun itv s2 h2=>?_) hs
 obtain ⟨it,fp,tn,J,H2,e,I2,T,st2,f2,W,⟨m0,w0⟩,turn⟩:=h2
 subst e
 have stat:∀ {H':Hp},(∀ b ∈ fp,H' b = none) -> ∀ b ∈ fp,ZdN X pins H' b:=fun hn b hb=>⟨hn b hb,(f2 b hb).2⟩
 refine codeAny_forLoop_any (fun n s'=>∃ i σ' H',Inv X pins σ' H' s' /\ tn i s'.heap /\ (∀ b ∈ fp,H' b = none) /\ W i n σ' H') ?_ m0 ⟨0,σ,H2,I2,st2,fun b hb=>(f2 b hb).1,w0⟩
 rintro n s3 ⟨i,σ3,H3,I3,st3,fr3,w3⟩
 rcases turn i n σ3 H3 w3 with ⟨stop,qn⟩ | ⟨go,N,hN,step⟩
 ·refine wpAny_passesOwn hp (thn (T.done X rfl rfl rfl hc i pins s3 σ3 H3 X.xe I3 (stat fr3) st3 stop) fun r s4 ⟨hr,I4⟩=>?_)
  subst hr
  exact wpAny_execs_nil ⟨σ3,H3,I4,qn⟩
 ·refine wpAny_passesOwn hp (thn (T.item X rfl rfl rfl hc i pins s3 σ3 H3 X.xe I3 (stat fr3) st3 go) fun r s4 ⟨u,hr,h4⟩=>?_)
  subst hr
  refine wpAny_passesOwn hp (thn h4 fun _ s5 ⟨x,H5,I5,r5,y5,st5,fr5⟩=>?_)
  have I5':=I5.pinned (stat fr5) (T.obj _ _ st5)
  refine wpAny_passesOwn hp (thn (hg _ s5 σ3 H5 x u _ I5' r5 (step x H5 y5)) fun _ s6 ⟨σ6,H6,I6,q6⟩=>?_)
  refine wpAny_passesOwn hp (thn (hb _ s6 σ6 H6 _ I6 q6) fun f s7 q7=>?_)
  have again:∀ {σ7:St} {H7:Hp},Inv X (pins ++ Zff fp s5.heap) σ7 H7 s7 -> N σ7 H7 -> ∃ m,m < n /\ ∃ i σ' H',Inv X pins σ' H' s7 /\ tn i s7.heap /\ (∀ b ∈ fp,H' b = none) /\ W i m σ' H':=fun {σ7 H7} I7 n7=>by
   obtain ⟨m',hm,w7⟩:=hN σ7 H7 n7
   refine ⟨m',hm,i + 1,σ7,H7,I7.unpinned,T.keep _ _ _ st5 fun b hb o e=>(I7.pin (b,o) (List.mem_append_right _ (List.mem_append_right _ (Zao hb e)))).1,fun b hb=>?_,w7⟩
   obtain ⟨o,e,d⟩:=T.obj _ _ st5 b hb
   exact (I7.pin (b,o) (List.mem_append_right _ (List.mem_append_right _ (Zao hb e)))).2.1
  cases f with
  | next=>obtain ⟨σ7,H7,I7,n7⟩:=q7; exact again I7 n7
  | cont=>obtain ⟨σ7,H7,I7,n7⟩:=q7; exact again I7 n7
  | brk=>obtain ⟨σ7,H7,I7,q7⟩:=q7; exact ⟨σ7,H7,I7.unpinned,q7⟩
  | ret v=>obtain ⟨x7,σ7,H7,I7,r7,q7⟩:=q7; exact ⟨x7,σ7,H7,I7.unpinned,r7,q7⟩
end
theorem ZdG {K:PySem.W.Frag} {a:Addr} {xs:List V} {g:TG} {tb:TS} {D:Ends} {σ : St} {H:Hp} (Pv:Nat -> St -> Hp -> Prop) (h0:Pv 0 σ H) (hl:∀ i σ H,i <= xs.length -> Pv i σ H -> SqL K H a xs)
  (hs:∀ i x σ H,xs[i]? = some x -> Pv i σ H -> g x σ H fun σ2 H2=>tb { D with nx:=Pv (i + 1),ct:=Pv (i + 1),bk:=D.nx } σ2 H2) (hd:∀ σ H,Pv xs.length σ H -> D.nx σ H) :
  ∃ W:Nat -> Nat -> St -> Hp -> Prop,(∃ m,W 0 m σ H) /\ ∀ i m σ H,W i m σ H ->
   ((Itl K a).stop i H /\ D.nx σ H) \/ ((Itl K a).go i H /\ ∃ N:St -> Hp -> Prop,(∀ σ' H',N σ' H' -> ∃ m',m' < m /\ W (i + 1) m' σ' H') /\ ∀ x H',(Itl K a).yld i H x H' -> g x σ H' fun σ2 H2=>tb { D with nx:=N,ct:=N,bk:=D.nx } σ2 H2):=by
 refine ⟨fun i m σ H=>m = xs.length - i /\ i <= xs.length /\ Pv i σ H,⟨xs.length,by simp,Nat.zero_le _,h0⟩,?_⟩
 rintro i m σ H ⟨rfl,hi,p⟩
 have q:=hl i σ H hi p
 by_cases hlt:i < xs.length
 ·refine .inr ⟨⟨xs,xs[i],q,by simp [hlt]⟩,Pv (i + 1),fun σ' H' p'=>⟨xs.length - (i + 1),by lia,rfl,hlt,p'⟩,fun x H' y=>?_⟩
  obtain ⟨e,y⟩:=y
  subst e
  exact hs i x σ _ (y xs q) p
 ·have e:i = xs.length:=by lia
  subst e
  exact .inl ⟨⟨xs,q,Nat.le_refl _⟩,hd σ H p⟩
theorem Zdp {K:PySem.W.Frag} {a:Addr} {xs:List V} {g:TG} {tb:TS} {D:Ends} {σ : St} {H:Hp} (Pv:Nat -> St -> Hp -> Prop) (h0:Pv 0 σ H) (hl:∀ i σ H,i <= xs.length -> Pv i σ H -> SqT K H a xs)
  (hs:∀ i x σ H,xs[i]? = some x -> Pv i σ H -> g x σ H fun σ2 H2=>tb { D with nx:=Pv (i + 1),ct:=Pv (i + 1),bk:=D.nx } σ2 H2) (hd:∀ σ H,Pv xs.length σ H -> D.nx σ H) :
  ∃ W:Nat -> Nat -> St -> Hp -> Prop,(∃ m,W 0 m σ H) /\ ∀ i m σ H,W i m σ H ->
   ((Itt K a).stop i H /\ D.nx σ H) \/ ((Itt K a).go i H /\ ∃ N:St -> Hp -> Prop,(∀ σ' H',N σ' H' -> ∃ m',m' < m /\ W (i + 1) m' σ' H') /\ ∀ x H',(Itt K a).yld i H x H' -> g x σ H' fun σ2 H2=>tb { D with nx:=N,ct:=N,bk:=D.nx } σ2 H2):=by
 refine ⟨fun i m σ H=>m = xs.length - i /\ i <= xs.length /\ Pv i σ H,⟨xs.length,by simp,Nat.zero_le _,h0⟩,?_⟩
 rintro i m σ H ⟨rfl,hi,p⟩
 have q:=hl i σ H hi p
 by_cases hlt:i < xs.length
 ·refine .inr ⟨⟨xs,xs[i],q,by simp [hlt]⟩,Pv (i + 1),fun σ' H' p'=>⟨xs.length - (i + 1),by lia,rfl,hlt,p'⟩,fun x H' y=>?_⟩
  obtain ⟨e,y⟩:=y
  subst e
  exact hs i x σ _ (y xs q) p
 ·have e:i = xs.length:=by lia
  subst e
  exact .inl ⟨⟨xs,q,Nat.le_refl _⟩,hd σ H p⟩
theorem Zay {lo:Int} {n:Nat} {g:TG} {tb:TS} {D:Ends} {σ : St} {H:Hp} (Pv:Nat -> St -> Hp -> Prop) (h0:Pv 0 σ H)
  (hs:∀ i σ H,i < n -> Pv i σ H -> g (.int (lo + i)) σ H fun σ2 H2=>tb { D with nx:=Pv (i + 1),ct:=Pv (i + 1),bk:=D.nx } σ2 H2) (hd:∀ σ H,Pv n σ H -> D.nx σ H) :
  ∃ W:Nat -> Nat -> St -> Hp -> Prop,(∃ m,W 0 m σ H) /\ ∀ i m σ H,W i m σ H ->
   ((Itr lo n).stop i H /\ D.nx σ H) \/ ((Itr lo n).go i H /\ ∃ N:St -> Hp -> Prop,(∀ σ' H',N σ' H' -> ∃ m',m' < m /\ W (i + 1) m' σ' H') /\ ∀ x H',(Itr lo n).yld i H x H' -> g x σ H' fun σ2 H2=>tb { D with nx:=N,ct:=N,bk:=D.nx } σ2 H2):=by
 refine ⟨fun i m σ H=>m = n - i /\ i <= n /\ Pv i σ H,⟨n,by simp,Nat.zero_le _,h0⟩,?_⟩
 rintro i m σ H ⟨rfl,hi,p⟩
 by_cases hlt:i < n
 ·refine .inr ⟨hlt,Pv (i + 1),fun σ' H' p'=>⟨n - (i + 1),by lia,rfl,hlt,p'⟩,fun x H' y=>?_⟩
  obtain ⟨e,y⟩:=y
  subst e y
  exact hs i σ _ hlt p
 ·have e:i = n:=by lia
  subst e
  exact .inl ⟨Nat.le_refl _,hd σ H p⟩
end L2
namespace L2
open PySem PySem.Spec PyProof.Rows
abbrev R2:=V -> V -> Hp -> VK -> Prop
def OpR (X:Cx) (f:Value -> Value -> Sem Value) (r:R2):Prop :=
 ∀ (pins:List (Addr × Obj)) (s:Shared) (σ : St) (H:Hp) (x y:V) (v u:Value) (Q:VK),Inv X pins σ H s -> RelV x v -> RelV y u -> r x y H Q ->
  wpAny (model X.prog X.w) X.A (f v u) (EP X pins σ Q) X.xe s
def UnR (X:Cx) (f:Value -> Sem Value) (r:V -> Hp -> VK -> Prop):Prop :=
 ∀ (pins:List (Addr × Obj)) (s:Shared) (σ : St) (H:Hp) (x:V) (v:Value) (Q:VK),Inv X pins σ H s -> RelV x v -> r x H Q ->
  wpAny (model X.prog X.w) X.A (f v) (EP X pins σ Q) X.xe s
def ZcF (X:Cx) (f:Value) (r:List V -> Hp -> VK -> Prop):Prop :=
 ∀ (pins:List (Addr × Obj)) (s:Shared) (σ : St) (H:Hp) (xs:List V) (us:List Value) (Q:VK),Inv X pins σ H s -> Vals xs us -> r xs H Q ->
  wpAny (model X.prog X.w) X.A (call f us) (EP X pins σ Q) X.xe s
def Zlv (X:Cx) (r:V -> Hp -> (Bool -> Hp -> Prop) -> Prop):Prop :=
 ∀ (pins:List (Addr × Obj)) (s:Shared) (σ : St) (H:Hp) (x:V) (v:Value) (Q:Bool -> Hp -> Prop),Inv X pins σ H s -> RelV x v -> r x H Q ->
  wpAny (model X.prog X.w) X.A (truthy v) (TP X pins σ Q) X.xe s
def tOp (r:R2) (ta tb:TE):TE:=fun σ H Q=>ta σ H fun x H1=>tb σ H1 fun y H2=>r x y H2 Q
def tUn (r:V -> Hp -> VK -> Prop) (ta:TE):TE:=fun σ H Q=>ta σ H fun x H1=>r x H1 Q
def rI (C:Int -> Int -> Prop) (g:Int -> Int -> V):R2:=fun x y H Q=>∃ i j,x = .int i /\ y = .int j /\ C i j /\ Q (g i j) H
def rI0 (g:Int -> Int -> V):R2:=fun x y H Q=>∃ i j,x = .int i /\ y = .int j /\ Q (g i j) H
def rU (g:Int -> V):V -> Hp -> VK -> Prop:=fun x H Q=>∃ i,x = .int i /\ Q (g i) H
section
variable {X:Cx} {a b c:Expr} {ta tb tc:TE} {pos:Pos}
theorem Zkr (ha:PE X a ta) (hb:PE X b tb) {pins:List (Addr × Obj)} {s:Shared} {σ : St} {H:Hp} {R:V -> V -> Hp -> Prop} (I:Inv X pins σ H s)
  (h:ta σ H fun x H1=>tb σ H1 fun y H2=>R x y H2) {Q:Value -> Shared -> Prop} {f:Value -> Value -> Sem Value}
  (hf:∀ v u s2 x y H2,Inv X pins σ H2 s2 -> RelV x v -> RelV y u -> R x y H2 -> wpAny (model X.prog X.w) X.A (f v u) Q X.xe s2) :
  wpAny (model X.prog X.w) X.A (eval a X.env) (fun v s₁=>wpAny (model X.prog X.w) X.A (eval b X.env) (fun u s₂=>wpAny (model X.prog X.w) X.A (f v u) Q X.xe s₂) X.xe s₁) X.xe s:=by
 refine thn (ha pins s σ H _ I h) fun v s1 ⟨x,H1,I1,r1,q1⟩=>?_
 refine thn (hb pins s1 σ H1 _ I1 q1) fun u s2 ⟨y,H2,I2,r2,q2⟩=>?_
 exact hf v u s2 x y H2 I2 r1 r2 q2
theorem Zm {op:Operator} {r:R2} (ho:OpR X (binaryOp op) r) (ha:PE X a ta) (hb:PE X b tb):PE X (.BinOp a op b pos) (tOp r ta tb):=by
 intro pins s σ H Q I h
 exact wpAny_BinOp (Zkr ha hb I h fun v u s2 x y H2 I2 rx ry q=>ho pins s2 σ H2 x y v u Q I2 rx ry q)
theorem Zkk {op:UnaryOp} {r:V -> Hp -> VK -> Prop} (ho:UnR X (unaryOp op) r) (ha:PE X a ta):PE X (.UnaryOp op a pos) (tUn r ta):=by
 intro pins s σ H Q I h
 exact UnaryOp_ (thn (ha pins s σ H _ I h) fun v s1 ⟨x,H1,I1,r1,q1⟩=>ho pins s1 σ H1 x v Q I1 r1 q1)
theorem opI {f:Value -> Value -> Sem Value} {C:Int -> Int -> Prop} {g:Int -> Int -> Int}
  (rule:∀ (i j:Int) (t u:Tok) (s:Shared) (Q:Value -> Shared -> Prop) (E:Value -> Shared -> Prop),C i j -> Q (.int (g i j) s.toks) { s with toks:=s.toks + 1 } -> wpAny (model X.prog X.w) X.A (f (.int i t) (.int j u)) Q E s) :
  OpR X f (rI C fun i j=>.int (g i j)):=by
 intro pins s σ H x y v u Q I rx ry h
 obtain ⟨i,j,rfl,rfl,hc,q⟩:=h
 obtain ⟨t,rfl⟩:=rx
 obtain ⟨t',rfl⟩:=ry
 exact rule i j t t' s _ _ hc ⟨.int (g i j),H,I.tok _,⟨_,rfl⟩,q⟩
theorem Zk6 {f:Value -> Value -> Sem Value} {g:Int -> Int -> Int}
  (rule:∀ (i j:Int) (t u:Tok) (s:Shared) (Q:Value -> Shared -> Prop) (E:Value -> Shared -> Prop),Q (.int (g i j) s.toks) { s with toks:=s.toks + 1 } -> wpAny (model X.prog X.w) X.A (f (.int i t) (.int j u)) Q E s) :
  OpR X f (rI0 fun i j=>.int (g i j)):=by
 intro pins s σ H x y v u Q I rx ry h
 obtain ⟨i,j,rfl,rfl,q⟩:=h
 obtain ⟨t,rfl⟩:=rx
 obtain ⟨t',rfl⟩:=ry
 exact rule i j t t' s _ _ ⟨.int (g i j),H,I.tok _,⟨_,rfl⟩,q⟩
theorem Zk2 {f:Value -> Value -> Sem Value} {g:Int -> Int -> Bool}
  (rule:∀ (i j:Int) (t u:Tok) (s:Shared) (Q:Value -> Shared -> Prop) (E:Value -> Shared -> Prop),Q (.bool (g i j)) s -> wpAny (model X.prog X.w) X.A (f (.int i t) (.int j u)) Q E s) :
  OpR X f (rI0 fun i j=>.bl (g i j)):=by
 intro pins s σ H x y v u Q I rx ry h
 obtain ⟨i,j,rfl,rfl,q⟩:=h
 obtain ⟨t,rfl⟩:=rx
 obtain ⟨t',rfl⟩:=ry
 exact rule i j t t' s _ _ ⟨.bl (g i j),H,I,rfl,q⟩
def Zly (i j:Int):Prop:=0 < j /\ j < 1073741824
def ZkX (i j:Int):Prop:=(-(2 ^ 64) < i /\ i < 2 ^ 64) \/ (-(2 ^ 64) < j /\ j < 2 ^ 64)
theorem ZkX.ok {i j:Int} (h:ZkX i j):IntMulOk i j:=by
 rcases h with ⟨h1,h2⟩ | ⟨h1,h2⟩
 ·exact .of_left (intBits_le_64 h1 h2)
 ·exact .of_right (intBits_le_64 h1 h2)
theorem Zae:OpR X (binaryOp .Add) (rI0 fun i j=>.int (i + j)):=Zk6 fun _ _ _ _ _ _ _ q=>add_int q
theorem Zek:OpR X (binaryOp .Sub) (rI0 fun i j=>.int (i - j)):=Zk6 fun _ _ _ _ _ _ _ q=>sub_int q
theorem Zbv:OpR X (binaryOp .Mult) (rI ZkX fun i j=>.int (i * j)):=opI fun _ _ _ _ _ _ _ hc q=>mul_int q hc.ok
theorem Z7:OpR X (binaryOp .FloorDiv) (rI Zly fun i j=>.int (i / j)):=opI fun i j _ _ _ _ _ hc q=>by
 have h1:(0:Int) < j:=hc.1
 have h2:j < 1073741824:=hc.2
 exact floordiv_int (by lia) (by rw [Int.fdiv_eq_ediv_of_nonneg i (by lia)]; exact q) (.inl (PyProof.noPylong_small (by lia)))
theorem Z3:OpR X (binaryOp .Mod) (rI (fun _ j=>0 < j) fun i j=>.int (i % j)):=opI fun i j _ _ _ _ _ hc q=>by
 have h1:(0:Int) < j:=hc
 exact mod_int' (by lia) (by rw [Int.fmod_eq_emod_of_nonneg i (by lia)]; exact q)
theorem unI {f:Value -> Sem Value} {g:Int -> Int}
  (rule:∀ (i:Int) (t:Tok) (s:Shared) (Q:Value -> Shared -> Prop) (E:Value -> Shared -> Prop),Q (.int (g i) s.toks) { s with toks:=s.toks + 1 } -> wpAny (model X.prog X.w) X.A (f (.int i t)) Q E s) :
  UnR X f (rU fun i=>.int (g i)):=by
 intro pins s σ H x v Q I rx h
 obtain ⟨i,rfl,q⟩:=h
 obtain ⟨t,rfl⟩:=rx
 exact rule i t s _ _ ⟨.int (g i),H,I.tok _,⟨_,rfl⟩,q⟩
theorem ZiU:UnR X (unaryOp .USub) (rU fun i=>.int (-i)):=unI fun _ _ _ _ _ q=>neg_int q
end
def Zlb:V -> V -> Bool
 | .non,.non=>true | .non,.int _=>true | .int _,.non=>true | .non,.bl _=>true | .bl _,.non=>true | .non,.str _=>true | .str _,.non=>true
 | .int _,.int _=>true | .bl _,.bl _=>true | .str _,.str _=>true | .byt _,.byt _=>true
 | .int _,.str _=>true | .str _,.int _=>true | .bl _,.str _=>true | .str _,.bl _=>true
 | _,_=>false
def rEq:R2:=fun x y H Q=>Zlb x y = true /\ Q (.bl (decide (x = y))) H
def rNe:R2:=fun x y H Q=>Zlb x y = true /\ Q (.bl (!decide (x = y))) H
theorem ZhP {i j:Int}:decide (V.int i = V.int j) = (i == j):=by
 rw [Bool.eq_iff_iff]
 simp
theorem ZiZ {i j:Bool}:decide (V.bl i = V.bl j) = (i == j):=by
 rw [Bool.eq_iff_iff]
 simp
theorem Zg9 {i j:Str}:decide (V.str i = V.str j) = (i == j):=by
 rw [Bool.eq_iff_iff]
 simp
theorem Zhs {i j:Array UInt8}:decide (V.byt i = V.byt j) = (i.toList == j.toList):=by
 rw [Bool.eq_iff_iff]
 cases i
 cases j
 simp
section
variable {X:Cx} {a b c:Expr} {ta tb tc:TE} {pos:Pos}
theorem ZL {pins:List (Addr × Obj)} {σ : St} {H:Hp} {s:Shared} {Q:VK} {k k':Bool} (I:Inv X pins σ H s) (q:Q (.bl k) H) (e:k = k'):EP X pins σ Q (.bool k') s:=by
 subst e
 exact ⟨.bl k,H,I,rfl,q⟩
theorem ZbW:OpR X (compareOp .Eq) rEq:=by
 intro pins s σ H x y v u Q I rx ry h
 obtain ⟨hs,q⟩:=h
 cases x with
 | non =>
  cases rx
  cases y with
  | non=>cases ry; exact PySem.EqNone.eq_none_none (ZL I q (by simp))
  | bl j=>cases ry; exact PySem.EqNone.eq_none_bool (ZL I q (by simp))
  | int j=>obtain ⟨t',rfl⟩:=ry; exact PySem.EqNone.eq_none_int (ZL I q (by simp))
  | str j=>obtain ⟨t',rfl⟩:=ry; exact PySem.EqNone.eq_none_str (ZL I q (by simp))
  | _=>exact absurd (show false = true from hs) Bool.false_ne_true
 | bl i =>
  cases rx
  cases y with
  | non=>cases ry; exact PySem.EqNone.eq_bool_none (ZL I q (by simp))
  | bl j=>cases ry; exact eq_bool (ZL I q ZiZ)
  | str j=>obtain ⟨t',rfl⟩:=ry; exact PySem.EqMixed.eq_bool_str (ZL I q (by simp))
  | _=>exact absurd (show false = true from hs) Bool.false_ne_true
 | int i =>
  obtain ⟨t,rfl⟩:=rx
  cases y with
  | non=>cases ry; exact PySem.EqNone.eq_int_none (ZL I q (by simp))
  | int j=>obtain ⟨t',rfl⟩:=ry; exact eq_int (ZL I q ZhP)
  | str j=>obtain ⟨t',rfl⟩:=ry; exact PySem.EqMixed.eq_int_str (ZL I q (by simp))
  | _=>exact absurd (show false = true from hs) Bool.false_ne_true
 | str i =>
  obtain ⟨t,rfl⟩:=rx
  cases y with
  | non=>cases ry; exact PySem.EqNone.eq_str_none (ZL I q (by simp))
  | bl j=>cases ry; exact PySem.EqMixed.eq_str_bool (ZL I q (by simp))
  | int j=>obtain ⟨t',rfl⟩:=ry; exact PySem.EqMixed.eq_str_int (ZL I q (by simp))
  | str j=>obtain ⟨t',rfl⟩:=ry; exact eq_str (ZL I q Zg9)
  | _=>exact absurd (show false = true from hs) Bool.false_ne_true
 | byt i =>
  obtain ⟨t,rfl⟩:=rx
  cases y with
  | byt j=>obtain ⟨t',rfl⟩:=ry; exact PySem.W.eq_bytes (ZL I q Zhs)
  | _=>exact absurd (show false = true from hs) Bool.false_ne_true
 | _=>cases y <;> exact absurd (show false = true from hs) Bool.false_ne_true
theorem Zix:OpR X (compareOp .NotEq) rNe:=by
 intro pins s σ H x y v u Q I rx ry h
 obtain ⟨hs,q⟩:=h
 cases x with
 | non =>
  cases rx
  cases y with
  | non=>cases ry; exact PySem.EqNone.ne_none_none (ZL I q (by simp))
  | bl j=>cases ry; exact PySem.EqNone.ne_none_bool (ZL I q (by simp))
  | int j=>obtain ⟨t',rfl⟩:=ry; exact PySem.EqNone.ne_none_int (ZL I q (by simp))
  | str j=>obtain ⟨t',rfl⟩:=ry; exact PySem.EqNone.ne_none_str (ZL I q (by simp))
  | _=>exact absurd (show false = true from hs) Bool.false_ne_true
 | bl i =>
  cases rx
  cases y with
  | non=>cases ry; exact PySem.EqNone.ne_bool_none (ZL I q (by simp))
  | bl j=>cases ry; exact ne_bool (ZL I q (congrArg not ZiZ))
  | str j=>obtain ⟨t',rfl⟩:=ry; exact PySem.EqMixed.ne_bool_str (ZL I q (by simp))
  | _=>exact absurd (show false = true from hs) Bool.false_ne_true
 | int i =>
  obtain ⟨t,rfl⟩:=rx
  cases y with
  | non=>cases ry; exact PySem.EqNone.ne_int_none (ZL I q (by simp))
  | int j=>obtain ⟨t',rfl⟩:=ry; exact ne_int (ZL I q (congrArg not ZhP))
  | str j=>obtain ⟨t',rfl⟩:=ry; exact PySem.EqMixed.ne_int_str (ZL I q (by simp))
  | _=>exact absurd (show false = true from hs) Bool.false_ne_true
 | str i =>
  obtain ⟨t,rfl⟩:=rx
  cases y with
  | non=>cases ry; exact PySem.EqNone.ne_str_none (ZL I q (by simp))
  | bl j=>cases ry; exact PySem.EqMixed.ne_str_bool (ZL I q (by simp))
  | int j=>obtain ⟨t',rfl⟩:=ry; exact PySem.EqMixed.ne_str_int (ZL I q (by simp))
  | str j=>obtain ⟨t',rfl⟩:=ry; exact ne_str (ZL I q (congrArg not Zg9))
  | _=>exact absurd (show false = true from hs) Bool.false_ne_true
 | byt i =>
  obtain ⟨t,rfl⟩:=rx
  cases y with
  | byt j=>obtain ⟨t',rfl⟩:=ry; exact PySem.W.ne_bytes (ZL I q (congrArg not Zhs))
  | _=>exact absurd (show false = true from hs) Bool.false_ne_true
 | _=>cases y <;> exact absurd (show false = true from hs) Bool.false_ne_true
theorem ZjI:OpR X (compareOp .Lt) (rI0 fun i j=>.bl (decide (i < j))):=Zk2 fun _ _ _ _ _ _ _ q=>lt_int q
theorem ZfI:OpR X (compareOp .Gt) (rI0 fun i j=>.bl (decide (j < i))):=Zk2 fun _ _ _ _ _ _ _ q=>gt_int q
theorem Zjk:OpR X (compareOp .IsNot) (fun x y H Q=>y = .non /\ Q (.bl (!decide (x = .non))) H):=by
 intro pins s σ H x y v u Q I rx ry h
 obtain ⟨rfl,q⟩:=h
 cases ry
 refine isnot_none_gen (ZL I q ?_)
 cases x <;> first
  | (cases rx; rfl)
  | (obtain ⟨t,rfl⟩:=rx; rfl)
theorem ZX (b:Expr) {op:CmpOp} (h:op ≠ .In:=by decide) (h2:op ≠ .NotIn:=by decide):behindInMarks op b = false:=by
 have e1:(op == CmpOp.In) = false:=by cases op <;> first | rfl | exact absurd rfl h
 have e2:(op == CmpOp.NotIn) = false:=by cases op <;> first | rfl | exact absurd rfl h2
 cases b <;> simp [behindInMarks,e1,e2]
theorem ZbI {op:CmpOp} {r:R2} (ho:OpR X (compareOp op) r) (ha:PE X a ta) (hb:PE X b tb) (hm:behindInMarks op b = false):PE X (.Compare a [op] [b] pos) (tOp r ta tb):=by
 intro pins s σ H Q I h
 exact wpAny_Compare1 (Zkr ha hb I h fun v u s2 x y H2 I2 rx ry q=>ho pins s2 σ H2 x y v u Q I2 rx ry q) hm
def ZkT (t:TE):TT:=fun σ H Q=>t σ H fun x H'=>∃ k,x = .bl k /\ Q k H'
theorem Zv {op:CmpOp} {r:R2} (ho:OpR X (compareOp op) r) (ha:PE X a ta) (hb:PE X b tb) (hm:behindInMarks op b = false):PT X (.Compare a [op] [b] pos) (ZkT (tOp r ta tb)):=by
 intro pins s σ H Q I h
 refine wpAny_isTrue_Compare1 (thn (ha pins s σ H _ I h) fun v s1 ⟨x,H1,I1,r1,q1⟩=>thn (hb pins s1 σ H1 _ I1 q1) fun u s2 ⟨y,H2,I2,r2,q2⟩ =>
  thn (ho pins s2 σ H2 x y v u _ I2 r1 r2 q2) fun c s3 ⟨z,H3,I3,r3,k,e,q3⟩=>?_) hm
 subst e
 cases r3
 exact wpAny_truthy_bool ⟨H3,I3,q3⟩
def ZkD (K:PySem.W.Frag) (x:V) (H:Hp) (k:Bool):Prop :=
 match x with
 | .non=>k = false
 | .bl b=>k = b
 | .int i=>k = (i != 0)
 | .str y=>y.length <= sizeLine /\ k = ((y.length:Int) != 0)
 | .byt y=>y.size <= sizeLine /\ k = ((y.size:Int) != 0)
 | .ref p=>(∃ xs,SqL K H p xs /\ k = !xs.isEmpty) \/ (∃ xs,SqT K H p xs /\ k = !xs.isEmpty) \/ ∃ kvs,H p = some (.dK kvs) /\ k = !kvs.isEmpty
 | _=>False
theorem ZfQ {κ : Type} {kvs:List (κ × V)} {vs:List (κ × Value)} (r:KV kvs vs):(!vs.isEmpty) = !kvs.isEmpty:=by
 cases r <;> rfl
theorem Zc1 {xs:List V} {its:List Value} (r:Vals xs its):(!its.toArray.isEmpty) = !xs.isEmpty:=by
 cases r <;> simp
theorem Zdc:(sizeLine:Nat) < 2 ^ 63:=by rw [sizeLine_eq]; decide
theorem ZjM:Zlv X (fun x H Q=>∃ k,ZkD X.K x H k /\ Q k H):=by
 intro pins s σ H x v Q I rx h
 obtain ⟨k,e,q⟩:=h
 have hl:=Zdc
 have hs:sizeLine = 16777216:=sizeLine_eq
 cases x with
 | non =>
  cases rx
  have e':k = false:=e
  subst e'
  exact truthy_none ⟨H,I,q⟩
 | bl b =>
  cases rx
  have e':k = b:=e
  subst e'
  exact wpAny_truthy_bool ⟨H,I,q⟩
 | int i =>
  obtain ⟨t,rfl⟩:=rx
  have e':k = (i != 0):=e
  subst e'
  exact PySem.P.truthy_int ⟨H,I,q⟩
 | str y =>
  obtain ⟨t,rfl⟩:=rx
  obtain ⟨hy,e'⟩:y.length <= sizeLine /\ k = ((y.length:Int) != 0):=e
  subst e'
  exact PySem.P.truthy_str (by lia) ⟨H,I.tok _,q⟩
 | byt y =>
  obtain ⟨t,rfl⟩:=rx
  obtain ⟨hy,e'⟩:y.size <= sizeLine /\ k = ((y.size:Int) != 0):=e
  subst e'
  exact PySem.W.truthy_bytes (by lia) ⟨H,I.tok _,q⟩
 | ref p =>
  cases rx
  have e':(∃ xs,SqL X.K H p xs /\ k = !xs.isEmpty) \/ (∃ xs,SqT X.K H p xs /\ k = !xs.isEmpty) \/ ∃ kvs,H p = some (.dK kvs) /\ k = !kvs.isEmpty:=e
  rcases e' with ⟨xs,hx,e'⟩ | ⟨xs,hx,e'⟩ | ⟨kvs,hx,e'⟩
  ·subst e'
   obtain ⟨its,r,pl,hz⟩:=I.list hx
   have hlen:=r.length
   exact wpAny_truthy_list pl.isList (by simp only [List.size_toArray]; lia) ⟨H,I.tok _,by rw [Zc1 r]; exact q⟩
  ·subst e'
   obtain ⟨its,r,pl,hz⟩:=I.tuple hx
   have hlen:=r.length
   exact truthy_tuple pl (by simp only [List.size_toArray]; lia) ⟨H,I.tok _,by rw [Zc1 r]; exact q⟩
  ·subst e'
   obtain ⟨hz,hS,vs,r,m⟩:kvs.length <= sizeLine /\ (p == sysModules) = false /\ ∃ vs,KV kvs vs /\ s.heap.DictOf (Zy X.prog X.w) p vs:=I.hok p _ hx
   have hlen:kvs.length = vs.length:=Paired.length r
   exact wpAny_truthy_dict hS m (by lia) ⟨H,I.tok _,by rw [ZfQ r]; exact q⟩
 | _=>exact (show False from e).elim
theorem ZR (ha:PE X a ta) (he:∀ whole,isTrue a X.env whole = (do let v <- whole; standAt a.pos; holding [v] (truthy v))) :
  PT X a (fun σ H Q=>ta σ H fun x H'=>∃ k,ZkD X.K x H' k /\ Q k H'):=by
 intro pins s σ H Q I h
 exact isTrue_plain (thn (ha pins s σ H _ I h) fun v s1 ⟨x,H1,I1,r1,q1⟩=>ZjM pins s1 σ H1 x v Q I1 r1 q1) (he _)
theorem Zgc:OpR X (binaryOp .Add) (fun x y H Q=>∃ i j,x = .str i /\ y = .str j /\ i.length + j.length <= sizeLine /\ Q (.str (i ++ j)) H):=by
 intro pins s σ H x y v u Q I rx ry h
 obtain ⟨i,j,rfl,rfl,hz,q⟩:=h
 obtain ⟨t,rfl⟩:=rx
 obtain ⟨t',rfl⟩:=ry
 exact add_str (fun t' tk=>⟨.str (i ++ j),H,I.tok _,⟨_,rfl⟩,q⟩) hz
theorem vals1 {x:V} {us:List Value} (r:Vals [x] us):∃ u,us = [u] /\ RelV x u:=by
 cases r with
 | cons r1 r2=>cases r2; exact ⟨_,rfl,r1⟩
theorem vals2 {x y:V} {us:List Value} (r:Vals [x,y] us):∃ u w',us = [u,w'] /\ RelV x u /\ RelV y w':=by
 cases r with
 | cons r1 r2 =>
  cases r2 with
  | cons r3 r4=>cases r4; exact ⟨_,_,rfl,r1,r3⟩
theorem Zhc (hc:X.calm = true):ZcF X (.builtin "min") (fun xs H Q=>∃ i j,xs = [.int i,.int j] /\ Q (.int (if j < i then j else i)) H):=by
 intro pins s σ H xs us Q I r h
 obtain ⟨i,j,rfl,q⟩:=h
 obtain ⟨u,w',rfl,⟨t,rfl⟩,⟨t',rfl⟩⟩:=vals2 r
 refine min_two_ints (I.ok.hd hc) fun h' tk k=>⟨_,H,I.kept k,?_,q⟩
 by_cases hj:j < i
 ·rw [if_pos hj,if_pos hj]; exact ⟨_,rfl⟩
 ·rw [if_neg hj,if_neg hj]; exact ⟨_,rfl⟩
end
end L2
namespace L2
open PySem PySem.Spec PyProof.Rows
structure ObjM (h:Heap) (x dx C:Addr) (mA:Str -> Option Value):Prop where
 obj:h.get? x = some (PySem.W.instObj C dx)
 ns:h.Ns1 dx mA
 ne:dx ≠ x
theorem Zhz {h:Heap} {dx:Addr} {mA:Str -> Option Value} (n:h.Ns1 dx mA):∃ od,h.get? dx = some od /\ ∀ name,PySem.W.lookIn name od = some (mA name):=by
 obtain ⟨o,es,ep,ho,hd,hk,_,hm⟩:=n
 refine ⟨o,ho,fun name=>?_⟩
 have e:=hm name
 unfold nsFind findBy at e
 rw [<- Array.find?_toList] at e
 unfold PySem.W.lookIn
 rw [hd]
 dsimp only
 split
 ·rename_i y q
  rw [q] at e
  exact congrArg some e
 ·rename_i q
  rw [q] at e
  have a:es.toList.any (·.refKey) = false:=by
   rw [List.any_eq_false]
   intro y hy
   obtain ⟨z,t,hkey⟩:=hk y (Array.mem_toList_iff.mp hy)
   simp [DictEntry.refKey,hkey]
  have a' : ¬ es.toList.any (·.refKey) = true:=by rw [a]; exact Bool.false_ne_true
  rw [if_neg a']
  exact congrArg some e
theorem ObjM.look {h:Heap} {x dx C:Addr} {mA:Str -> Option Value} (I:ObjM h x dx C mA):∃ od,PySem.W.InstAt h x (PySem.W.instObj C dx) C (some od) /\ ∀ name,PySem.W.lookIn name od = some (mA name) :=
 let ⟨od,ho,hl⟩:=Zhz I.ns
 ⟨od,⟨I.obj,rfl,rfl,ho⟩,hl⟩
section
variable {prog:Program} {w:World} {A:Around} {E:Value -> Shared -> Prop} {s:Shared} {K:PySem.W.Frag} {x dx C f:Addr} {mA:Str -> Option Value} {name:Str} {v:Value}
end
theorem ZgA.some_of {v:V} {o:Option Value} (r:ZgA (some v) o):∃ u,o = some u /\ RelV v u:=by
 cases o with
 | none=>exact (show False from r).elim
 | some u=>exact ⟨u,rfl,r⟩
section
variable {P:Program} {w:World} {H H':Hp} {h h':Heap} {a C dx:Addr} {fs fs':List (Str × V)}
theorem Zdw (hok:HOk P w H h) (e:H a = some (.ins C dx fs)):∃ mA,ObjM h a dx C mA /\ (∀ f,ZgA (fs.lookup f) (mA f)) /\ PySem.Within mA (fs.map (·.1)) /\ fs.length <= 1000 /\ H dx = some (.own a):=by
 obtain ⟨d,z,ne,ob,mA,n,r,q⟩:=(show Zal P w H h a (.ins C dx fs) from hok a _ e)
 exact ⟨mA,⟨ob,n,ne⟩,r,q,z,d⟩
end
structure Cls (K:PySem.W.Frag) (C:Addr):Prop where
 pg:PySem.W.plainGet K C Str.empty = true
 hd:PySem.W.hasDictIn K C = true
 po:PySem.W.plainOver K C = true
 sa:PySem.W.findIn K (.ref C) "__setattr__" = some (some (.builtin "object.__setattr__"))
theorem Cls.get {K:PySem.W.Frag} {C:Addr} (c:Cls K C) (f:Str):PySem.W.plainGet K C f = true:=c.pg
section
variable {X:Cx} {pins:List (Addr × Obj)} {σ : St} {H:Hp} {s:Shared} {a C dx:Addr} {fs:List (Str × V)} {f:Str} {v:V} {A:Around} {E:Value -> Shared -> Prop}
end
section
variable {X:Cx} {o e value:Expr} {f:Str} {pos pos' tpos:Pos} {ta tv:TE}
end
section
variable {X:Cx} {pins:List (Addr × Obj)} {σ : St} {H:Hp} {s:Shared} {A:Around} {E:Value -> Shared -> Prop} {Q:Value -> Shared -> Prop} {c:Value} {b:Bool}
inductive TyOf (K:PySem.W.Frag) (H:Hp):V -> Value -> Prop where
 | non:TyOf K H .non (.type "NoneType")
 | bl (x:Bool):TyOf K H (.bl x) (.type "bool")
 | int (i:Int):TyOf K H (.int i) (.type "int")
 | str (x:Str):TyOf K H (.str x) (.type "str")
 | flt (x:UInt64):TyOf K H (.flt x) (.type "float")
 | lst {a:Addr} {xs:List V} (e:H a = some (.lst xs)):TyOf K H (.ref a) (.type "list")
 | frz {a:Addr} {o:Obj} {xs:List V} (e:H a = some (.frz o (.lst xs))):TyOf K H (.ref a) (.type "list")
 | tup {a:Addr} {xs:List V} (e:H a = some (.tup xs)):TyOf K H (.ref a) (.type "tuple")
 | dK {a:Addr} {kvs:List (Key × V)} (e:H a = some (.dK kvs)):TyOf K H (.ref a) (.type "dict")
 | dT {a:Addr} {kvs:List (List Key × V)} (e:H a = some (.dT kvs)):TyOf K H (.ref a) (.type "dict")
 | ins {a C dx:Addr} {fs:List (Str × V)} (e:H a = some (.ins C dx fs)) (cl:Cls K C) (ha:PySem.W.findIn K (.ref C) "__class__" = some (some (.builtin "object.__class__")))
   (hn:PySem.W.specialIn K (.builtin "object.__class__") "__get__" = some (some (.builtin "getset_descriptor.__get__"))) (htk:PySem.W.takesIn K (.builtin "object.__class__") = some true)
   (hm:PySem.W.mroIn K C (.type "object") = some true):TyOf K H (.ref a) (.ref C)
theorem Zhh {x:V} {u t:Value} (I:Inv X pins σ H s) (rx:RelV x u) (ty:TyOf X.K H x t) (e:PySem.W.kitOne X.K t c = some b) (h:∀ tk,Q (.bool b) { s with toks:=tk }) :
  wpAny (model X.prog X.w) A (call (.builtin "isinstance") [u,c]) Q E s:=by
 cases ty with
 | non=>cases (show u = Value.none from rx); exact PySem.W.kia_one PySem.W.kitx_none I.kIn True.intro e (fun z=>nomatch z) h
 | bl y=>cases (show u = Value.bool y from rx); exact PySem.W.kia_one PySem.W.kitx_bool I.kIn True.intro e (fun z=>nomatch z) h
 | int i=>obtain ⟨t,q⟩:=(show ∃ t,u = Value.int i t from rx); cases q; exact PySem.W.kia_one PySem.W.kitx_int I.kIn True.intro e (fun z=>nomatch z) h
 | str y=>obtain ⟨t,q⟩:=(show ∃ t,u = Value.str y t from rx); cases q; exact PySem.W.kia_one PySem.W.kitx_str I.kIn True.intro e (fun z=>nomatch z) h
 | flt y=>obtain ⟨t,q⟩:=(show ∃ t,u = Value.float y t from rx); cases q; exact PySem.W.kia_one PySem.W.kitx_float I.kIn True.intro e (fun z=>nomatch z) h
 | @lst a xs ea =>
  cases (show u = Value.ref a from rx)
  obtain ⟨_,_,n,_,h1⟩:=(show Zal X.prog X.w H s.heap a (.lst xs) from I.hok a _ ea)
  exact PySem.W.kia_one PySem.W.kitx_list I.kIn ⟨_,h1,rfl⟩ e (fun z=>nomatch z) h
 | @frz a ob xs ea =>
  cases (show u = Value.ref a from rx)
  obtain ⟨_,_,_,n,_,h1⟩:=(show Zal X.prog X.w H s.heap a (.frz ob (.lst xs)) from I.hok a _ ea)
  exact PySem.W.kia_one PySem.W.kitx_list I.kIn ⟨_,h1,rfl⟩ e (fun z=>nomatch z) h
 | @tup a xs ea =>
  cases (show u = Value.ref a from rx)
  obtain ⟨_,_,_,p⟩:=(show Zal X.prog X.w H s.heap a (.tup xs) from I.hok a _ ea)
  obtain ⟨o,h1,h2,_⟩:=p
  exact PySem.W.kia_one PySem.W.kitx_tuple I.kIn ⟨o,h1,h2⟩ e (fun z=>nomatch z) h
 | @dK a kvs ea =>
  cases (show u = Value.ref a from rx)
  obtain ⟨_,_,vs,_,p⟩:=(show Zal X.prog X.w H s.heap a (.dK kvs) from I.hok a _ ea)
  obtain ⟨o,es,ep,h1,h2,_⟩:=p
  exact PySem.W.kia_one PySem.W.kitx_dict I.kIn ⟨o,h1,h2.1⟩ e (fun z=>nomatch z) h
 | @dT a kvs ea =>
  cases (show u = Value.ref a from rx)
  obtain ⟨_,_,xs,_,o,es,ep,h1,h2,_⟩:=(show Zal X.prog X.w H s.heap a (.dT kvs) from I.hok a _ ea)
  exact PySem.W.kia_one PySem.W.kitx_dict I.kIn ⟨o,h1,h2.1⟩ e (fun z=>nomatch z) h
 | @ins a C dx fs ea cl ha hn htk hm =>
  cases (show u = Value.ref a from rx)
  obtain ⟨mA,O,_⟩:=Zdw I.hok ea
  obtain ⟨od,J,_⟩:=O.look
  exact PySem.W.kia_one (PySem.W.kitx_own (cl.get _) cl.hd ha hn htk hm) I.kIn J e (fun z=>nomatch z) h
end
end L2
namespace L2
open PySem PySem.Spec PyProof.Rows
structure Room (k:Nat) (A:Around):Prop where
 hd:A.handled = none
 dp:A.depth + 3 * k + 5 < recursionLimit
 un:A.units + 16 * k + 200 < cLine
theorem Room.mono {j k:Nat} {A:Around} (r:Room k A) (h:j <= k):Room j A:=⟨r.hd,by have:=r.dp; lia,by have:=r.un; lia⟩
theorem Room.deeper {k:Nat} {A:Around} (r:Room (k + 1) A) (env:Env):Room k (A.deeper env) :=
 ⟨r.hd,by have:=r.dp; show A.depth + 1 + 3 * k + 5 < _; lia,by have:=r.un; show A.units + 3 + 16 * k + 200 < _; lia⟩
theorem Room.depth {k:Nat} {A:Around} (r:Room k A):A.depth < recursionLimit:=by have:=r.dp; lia
def Zk9:TA:=fun _ H Q=>Q [] H
def ZjY (ta:TE) (tr:TA):TA:=fun σ H Q=>ta σ H fun x H1=>tr σ H1 fun xs H2=>Q (x :: xs) H2
section
variable {X:Cx} {e:Expr} {es:List Expr} {te:TE} {t:TA} {pos:Pos}
theorem Zc:PA X [] Zk9:=fun _ _ _ _ H Q I h=>Calls.spliced_nil ⟨[],H,I,.nil,h⟩
theorem Za (ha:PE X e te) (hr:PA X es t) (hs:starEach (e :: es) X.env = (false,eval e X.env) :: starEach es X.env:=by rfl):PA X (e :: es) (ZjY te t):=by
 intro pos pins s σ H Q I h
 rw [hs]
 show wpAny _ _ (spliced ((false,eval e X.env) :: backTo pos (starEach es X.env))) _ _ s
 refine Calls.spliced_cons (thn (ha pins s σ H _ I h) fun u s1 ⟨x,H1,I1,r1,q1⟩=>?_)
 exact thn (hr pos pins s1 σ H1 _ I1 q1) fun us s2 ⟨xs,H2,I2,r2,q2⟩=>⟨x :: xs,H2,I2,.cons r1 r2,q2⟩
def Zlx (t:TA):TE:=fun σ H Q=>t σ H fun xs H1=>xs.length <= sizeLine /\ ∀ p,H1 p = none -> Q (.ref p) (upd H1 p (.tup xs))
def Zlg (t:TA):TE:=fun σ H Q=>t σ H fun xs H1=>xs.length <= sizeLine /\ ∀ p,H1 p = none -> Q (.ref p) (upd H1 p (.lst xs))
theorem Z1 {x1} (h:PA X es t):PE X (.Tuple es x1 pos) (Zlx t):=by
 intro pins s σ H Q I hq
 refine wpAny_Tuple_spliced (thn (h pos pins s σ H _ I hq) fun us s1 ⟨xs,H1,I1,r,z,q⟩=>⟨by rw [<- r.length]; exact z,?_⟩)
 have hf:H1 s1.heap.objs.size = none:=I1.hok.fresh (Nat.le_refl _)
 refine ⟨.ref s1.heap.objs.size,upd H1 s1.heap.objs.size (.tup xs),I1.laid (t':=s1.toks) (fun b u e=>Heap.get?_push_of_some _ e) (Nat.le_refl _) ?_,rfl,q _ hf⟩
 exact ⟨z,us,r,⟨_,Heap.get?_push_size _ rfl,rfl,_,rfl⟩⟩
theorem ZbJ (h:PA X es t):PE X (.List es pos) (Zlg t):=by
 intro pins s σ H Q I hq
 refine wpAny_List_spliced (thn (h pos pins s σ H _ I hq) fun us s1 ⟨xs,H1,I1,r,z,q⟩=>⟨by rw [<- r.length]; exact z,?_⟩)
 have hf:H1 s1.heap.objs.size = none:=I1.hok.fresh (Nat.le_refl _)
 refine ⟨.ref s1.heap.objs.size,upd H1 s1.heap.objs.size (.lst xs),I1.laid (t':=s1.toks) (fun b u e=>Heap.get?_push_of_some _ e) (Nat.le_refl _) ?_,rfl,q _ hf⟩
 exact ⟨z,us,0,r,Heap.get?_push_size _ rfl⟩
end
abbrev Sp:=List V -> Hp -> VK -> XK -> Prop
abbrev CXT:=List Env -> Hp -> Shared -> XK -> Value -> Shared -> Prop
structure Env0 (P:Program) (w:World) (K:PySem.W.Frag) (mg:Str -> Option Value) (base:Heap) (A:Around) (outer:List Env) (s:Shared) (H:Hp):Prop where
 frames:A.frames = some outer
 mod:Mod K mg base
 bs:∀ b o,base.get? b = some o -> s.heap.get? b = some o /\ H b = none
 bsz:base.objs.size <= s.heap.objs.size
 funs:s.heap.FunFrames base outer
 frf:∀ b ∈ frs outer,H b = none
 hok:HOk P w H s.heap
 bare:AllBare s.gens
def CE (outer:List Env) (P:Program) (w:World) (H:Hp) (s:Shared) (Q:VK) (u:Value) (s':Shared):Prop :=
 ∃ v H',s'.os = s.os /\ AllBare s'.gens /\ Un (frs outer) [] H H' s.heap s'.heap /\ HOk P w H' s'.heap /\ RelV v u /\ Q v H'
def CR (CX:CXT) (outer:List Env) (P:Program) (w:World) (H:Hp) (s:Shared) (Q:VK) (E:XK) (r:Result) (s':Shared):Prop :=
 match r with
 | .ok (.ret u)=>CE outer P w H s Q u s'
 | .ok _=>False
 | .error e=>CX outer H s E e s'
structure FnOk (P:Program) (w:World) (K:PySem.W.Frag) (mg:Str -> Option Value) (base:Heap) (CX:CXT) (k:Nat) (f:Addr) (fd:FuncData) (ps:List Str) (sp:Sp):Prop where
 len:∀ vs H Q E,sp vs H Q E -> vs.length = ps.length
 run:∀ (A:Around) (outer:List Env) (s:Shared) (H:Hp) (args:Args) (us:List Value) (vs:List V) (Q:VK) (E:XK),Room k A -> Env0 P w K mg base A outer s H -> BindsTo s fd args (ps.zip us) -> Vals vs us -> sp vs H Q E ->
  codeAny (model P w) A (.call (.ref f) args) (CR CX outer P w H s Q E) s
section
variable {X:Cx} {pins:List (Addr × Obj)} {σ : St} {H:Hp} {s s':Shared}
theorem Inv.env0 (I:Inv X pins σ H s):Env0 X.prog X.w X.K X.mg X.base X.A X.stack s H :=
 ⟨I.ok.frames,I.ok.mod,I.bs,Nat.le_trans I.ok.bsz I.sz,I.stack,I.stkFree,I.hok,I.bare⟩
theorem Inv.after {Q:VK} {u:Value} (I:Inv X pins σ H s) (h:CE X.stack X.prog X.w H s Q u s'):EP X pins σ Q u s':=by
 obtain ⟨v,H',os,bare,un,hok,r,q⟩:=h
 obtain ⟨hh,g,d,t,os'⟩:=s'
 obtain rfl:os' = s.os:=os
 exact ⟨v,H',I.call (h':=hh) (g':=g) (d':=d) (t':=t) (ch:=[]) un hok bare (fun b z=>absurd z (by simp)),r,q⟩
end
def ZjS (sp:Sp) (dvs:List V) (E:XK) (t:TA):TE:=fun σ H Q=>t σ H fun vs H1=>sp (vs ++ dvs) H1 Q E
def Binds (K:PySem.W.Frag) (fd:FuncData) (ps:List Str) (ds:List Value):Prop :=
 ∀ (s:Shared) (us:List Value),K.In s.heap -> (us ++ ds).length = ps.length -> BindsTo s fd ⟨us,[]⟩ (ps.zip (us ++ ds))
theorem Binds.all {K:PySem.W.Frag} {fd:FuncData} {ps:List Str} (h:∀ us:List Value,us.length = ps.length -> bindArgs fd ⟨us,[]⟩ = pure (ps.zip us)):Binds K fd ps []:=fun s us _ hl=>by
 rw [List.append_nil] at hl ⊢
 exact .of_eq (h us hl)
def Zhk (CX:CXT) (X:Cx) (E:XK):Prop := ∀ (pins:List (Addr × Obj)) (σ : St) (H:Hp) (s:Shared) (e:Value) (s':Shared),Inv X pins σ H s -> CX X.stack H s E e s' -> X.xe e s'
section
variable {X:Cx} {CX:CXT} {k:Nat} {f C:Addr} {fd:FuncData} {ps:List Str} {sp:Sp} {dvs:List V} {ds:List Value} {E:XK} {x m:Str} {p pos apos:Pos} {e o:Expr} {es:List Expr} {ta:TE} {t:TA}
theorem ZjF {pins:List (Addr × Obj)} {σ : St} {H:Hp} {s:Shared} {Q:VK} {us:List Value} {vs:List V} (F:FnOk X.prog X.w X.K X.mg X.base CX k f fd ps sp) (hr:Room k X.A) (hb:Binds X.K fd ps ds) (hd:Vals dvs ds) (hx:Zhk CX X E)
  (I:Inv X pins σ H s) (r:Vals vs us) (h:sp (vs ++ dvs) H Q E):wpAny (model X.prog X.w) X.A (call (.ref f) us) (EP X pins σ Q) X.xe s:=by
 have r2:Vals (vs ++ dvs) (us ++ ds):=r.append hd
 have hl:(us ++ ds).length = ps.length:=by rw [<- r2.length]; exact F.len _ _ _ _ h
 refine wpAny_call (codeAny_mono (F.run X.A X.stack s H ⟨us,[]⟩ (us ++ ds) (vs ++ dvs) Q E hr I.env0 (hb s us I.kIn hl) r2 h) fun r s' hq=>?_)
 cases r with
 | error e=>exact hx pins σ H s e s' I hq
 | ok fl =>
  cases fl with
  | ret u=>exact I.after hq
  | next=>exact False.elim hq
  | brk=>exact False.elim hq
  | cont=>exact False.elim hq
theorem Zjo (F:FnOk X.prog X.w X.K X.mg X.base CX k f fd ps sp) (hr:Room k X.A) (hg:Gl X x) (hm:X.mg x = some (.ref f)) (hk:PySem.W.keepIn X.K (.ref f) = true) (hb:Binds X.K fd ps ds) (hd:Vals dvs ds) (hx:Zhk CX X E)
  (ha:PA X (e :: es) t) (hdb:(x == ("__debug__" : Str)) = false:=by decide) (he:starEach (e :: es) X.env = (false,eval e X.env) :: starEach es X.env:=by rfl) (hpl:(backTo pos (starEach es X.env)).any (·.1) = false:=by rfl) :
  PE X (.Call (.Name x p) (e :: es) [] pos) (ZjS sp dvs E t):=by
 intro pins s σ H Q I h
 refine wpAny_Call_Name_kw (ZhI I hg hm ?_ hdb)
 refine PySem.W.callWith_K (h₀ := X.base) I.ok.mod.kin hk (thn (ha pos pins s σ H _ I h) fun us s1 ⟨vs,H1,I1,r,q⟩=>⟨I1.kIn,?_⟩) he hpl
 exact ZjF F hr hb hd hx I1 r q
end
section
variable {X:Cx} {CX:CXT} {k:Nat} {f C:Addr} {fd:FuncData} {ps ks:List Str} {sp:Sp} {E:XK} {x m:Str} {p pos apos kpos:Pos} {e o:Expr} {es:List Expr} {kws:List Keyword} {te ta:TE} {t tk:TA} {nm:Option Str}
variable {g:List Value -> List Value -> List Value} {gV:List V -> List V -> List V}
end
structure FnScope (N P:List Str) (sc:Scope):Prop where
 kind:sc.kind = .function
 co:sc.isCoroutine = false
 gen:sc.isGenerator = false
 nd:N.Nodup
 pre:N.take P.length = P
 par:∀ x ∈ P,sc.names.lookup x = some .local \/ sc.names.lookup x = some .cell
 ZbS:∀ y ∈ sc.names,y.2 ≠ .free
theorem Zd7 {kindOf:Str -> Option NameKind} {x:Str}:∀ {binds:List (Str × Value)} {m:Str -> Option Value},(∀ v,(x,v) ∉ binds) -> bindL kindOf binds m x = m x
 | [],_,_=>rfl
 | (n,v) :: r,m,h=>by
  unfold bindL
  rw [Zd7 fun w hw=>h w (List.mem_cons_of_mem _ hw)]
  split
  ·have:x ≠ n:=by rintro rfl; exact h v List.mem_cons_self
   simp [this]
  ·rfl
theorem ZdU {kindOf:Str -> Option NameKind} {x:Str}:∀ {binds:List (Str × Value)} {m:Str -> Option Value},(∀ v,(x,v) ∉ binds) -> bindC kindOf binds m x = m x
 | [],_,_=>rfl
 | (n,v) :: r,m,h=>by
  unfold bindC
  rw [ZdU fun w hw=>h w (List.mem_cons_of_mem _ hw)]
  split
  ·rfl
  ·have:x ≠ n:=by rintro rfl; exact h v List.mem_cons_self
   simp [this]
theorem Zeq {kindOf:Str -> Option NameKind} {x:Str} {v:Value}:∀ {P:List Str} {vs:List Value} {i:Nat} {m:Str -> Option Value},P.Nodup -> P[i]? = some x -> vs[i]? = some v -> kindOf x = some .local ->
  bindL kindOf (P.zip vs) m x = some v
 | [],_,_,_,_,h,_,_=>by simp at h
 | _ :: _,[],_,_,_,_,h,_=>by simp at h
 | p :: P,w :: vs,0,m,nd,h1,h2,hk=>by
  simp at h1 h2; subst h1; subst h2
  show bindL kindOf ((p,w) :: P.zip vs) m p = _
  unfold bindL
  rw [Zd7 fun v hv=>(List.nodup_cons.mp nd).1 (List.of_mem_zip hv).1,if_pos hk]
  simp
 | p :: P,w :: vs,i + 1,m,nd,h1,h2,hk=>by
  show bindL kindOf ((p,w) :: P.zip vs) m x = _
  unfold bindL
  exact Zeq (i:=i) (List.nodup_cons.mp nd).2 (by simpa using h1) (by simpa using h2) hk
theorem Zd3 {kindOf:Str -> Option NameKind} {x:Str} {v:Value}:∀ {P:List Str} {vs:List Value} {i:Nat} {m:Str -> Option Value},P.Nodup -> P[i]? = some x -> vs[i]? = some v -> kindOf x ≠ some .local ->
  bindC kindOf (P.zip vs) m x = some v
 | [],_,_,_,_,h,_,_=>by simp at h
 | _ :: _,[],_,_,_,_,h,_=>by simp at h
 | p :: P,w :: vs,0,m,nd,h1,h2,hk=>by
  simp at h1 h2; subst h1; subst h2
  show bindC kindOf ((p,w) :: P.zip vs) m p = _
  unfold bindC
  rw [ZdU fun v hv=>(List.nodup_cons.mp nd).1 (List.of_mem_zip hv).1,if_neg hk]
  simp
 | p :: P,w :: vs,i + 1,m,nd,h1,h2,hk=>by
  show bindC kindOf ((p,w) :: P.zip vs) m x = _
  unfold bindC
  exact Zd3 (i:=i) (List.nodup_cons.mp nd).2 (by simpa using h1) (by simpa using h2) hk
def start (N:List Str) (vs:List V):St:=vs.map some ++ List.replicate (N.length - vs.length) none
def ZjD (CX:CXT) (P:Program) (w:World) (K:PySem.W.Frag) (mg:Str -> Option Value) (base:Heap) (N:List Str) (qual:Str) (scope:Scope) (f:Addr) (cd:Value) (A:Around) (outer:List Env) (s:Shared) (H:Hp) (E:XK):Cx where
 prog:=P
 w:=w
 K:=K
 mg:=mg
 base:=base
 A:=A.deeper (envOfC qual scope s.heap.objs.size f cd)
 N:=N
 s₀ := s
 H₀ := H
 env:=envOfC qual scope s.heap.objs.size f cd
 outer:=outer
 stack:=envOfC qual scope s.heap.objs.size f cd :: outer
 ex:=[]
 calm:=true
 fn:=fun _=>true
 pn:=[]
 xe:=fun e s'=>wpAny (model P w) (A.deeper (envOfC qual scope s.heap.objs.size f cd)) (leaving (envOfC qual scope s.heap.objs.size f cd) e) (fun _ s''=>CX outer H s E e s'') (fun e' s''=>CX outer H s E e' s'') s'
theorem Ze2 {sc:Scope} {n:Nat} {x:Str} (h:sc.names.lookup x = some .cell):∃ c,(cellsFrom n sc.names []).lookup x = some c:=by
 have q:=PySem.W.cellsFrom_some sc.names n [] (.inl h)
 exact Option.isSome_iff_exists.mp q
theorem Zg4 {CX:CXT} {P:Program} {w:World} {K:PySem.W.Frag} {mg:Str -> Option Value} {base:Heap} {N ps:List Str} {qual:Str} {scope:Scope} {f:Addr} {cd:Value} {A:Around} {outer:List Env} {s s1:Shared} {H:Hp} {E:XK} {us:List Value} {vs:List V}
  (S:FnScope N ps scope) (hd:A.handled = none) (e0:Env0 P w K mg base A outer s H) (hl:vs.length = ps.length) (r:Vals vs us)
  (x:InCallC s s.heap.objs.size (bindL (envOfC qual scope s.heap.objs.size f cd).kindOf (ps.zip us) fun _=>none) (cellsFrom (s.heap.objs.size + 1) scope.names []) (bindC (envOfC qual scope s.heap.objs.size f cd).kindOf (ps.zip us) fun _=>none) s1) :
  Inv (ZjD CX P w K mg base N qual scope f cd A outer s H E) [] (start N vs) H s1:=by
 have hpl:ps.length <= N.length:=by have:=congrArg List.length S.pre; rw [List.length_take] at this; lia
 obtain ⟨h1,tk,rfl,hk⟩:=x.done
 have noA:∀ b:Addr,b ∉ (ZjD CX P w K mg base N qual scope f cd A outer s H E).ex:=fun b z=>absurd (show b ∈ ([]:List Addr) from z) (by simp)
 refine ⟨⟨e0.mod,S.kind,rfl,rfl,Nat.le_refl _,fun y z c h1 h2=>?_,fun y hy=>?_,fun y c _ h=>?_,fun _=>hd,Around.frames_deeper e0.frames,.inr ⟨rfl,rfl⟩,fun b z=>absurd z (noA b),e0.bs,e0.bsz,fun b _ _=>noA b,fun b z=>absurd z (noA b),e0.funs,e0.frf⟩,
  rfl,e0.bare,Un.kept hk,⟨_,x.toInCall.ns,fun i y v h1 h2 h3=>?_⟩,fun y c h=>⟨_,x.cell y c h⟩,e0.hok.fresh (Nat.le_refl _),fun y c h=>?_,fun p hp=>absurd (show p ∈ ([]:List (Addr × Obj)) from hp) (by simp),e0.hok.kept hk,?_⟩
 ·exact name_of_addr x.apart (PySem.mem_of_lookup h1) (PySem.mem_of_lookup h2)
 ·have hy:scope.names.lookup y = some .cell \/ scope.names.lookup y = some .free:=hy
  rcases hy with hy | hy
  ·exact Ze2 hy
  ·exact absurd rfl (S.ZbS _ (PySem.mem_of_lookup hy))
 ·exact Nat.le_of_lt (x.above y c (PySem.mem_of_lookup h))
 ·have hi:i < vs.length:=by
   unfold start at h2
   by_cases hi:i < vs.length
   ·exact hi
   ·rw [List.getElem?_append_right (by simpa using hi)] at h2
    rw [List.getElem?_replicate] at h2
    split at h2 <;> cases h2
  have ha:vs[i]? = some v:=by
   unfold start at h2
   rw [List.getElem?_append_left (by simpa using hi),List.getElem?_map] at h2
   cases e:vs[i]? with
   | none=>rw [e] at h2; cases h2
   | some a=>rw [e] at h2; cases h2; rfl
  obtain ⟨u,hu,rv⟩:=r.get ha
  have hp:ps[i]? = some y:=by
   rw [<- S.pre,List.getElem?_take_of_lt (by lia)]; exact h1
  have ndP:ps.Nodup:=by rw [<- S.pre]; exact S.nd.sublist (List.take_sublist _ _)
  refine ⟨u,rv,?_⟩
  rcases S.par y (List.mem_of_getElem? hp) with k | k
  ·exact .inl ⟨k,Zeq ndP hp hu k⟩
  ·obtain ⟨c,e⟩:=Ze2 (n:=s.heap.objs.size + 1) k
   refine .inr ⟨.inl k,c,e,?_⟩
   have q:=x.cell y c e
   rw [Zd3 ndP hp hu (by show scope.names.lookup y ≠ _; rw [k]; decide)] at q
   exact q
 ·exact e0.hok.fresh (Nat.le_of_lt (x.above y c (PySem.mem_of_lookup h)))
 ·unfold start
  show _ = N.length
  rw [List.length_append,List.length_map,List.length_replicate]
  lia
theorem ZkZ {CX:CXT} {P:Program} {w:World} {K:PySem.W.Frag} {mg:Str -> Option Value} {base:Heap} {k:Nat} {f:Addr} {name qual:Str} {params:Arguments} {body:List Stmt} {scope:Scope} {dV kV doc pm cdv ct oc:Value} {an od:Option Addr}
  {osl:Array (Option Value)} {N ps:List Str} {sp:Sp} (lk:K.lookup f = some ⟨oc,od,.func (PySem.W.fnOf name qual params body scope dV kV doc pm an cdv ct),osl⟩) (hcd:PySem.W.codeIn K cdv qual = true) (S:FnScope N ps scope)
  (len:∀ vs H Q E,sp vs H Q E -> vs.length = ps.length)
  (hbody:∀ (A:Around) (outer:List Env) (s:Shared) (H:Hp) (vs:List V) (Q:VK) (E:XK),Room k (A.deeper (envOfC qual scope s.heap.objs.size f cdv)) -> sp vs H Q E ->
   ∃ t,PSs (ZjD CX P w K mg base N qual scope f cdv A outer s H E) body t /\ t { nx:=fun _ H'=>Q .non H',rt:=Q } (start N vs) H) :
  FnOk P w K mg base CX (k + 1) f (PySem.W.fnOf name qual params body scope dV kV doc pm an cdv ct) ps sp:=by
 refine ⟨len,fun A outer s H args us vs Q E hr e0 hb r hsp=>?_⟩
 have hl:=len _ _ _ _ hsp
 have KX:K.In s.heap:=e0.mod.kin.keeps fun b o e=>(e0.bs b o e).1
 have lim:s.heap.NoLimit:=e0.mod.nolimit.keeps fun b o e=>(e0.bs b o e).1
 have hkind:∀ y ∈ ps.zip us,scope.names.lookup y.1 = some .local \/ (scope.names.lookup y.1 = some .cell /\ ((cellsFrom (s.heap.objs.size + 1) scope.names []).lookup y.1).isSome = true):=fun ⟨n,v⟩ hy=>by
  rcases S.par n (List.of_mem_zip hy).1 with q | q
  ·exact .inl q
  ·exact .inr ⟨q,PySem.W.cellsFrom_some _ _ _ (.inl q)⟩
 refine codeAny_call_function hr.depth (KX _ _ lk) rfl S.co S.gen rfl (PySem.W.codeRec_of KX hcd) (hb _ _ _ _ ?_)
 refine wpAny_newFunctionEnv_cells S.kind hkind fun env he s1 x=>?_
 subst he
 refine ⟨lim.keeps x.toInCall.keep,codeAny_func ?_⟩
 obtain ⟨t,ht,hq⟩:=hbody A outer s H vs Q E (hr.deeper _) hsp
 have I:Inv (ZjD CX P w K mg base N qual scope f cdv A outer s H E) [] (start N vs) H s1:=Zg4 S hr.hd e0 hl r x
 refine wpAny_mono (ht [] s1 (start N vs) H _ I hq) (fun fl s' hs=>?_) fun e s' hs=>hs
 have fin:∀ {σ':St} {H':Hp} {v:V} {u:Value},Inv (ZjD CX P w K mg base N qual scope f cdv A outer s H E) [] σ' H' s' -> RelV v u -> Q v H' -> CE outer P w H s Q u s' :=
  fun {σ' H' v u} J rv q=>⟨v,H',J.os,J.bare,J.base,J.hok,rv,q⟩
 cases fl with
 | ret u =>
  obtain ⟨v,σ',H',J,rv,q⟩:=hs
  exact fin J rv q
 | next =>
  obtain ⟨σ',H',J,q⟩:=hs
  exact fin (v:=V.non) (u:=Value.none) J rfl q
 | brk =>
  obtain ⟨_,_,_,q⟩:=hs
  exact False.elim q
 | cont =>
  obtain ⟨_,_,_,q⟩:=hs
  exact False.elim q
end L2
namespace L2
open PySem PySem.Spec PyProof.Rows
section
variable {X:Cx} {x:Str} {p pos:Pos} {e:Expr} {es:List Expr} {t:TA} {id T:String} {r:List V -> Hp -> VK -> Prop}
def tCB (r:List V -> Hp -> VK -> Prop) (t:TA):TE:=fun σ H Q=>t σ H fun vs H1=>r vs H1 Q
theorem Zt (hc:ZcF X (.builtin id) r) (hg:Gl X x) (hm:X.mg x = none) (hv:bootBuiltins x = some (.builtin id)) (ha:PA X (e :: es) t) (hn:x ≠ "__name__" := by decide) (hdb:(x == ("__debug__" : Str)) = false:=by decide)
  (he:starEach (e :: es) X.env = (false,eval e X.env) :: starEach es X.env:=by rfl) (hpl:(backTo pos (starEach es X.env)).any (·.1) = false:=by rfl):PE X (.Call (.Name x p) (e :: es) [] pos) (tCB r t):=by
 intro pins s σ H Q I h
 refine wpAny_Call_Name_kw (Zcc I hg hm hv ?_ hn hdb)
 exact PyProof.Rows.callWith_builtin1 (thn (ha pos pins s σ H _ I h) fun us s1 ⟨vs,H1,I1,r1,q1⟩=>hc pins s1 σ H1 vs us Q I1 r1 q1) he hpl
theorem ZD (hc:ZcF X (.type T) r) (hg:Gl X x) (hm:X.mg x = none) (hv:bootBuiltins x = some (.type T)) (ha:PA X (e :: es) t) (hn:x ≠ "__name__" := by decide) (hdb:(x == ("__debug__" : Str)) = false:=by decide)
  (he:starEach (e :: es) X.env = (false,eval e X.env) :: starEach es X.env:=by rfl) (hpl:(backTo pos (starEach es X.env)).any (·.1) = false:=by rfl):PE X (.Call (.Name x p) (e :: es) [] pos) (tCB r t):=by
 intro pins s σ H Q I h
 refine wpAny_Call_Name_kw (Zcc I hg hm hv ?_ hn hdb)
 exact PyProof.Rows.callWith_type1 (thn (ha pos pins s σ H _ I h) fun us s1 ⟨vs,H1,I1,r1,q1⟩=>hc pins s1 σ H1 vs us Q I1 r1 q1) he hpl
end
end L2
namespace HT
open PySem PyProof.Rows
section
open PySem.SeqAt
open PySem.AutoSeq1 (wpAny_loadPart')
open PySem.MeetsSeq PySem.MeetsSeq2 PySem.MeetsSeq3
end
section
variable {prog:Program} {w:World} {A:Around} {E:Value -> Shared -> Prop} {s:Shared}
end
end HT
namespace L2
open PySem PySem.Spec PyProof.Rows
section
variable {X:Cx} {e:Expr} {te:TE} {lo hi:Option Expr} {tl th:TO} {pos p2:Pos}
end
end L2
namespace L2
open PySem PySem.Spec PyProof.Rows
def ixN (n:Nat) (i:Int):Option Nat:=if 0 <= i then (if i < n then some i.toNat else none) else if -(n:Int) <= i then some (i + n).toNat else none
def atI {α : Type} (xs:List α) (i:Int):Option α := (ixN xs.length i).bind fun j=>xs[j]?
theorem Zhu {n:Nat} {i:Int} {j:Nat} (h:ixN n i = some j):seqIndex? i n = some j /\ j < n /\ -(n:Int) <= i /\ i < n:=by
 unfold ixN at h
 by_cases h0:0 <= i
 ·rw [if_pos h0] at h
  by_cases h1:i < n
  ·rw [if_pos h1] at h
   have e:i.toNat = j:=Option.some.inj h
   exact ⟨by rw [seqIndex_of h0 h1,e],by lia,by lia,h1⟩
  ·rw [if_neg h1] at h; cases h
 ·rw [if_neg h0] at h
  by_cases h1 : -(n:Int) <= i
  ·rw [if_pos h1] at h
   have e:(i + n).toNat = j:=Option.some.inj h
   exact ⟨by rw [seqIndex_neg (by lia) h1,e],by lia,h1,by lia⟩
  ·rw [if_neg h1] at h; cases h
theorem ZeP {α : Type} {xs:List α} {i:Int} {v : α} (h:atI xs i = some v):∃ j,seqIndex? i xs.length = some j /\ xs[j]? = some v /\ j < xs.length /\ -(xs.length:Int) <= i /\ i < xs.length:=by
 unfold atI at h
 cases e:ixN xs.length i with
 | none=>rw [e] at h; cases h
 | some j =>
  rw [e] at h
  obtain ⟨h1,h2,h3,h4⟩:=Zhu e
  exact ⟨j,h1,h,h2,h3,h4⟩
theorem ZV {α : Type} {xs:List α} {j:Nat} {v : α} (h:xs[j]? = some v):atI xs (j:Int) = some v:=by
 have hj:j < xs.length:=(List.getElem?_eq_some_iff.mp h).1
 have e:ixN xs.length (j:Int) = some j:=by
  unfold ixN
  rw [if_pos (by lia),if_pos (by lia)]; simp
 unfold atI; rw [e]; exact h
theorem Zia {α : Type} (xs:List α) (v : α):atI (xs ++ [v]) (-1) = some v:=by
 have hl:(xs ++ [v]).length = xs.length + 1:=by simp
 have e:ixN (xs ++ [v]).length (-1) = some xs.length:=by
  unfold ixN
  rw [hl,if_neg (by decide),if_pos (by lia)]
  congr 1
  lia
 unfold atI
 rw [e]
 show (xs ++ [v])[xs.length]? = some v
 simp
def Zjw (b:Expr):Prop := ∀ o i,subscripted b false o i = operate [o,i] (getItem o i)
def IxR (X:Cx) (r:R2):Prop :=
 ∀ (value slice:Expr) (pins:List (Addr × Obj)) (s:Shared) (σ : St) (H:Hp) (x y:V) (v u:Value) (Q:VK),Inv X pins σ H s -> RelV x v -> RelV y u -> r x y H Q ->
  subscripted slice false v u = operate [v,u] (getItem v u) -> wpAny (model X.prog X.w) X.A (subscriptTail value slice v u) (EP X pins σ Q) X.xe s
def MtR (X:Cx) (id:String) (r:V -> List V -> Hp -> VK -> Prop):Prop :=
 ∀ (pins:List (Addr × Obj)) (s:Shared) (σ : St) (H:Hp) (x:V) (xs:List V) (v:Value) (us:List Value) (Q:VK),Inv X pins σ H s -> RelV x v -> Vals xs us -> r x xs H Q ->
  wpAny (model X.prog X.w) X.A (call (.builtin id) (v :: us)) (EP X pins σ Q) X.xe s
section
variable {X:Cx} {a b:Expr} {ta tb:TE} {pos:Pos}
theorem Zr {r:R2} (hr:IxR X r) (ha:PE X a ta) (hb:PE X b tb) (hs:Zjw b):PE X (.Subscript a b pos) (tOp r ta tb):=by
 intro pins s σ H Q I h
 exact Subscript_ (Zkr ha hb I h fun v u s2 x y H2 I2 rx ry q=>hr a b pins s2 σ H2 x y v u Q I2 rx ry q (hs _ _))
def Zla (K:PySem.W.Frag):R2:=fun x y H Q=>∃ p xs i v,x = .ref p /\ y = .int i /\ SqL K H p xs /\ atI xs i = some v /\ Q v H
def Zk7 (K:PySem.W.Frag):R2:=fun x y H Q=>∃ p xs i v,x = .ref p /\ y = .int i /\ SqT K H p xs /\ atI xs i = some v /\ Q v H
def Zlu:R2:=fun x y H Q=>∃ z i c,x = .str z /\ y = .int i /\ z.length <= sizeLine /\ atI z.cps.toList i = some c /\ Q (.str ⟨#[c]⟩) H
theorem ZW:IxR X (Zla X.K):=by
 intro value slice pins s σ H x y v u Q I rx ry h hs
 obtain ⟨p,xs,i,z,rfl,rfl,hq,he,q⟩:=h
 cases rx
 obtain ⟨t,rfl⟩:=ry
 obtain ⟨its,r,pl,hz⟩:=I.list hq
 obtain ⟨j,h1,h2,h3,h4,h5⟩:=ZeP he
 obtain ⟨w,ew,rw'⟩:=r.get h2
 have hl:=r.length
 have hn:=Zdc
 have fin:EP X pins σ Q w s:=⟨z,H,I,rw',q⟩
 by_cases h0:0 <= i
 ·have hj:i.toNat = j:=by
   rw [seqIndex_of h0 h5] at h1
   exact Option.some.inj h1
  exact item_listR pl.isList h0 (by lia) (by rw [hj]; simpa using ew) fin hs
 ·have hj:(i + (its.toArray.size:Int)).toNat = j:=by
   rw [seqIndex_neg (by lia) h4] at h1
   rw [List.size_toArray,<- hl]
   exact Option.some.inj h1
  exact subscriptTail_builtinR (x:=w) pl.isList.typeIs slot_list_getitem.lookup
   (wpAny_getItem_list_neg (Q:=fun r s'=>r = w /\ EP X pins σ Q r s') pl.isList (by lia) (by rw [List.size_toArray] <;> lia) (by lia) (by rw [hj]; simpa using ew) ⟨rfl,fin⟩) hs
theorem Zx:IxR X (Zk7 X.K):=by
 intro value slice pins s σ H x y v u Q I rx ry h hs
 obtain ⟨p,xs,i,z,rfl,rfl,hq,he,q⟩:=h
 cases rx
 obtain ⟨t,rfl⟩:=ry
 obtain ⟨its,r,pl,hz⟩:=I.tuple hq
 obtain ⟨j,h1,h2,h3,h4,h5⟩:=ZeP he
 obtain ⟨w,ew,rw'⟩:=r.get h2
 have hl:=r.length
 have hn:=Zdc
 have fin:EP X pins σ Q w s:=⟨z,H,I,rw',q⟩
 exact subscriptTail_builtinR (x:=w) pl.typeIs slot_tuple_getitem.lookup
  (getItem_tuple (j:=j) (Q:=fun r s'=>r = w /\ EP X pins σ Q r s') pl (by lia) (by lia) (by rw [List.size_toArray,<- hl]; exact h1) (by simpa using ew) ⟨rfl,fin⟩) hs
theorem ZjJ:IxR X Zlu:=by
 intro value slice pins s σ H x y v u Q I rx ry h hs
 obtain ⟨z,i,c,rfl,rfl,hz,he,q⟩:=h
 obtain ⟨t,rfl⟩:=rx
 obtain ⟨t',rfl⟩:=ry
 obtain ⟨j,h1,h2,h3,h4,h5⟩:=ZeP he
 have hl:z.cps.toList.length = z.length:=by simp [Str.length]
 rw [hl] at h1 h4 h5
 have hn:=Zdc
 exact tail_any (typeIs_str s z t) slot_str_getitem.lookup (getItem_str (c:=c) (by
  have e1:decide (i < -(2 ^ 63:Int)) = false:=decide_eq_false (by lia)
  have e2:decide (i >= 2 ^ 63) = false:=decide_eq_false (by lia)
  rw [e1,e2,Bool.or_false]) (by rw [h1]; simpa using h2) ⟨.str ⟨#[c]⟩,H,I.tok _,⟨_,rfl⟩,q⟩) hs
theorem ZfN (its:List Value) (n j:Nat) (u:Value):Obj.mapSeq (·.setIfInBounds j u) { cls:=.type "list",data:=.seq its.toArray n } = { cls:=.type "list",data:=.seq (its.set j u).toArray n }:=by
 simp [Obj.mapSeq]
theorem Inv.lst {pins:List (Addr × Obj)} {σ : St} {H:Hp} {s:Shared} {p:Addr} {xs:List V} (I:Inv X pins σ H s) (h:H p = some (.lst xs)) :
  ∃ (its:List Value) (n:Nat),Vals xs its /\ s.heap.get? p = some { cls:=.type "list",data:=.seq its.toArray n } /\ xs.length <= sizeLine:=by
 obtain ⟨z,its,n,r,e⟩:=I.hok p _ h
 exact ⟨its,n,r,e,z⟩
theorem Inv.lstUpd {pins:List (Addr × Obj)} {σ : St} {H:Hp} {s:Shared} {p:Addr} {xs ys:List V} {its its':List Value} {n n':Nat} {f:Obj -> Obj} (I:Inv X pins σ H s) (h:H p = some (.lst xs))
  (ho:s.heap.get? p = some { cls:=.type "list",data:=.seq its.toArray n }) (hf:f { cls:=.type "list",data:=.seq its.toArray n } = { cls:=.type "list",data:=.seq its'.toArray n' }) (r:Vals ys its') (hz:ys.length <= sizeLine) (t:Nat) :
  Inv X pins σ (upd H p (.lst ys)) { s with heap:=s.heap.update p f,toks:=t }:=by
 have e:(s.heap.update p f).get? p = some { cls:=.type "list",data:=.seq its'.toArray n' }:=by
  rw [Heap.get?_update_self f ho (by rw [hf] <;> rfl),hf]
 refine I.write (x:=p) (e:=p) (by rw [h]; trivial) (.inl rfl) (fun b u hb q=>(Heap.get?_update_other _ _ (Ne.symm hb)).trans q) ⟨_,e⟩ ?_
 exact ⟨hz,its',n',r,e⟩
def Zkv:V -> V -> V -> Hp -> (Hp -> Prop) -> Prop:=fun o i v H Q=>∃ p xs k j,o = .ref p /\ i = .int k /\ H p = some (.lst xs) /\ ixN xs.length k = some j /\ Q (upd H p (.lst (xs.set j v)))
theorem set_list:Zk8 X Zkv:=by
 intro pins s σ H o i v ov iv u Q I ro ri rv h
 obtain ⟨p,xs,k,j,rfl,rfl,hp,hj,q⟩:=h
 cases ro
 obtain ⟨t,rfl⟩:=ri
 obtain ⟨its,n,r,ho,hz⟩:=I.lst hp
 obtain ⟨h1,h2,h3,h4⟩:=Zhu hj
 have hl:=r.length
 have hn:=Zdc
 have I':Inv X pins σ (upd H p (.lst (xs.set j v))) { s with heap:=s.heap.update p (Obj.mapSeq (·.setIfInBounds j u)) } :=
  I.lstUpd hp ho (ZfN its n j u) (r.set rv j) (by rw [List.length_set]; exact hz) s.toks
 by_cases h0:0 <= k
 ·have hk:k.toNat = j:=by
   rw [seqIndex_of h0 h4] at h1
   exact Option.some.inj h1
  exact PySem.W.ki_setAt ho h0 (by lia) (by rw [List.size_toArray,<- hl]; exact h4) (by rw [hk]; exact ⟨_,I',q⟩)
 ·have hk:(k + (its.toArray.size:Int)).toNat = j:=by
   rw [seqIndex_neg (by lia) h3] at h1
   rw [List.size_toArray,<- hl]
   exact Option.some.inj h1
  exact PySem.W.ki_setBack ho (by lia) (by rw [List.size_toArray,<- hl]; exact h3) (by lia) (by rw [hk]; exact ⟨_,I',q⟩)
def ZcW:V -> Bool
 | .non=>true
 | .bl _=>true
 | .int _=>true
 | .str _=>true
 | _=>false
def eqV:V -> V -> Bool
 | .non,.non=>true
 | .bl a,.bl b=>a == b
 | .bl a,.int b=>(if a then 1 else 0) == b
 | .int a,.bl b=>a == (if b then 1 else 0)
 | .int a,.int b=>a == b
 | .str a,.str b=>a == b
 | _,_=>false
theorem Zkb {A:Around} {s:Shared} {y x:V} {u v:Value} (ry:RelV y u) (rx:RelV x v) (fy:ZcW y = true) (fx:ZcW x = true):SeqAt.EqAt A s u v (eqV y x):=by
 cases y with
 | non =>
  cases ry
  cases x with
  | non=>cases rx; exact SeqAt.EqAt.same _
  | bl b=>cases rx; exact SeqAt.EqAt.none_bool b
  | int b=>obtain ⟨t,rfl⟩:=rx; exact SeqAt.EqAt.none_int b t
  | str b=>obtain ⟨t,rfl⟩:=rx; exact SeqAt.EqAt.none_str b t
  | _=>exact absurd (show false = true from fx) Bool.false_ne_true
 | bl a =>
  cases ry
  cases x with
  | non=>cases rx; exact SeqAt.EqAt.bool_none a
  | bl b=>cases rx; exact SeqAt.EqAt.bool_bool a b
  | int b=>obtain ⟨t,rfl⟩:=rx; exact SeqAt.EqAt.bool_int a b t
  | str b=>obtain ⟨t,rfl⟩:=rx; exact SeqAt.EqAt.bool_str a b t
  | _=>exact absurd (show false = true from fx) Bool.false_ne_true
 | int a =>
  obtain ⟨t',rfl⟩:=ry
  cases x with
  | non=>cases rx; exact SeqAt.EqAt.int_none a t'
  | bl b=>cases rx; exact SeqAt.EqAt.int_bool a t' b
  | int b=>obtain ⟨t,rfl⟩:=rx; exact SeqAt.EqAt.int_int a t' b t
  | str b=>obtain ⟨t,rfl⟩:=rx; exact SeqAt.EqAt.int_str a t' b t
  | _=>exact absurd (show false = true from fx) Bool.false_ne_true
 | str a =>
  obtain ⟨t',rfl⟩:=ry
  cases x with
  | non=>cases rx; exact SeqAt.EqAt.str_none a t'
  | bl b=>cases rx; exact SeqAt.EqAt.str_bool a t' b
  | int b=>obtain ⟨t,rfl⟩:=rx; exact SeqAt.EqAt.str_int a t' b t
  | str b=>obtain ⟨t,rfl⟩:=rx; exact SeqAt.EqAt.str_str a t' b t
  | _=>exact absurd (show false = true from fx) Bool.false_ne_true
 | _=>exact absurd (show false = true from fy) Bool.false_ne_true
def eqU (x:V) (u:Value):Bool:=match u with
 | .none=>eqV .non x
 | .bool b=>eqV (.bl b) x
 | .int i _=>eqV (.int i) x
 | .str z _=>eqV (.str z) x
 | _=>false
theorem Zhe {x y:V} {u:Value} (r:RelV y u) (f:ZcW y = true):eqU x u = eqV y x:=by
 cases y with
 | non=>cases r; rfl
 | bl b=>cases r; rfl
 | int i=>obtain ⟨t,rfl⟩:=r; rfl
 | str z=>obtain ⟨t,rfl⟩:=r; rfl
 | _=>exact absurd (show false = true from f) Bool.false_ne_true
theorem ZeJ {x:V}:∀ {xs:List V} {us:List Value},Vals xs us -> xs.all ZcW = true -> us.any (eqU x) = xs.any fun y=>eqV y x
 | _,_,.nil,_=>rfl
 | y :: xs,u :: us,.cons r t,f=>by
  rw [List.all_cons,Bool.and_eq_true] at f
  rw [List.any_cons,List.any_cons,Zhe r f.1,ZeJ t f.2]
theorem Zco {A:Around} {s:Shared} {x:V} {v:Value} (rx:RelV x v) (fx:ZcW x = true):∀ {xs:List V} {us:List Value},Vals xs us -> xs.all ZcW = true -> ∀ u ∈ us,SeqAt.EqAt A s u v (eqU x u)
 | _,_,.nil,_=>fun u hu=>by cases hu
 | y :: xs,u :: us,.cons r t,f=>fun u' hu=>by
  rw [List.all_cons,Bool.and_eq_true] at f
  rcases List.mem_cons.mp hu with rfl | hu
  ·rw [Zhe r f.1]; exact Zkb r rx f.1 fx
  ·exact Zco rx fx t f.2 u' hu
def inV (x:V) (xs:List V):Bool:=xs.any fun y=>eqV y x
def rIn (K:PySem.W.Frag) (neg:Bool):R2:=fun x y H Q=>∃ p xs,y = .ref p /\ (SqL K H p xs \/ SqT K H p xs) /\ ZcW x = true /\ xs.all ZcW = true /\ Q (.bl (if neg then !inV x xs else inV x xs)) H
theorem Zea:OpR X (compareOp .In) (rIn X.K false):=by
 intro pins s σ H x y v u Q I rx ry h
 obtain ⟨p,xs,rfl,hq,fx,fs,q⟩:=h
 cases ry
 rcases hq with hq | hq
 ·obtain ⟨its,r,pl,hz⟩:=I.list hq
  refine SeqAt.in_listAt (eqU x) pl.isList (fun w hw=>Zco rx fx r fs w (by simpa using hw)) ⟨.bl _,H,I,rfl,?_⟩
  rw [show its.toArray.any (eqU x) = its.any (eqU x) by simp,ZeJ r fs]
  exact q
 ·obtain ⟨its,r,pl,hz⟩:=I.tuple hq
  refine SeqAt.in_tupleAt (eqU x) pl (fun w hw=>Zco rx fx r fs w (by simpa using hw)) ⟨.bl _,H,I,rfl,?_⟩
  rw [show its.toArray.any (eqU x) = its.any (eqU x) by simp,ZeJ r fs]
  exact q
theorem Zq:ZcF X (.builtin "len") (fun xs H Q=>∃ p ys,xs = [.ref p] /\ (SqL X.K H p ys \/ SqT X.K H p ys) /\ Q (.int ys.length) H):=by
 intro pins s σ H xs us Q I r h
 obtain ⟨p,ys,rfl,hq,q⟩:=h
 obtain ⟨u,rfl,rx⟩:=vals1 r
 cases rx
 have hn:=Zdc
 rcases hq with hq | hq
 ·obtain ⟨its,r',pl,hz⟩:=I.list hq
  have hlen:=r'.length
  exact Calls.call_len_list pl.isList (by simp only [List.size_toArray] <;> lia) ⟨.int ys.length,H,I.tok _,⟨s.toks + 1,by rw [List.size_toArray,hlen]⟩,q⟩
 ·obtain ⟨its,r',pl,hz⟩:=I.tuple hq
  have hlen:=r'.length
  exact len_tuple pl (by simp only [List.size_toArray] <;> lia) ⟨.int ys.length,H,I.tok _,⟨s.toks + 1,by rw [List.size_toArray,hlen]⟩,q⟩
theorem Zbc:ZcF X (.type "list") (fun xs H Q=>∃ p ys,xs = [.ref p] /\ (SqL X.K H p ys \/ SqT X.K H p ys) /\ ∀ l,H l = none -> Q (.ref l) (upd H l (.lst ys))):=by
 intro pins s σ H xs us Q I r h
 obtain ⟨p,ys,rfl,hq,q⟩:=h
 obtain ⟨u,rfl,rx⟩:=vals1 r
 cases rx
 have fin:∀ (its:List Value),Vals ys its -> ys.length <= sizeLine -> ∀ (h':Heap) (c':Nat),(∀ b o',s.heap.get? b = some o' -> h'.get? b = some o') ->
   h'.get? s.heap.objs.size = some { cls:=.type "list",dict:=none,data:=.seq its.toArray c',slots := #[] } -> EP X pins σ Q (.ref s.heap.objs.size) { s with heap:=h' }:=fun its r' hz h' c' kp e =>
  ⟨.ref s.heap.objs.size,_,I.laid (t':=s.toks) kp (Nat.le_refl _) (show Zal X.prog X.w _ h' _ (.lst ys) from ⟨hz,its,c',r',e⟩),rfl,q _ (I.hok.fresh (Nat.le_refl _))⟩
 rcases hq with hq | hq
 ·obtain ⟨its,r',pl,hz⟩:=I.list hq
  have hlen:=r'.length
  obtain ⟨o,ho,hc,n,hd⟩:=pl.isList
  exact call_list_seq p (.inl rfl) ho hc hd (fun h' c' kp e=>fin its r' hz h' c' kp e) (by simp only [List.size_toArray] <;> lia)
 ·obtain ⟨its,r',pl,hz⟩:=I.tuple hq
  have hlen:=r'.length
  obtain ⟨o,ho,hc,n,hd⟩:=pl
  exact call_list_seq p (.inr rfl) ho hc hd (fun h' c' kp e=>fin its r' hz h' c' kp e) (by simp only [List.size_toArray] <;> lia)
theorem ZG:ZcF X (.type "tuple") (fun xs H Q=>∃ p ys,xs = [.ref p] /\ ((SqL X.K H p ys /\ ∀ l,H l = none -> Q (.ref l) (upd H l (.tup ys))) \/ (SqT X.K H p ys /\ Q (.ref p) H))):=by
 intro pins s σ H xs us Q I r h
 obtain ⟨p,ys,rfl,h⟩:=h
 obtain ⟨u,rfl,rx⟩:=vals1 r
 cases rx
 rcases h with ⟨hq,q⟩ | ⟨hq,q⟩
 ·obtain ⟨its,r',pl,hz⟩:=I.list hq
  have hlen:=r'.length
  refine call_tuple_list pl.isList (fun h' kp=>?_) (by simp only [List.size_toArray] <;> lia)
  have I1:Inv X pins σ H { s with heap:=h' }:=I.kept (t':=s.toks) kp
  have I2:Inv X pins σ (upd H h'.objs.size (.tup ys)) { s with heap:=h'.push { cls:=.type "tuple",data:=.seq its.toArray } } :=
   I1.laid (t':=s.toks) (fun b o e=>Heap.get?_push_of_some _ e) (Nat.le_refl _) (show Zal X.prog X.w _ _ _ (.tup ys) from ⟨hz,its,r',IsTup.new _ _⟩)
  exact ⟨.ref h'.objs.size,_,I2,rfl,q _ (I1.hok.fresh (Nat.le_refl _))⟩
 ·obtain ⟨its,r',pl,hz⟩:=I.tuple hq
  exact call_tuple_same pl ⟨.ref p,H,I,rfl,q⟩
def tyV (K:PySem.W.Frag) (T:String) (x:V) (H:Hp):Prop:=match x with
 | .str _=>T = "str"
 | .int _=>T = "int"
 | .ref p=>(T = "list" /\ ∃ xs,SqL K H p xs) \/ (T = "tuple" /\ ∃ o,K.lookup p = some o /\ o.cls = .type "tuple" /\ o.dict = none) \/
   (T = "dict" /\ ((∃ kvs,H p = some (.dK kvs)) \/ ∃ kvs,H p = some (.dT kvs))) \/ (T = "set" /\ ∃ S n,H p = some (.set S n))
 | _=>False
theorem Zi3 {pins:List (Addr × Obj)} {σ : St} {H:Hp} {s:Shared} {T:String} {x:V} {v:Value} (I:Inv X pins σ H s) (r:RelV x v) (ty:tyV X.K T x H) :
  s.TypeIs v T /\ ∀ a,v = .ref a -> ∃ ob,s.heap.get? a = some ob /\ ob.dict = none:=by
 cases x with
 | str z =>
  obtain ⟨t,rfl⟩:=r
  cases (show T = "str" from ty)
  exact ⟨typeIs_str s z t,fun _ e=>nomatch e⟩
 | int i =>
  obtain ⟨t,rfl⟩:=r
  cases (show T = "int" from ty)
  exact ⟨typeIs_int s i t,fun _ e=>nomatch e⟩
 | ref p =>
  cases r
  rcases ty with ⟨rfl,xs,hq⟩ | ⟨rfl,o,hk,hc,hd⟩ | ⟨rfl,hk⟩ | ⟨rfl,S,n,hk⟩
  ·obtain ⟨its,_,pl,_⟩:=I.list hq
   refine ⟨pl.isList.typeIs,fun a e=>?_⟩
   cases e
   obtain ⟨o,n,e,c,hd,_⟩:=pl
   exact ⟨o,e,hd⟩
  ·refine ⟨⟨o,I.kIn p o hk,hc⟩,fun a e=>?_⟩
   cases e
   exact ⟨o,I.kIn _ o hk,hd⟩
  ·have z:∃ o,s.heap.get? p = some o /\ o.ExactDict:=by
    rcases hk with ⟨kvs,hk⟩ | ⟨kvs,hk⟩
    ·obtain ⟨_,_,_,_,o,_,_,e,ex,_⟩:=I.hok p _ hk
     exact ⟨o,e,ex⟩
    ·obtain ⟨_,_,_,_,o,_,_,e,ex,_⟩:=I.hok p _ hk
     exact ⟨o,e,ex⟩
   obtain ⟨o,e,ex⟩:=z
   refine ⟨⟨o,e,ex.1⟩,fun a e2=>?_⟩
   cases e2
   exact ⟨o,e,ex.2.1⟩
  ·obtain ⟨o,_,_,_,e,ex,_⟩:=I.hok p _ hk
   refine ⟨⟨o,e,ex.1⟩,fun a e2=>?_⟩
   cases e2
   exact ⟨o,e,ex.2.1⟩
 | _=>exact False.elim ty
def Zlt (K:PySem.W.Frag) (T:String) (r:V -> List V -> Hp -> VK -> Prop) (to:TE):TE:=fun σ H Q=>to σ H fun x H1=>tyV K T x H1 /\ r x [] H1 Q
def tBM (K:PySem.W.Frag) (T:String) (r:V -> List V -> Hp -> VK -> Prop) (to:TE) (t:TA):TE:=fun σ H Q=>to σ H fun x H1=>tyV K T x H1 /\ t σ H1 fun xs H2=>r x xs H2 Q
variable {o e:Expr} {es:List Expr} {to:TE} {t:TA} {name:Str} {apos cpos:Pos} {T id:String} {r:V -> List V -> Hp -> VK -> Prop}
theorem ZhJ (pa:PlainAttrs T) (slot:Slot T name id) (hty:typeOf (.builtin id) = pure (.type "method_descriptor")) (hm:MtR X id r) (ho:PE X o to)
  (hbase:attributeBase o name X.env (eval o X.env) = eval o X.env:=by rfl) (hline:(apos.endLine == cpos.line) = true:=by rfl):PE X (.Call (.Attribute o name apos) [] [] cpos) (Zlt X.K T r to):=by
 intro pins s σ H Q I h
 refine wpAny_Call_method0_late hbase hline (thn (ho pins s σ H _ I h) fun v s1 ⟨x,H1,I1,r1,ty,q1⟩=>?_)
 obtain ⟨h1,h2⟩:=Zi3 I1 r1 ty
 exact ⟨T,id,pa,slot,hty,h1,h2,Calls.callWith_builtin rfl (PySem.evalArgs_none (hm pins s1 σ H1 x [] v [] Q I1 r1 .nil q1))⟩
theorem Zba (pa:PlainAttrs T) (slot:Slot T name id) (hty:typeOf (.builtin id) = pure (.type "method_descriptor")) (hm:MtR X id r) (ho:PE X o to) (ha:PA X (e :: es) t)
  (hbase:attributeBase o name X.env (eval o X.env) = eval o X.env:=by rfl)
  (hfew:((backTo cpos (starEach (e :: es) X.env)).all (fun x=>!x.1) && (backToKw cpos (keywordEach [] X.env)).all (fun x=>x.1.isSome)
   && decide ((e :: es).length + ([]:List Keyword).length + (if ([]:List Keyword).isEmpty then 0 else 1) < 30)) = true:=by rfl)
  (hline:(apos.endLine == cpos.line) = true:=by rfl) (hs:starEach (e :: es) X.env = (false,eval e X.env) :: starEach es X.env:=by rfl) (hplain:(backTo cpos (starEach es X.env)).any (·.1) = false:=by rfl) :
  PE X (.Call (.Attribute o name apos) (e :: es) [] cpos) (tBM X.K T r to t):=by
 intro pins s σ H Q I h
 refine wpAny_Call_method_late hbase hfew hline rfl (thn (ho pins s σ H _ I h) fun v s1 ⟨x,H1,I1,r1,ty,q1⟩=>?_)
 obtain ⟨h1,h2⟩:=Zi3 I1 r1 ty
 refine ⟨T,id,pa,slot,hty,h1,h2,?_⟩
 have hA:=ha cpos pins s1 σ H1 _ I1 q1
 rw [hs] at hA ⊢
 refine Calls.callWith_builtin (by show (false || (backTo cpos (starEach es X.env)).any (·.1)) = false; rw [hplain] <;> rfl) (Calls.evalArgs_plain ?_)
 exact thn hA fun us s2 ⟨vs,H2,I2,r2,q2⟩=>hm pins s2 σ H2 x vs v us Q I2 r1 r2 q2
/- xs.append(e),list.index on a module's tuple .. are MtR facts of 06m -/
end
end L2
namespace L2
open PySem PySem.Spec PyProof.Rows
def MtM (X:Cx) (id:String) (r:V -> List V -> Hp -> VK -> Prop):Prop :=
 ∀ (pins:List (Addr × Obj)) (s:Shared) (σ : St) (H:Hp) (x:V) (xs:List V) (v:Value) (us:List Value) (Q:VK),Inv X pins σ H s -> RelV x v -> Vals xs us -> r x xs H Q ->
  wpAny (model X.prog X.w) X.A (call (.builtin id) (v :: us)) (EP X pins σ Q) X.xe s
theorem Vals.one:∀ {x:V} {us:List Value},Vals [x] us -> ∃ u,us = [u] /\ RelV x u
 | _,_,.cons r .nil=>⟨_,rfl,r⟩
theorem Vals.two:∀ {x y:V} {us:List Value},Vals [x,y] us -> ∃ u v,us = [u,v] /\ RelV x u /\ RelV y v
 | _,_,_,.cons r (.cons q .nil)=>⟨_,_,rfl,r,q⟩
theorem Vals.zero:∀ {us:List Value},Vals [] us -> us = []
 | _,.nil=>rfl
theorem Vals.dropLast {xs:List V} {us:List Value} (h:Vals xs us):Vals xs.dropLast us.dropLast:=by
 induction h with
 | nil=>exact .nil
 | cons r t ih =>
  cases t with
  | nil=>exact .nil
  | cons q t'=>exact .cons r ih
theorem Vals.eraseIdx:∀ {xs:List V} {us:List Value} (i:Nat),Vals xs us -> Vals (xs.eraseIdx i) (us.eraseIdx i)
 | _,_,_,.nil=>.nil
 | _,_,0,.cons _ t=>t
 | _,_,i + 1,.cons r t=>.cons r (Vals.eraseIdx i t)
theorem ZfX {α : Type} (l:List α):l.eraseIdx (l.length - 1) = l.dropLast:=by
 induction l with
 | nil=>rfl
 | cons a r ih =>
  cases r with
  | nil=>rfl
  | cons b r =>
   have e:(a :: b :: r).length - 1 = ((b :: r).length - 1) + 1:=by
    have h1:(a :: b :: r).length = r.length + 2:=rfl
    have h2:(b :: r).length = r.length + 1:=rfl
    lia
   rw [e,List.eraseIdx_cons_succ,ih]
   all_goals rfl
theorem ZdV {α : Type}:∀ (l:List α) (i:Nat),(l.eraseIdx i).length <= l.length
 | [],_=>Nat.le_refl _
 | _ :: _,0=>Nat.le_succ _
 | _ :: r,i + 1=>Nat.succ_le_succ (ZdV r i)
section
variable {X:Cx} {pins:List (Addr × Obj)} {σ : St} {H:Hp} {s:Shared} {l b:Addr} {xs ys zs:List V}
theorem Inv.lset {its its':List Value} {n:Nat} {f:Array Value -> Array Value} {t':Nat} (I:Inv X pins σ H s) (hH:H l = some (.lst xs))
  (e:s.heap.get? l = some { cls:=.type "list",data:=.seq its.toArray n }) (hf:f its.toArray = its'.toArray) (hv:Vals ys its') (hz:ys.length <= sizeLine) :
  Inv X pins σ (upd H l (.lst ys)) { s with heap:=s.heap.update l (Obj.mapSeq f),toks:=t' }:=by
 have q:=PySem.IsL.update e f
 rw [hf] at q
 refine I.write (x:=l) (e:=l) (by rw [hH]; exact trivial) (.inl rfl) (fun b' u hb hu=>(Heap.get?_update_other s.heap (Obj.mapSeq f) (Ne.symm hb)).trans hu) ⟨_,q⟩ ?_
 exact ⟨hz,its',_,hv,q⟩
theorem Inv.lnew {its:List Value} {t':Nat} (I:Inv X pins σ H s) (hv:Vals ys its) (hz:ys.length <= sizeLine) :
  Inv X pins σ (upd H s.heap.objs.size (.lst ys)) { s with heap:=s.heap.push { cls:=.type "list",data:=.seq its.toArray },toks:=t' } :=
 I.laid (fun _ _ q=>Heap.get?_push_of_some _ q) (Nat.le_refl _) ⟨hz,its,0,hv,Heap.get?_push_size _ rfl⟩
theorem Inv.fresh (I:Inv X pins σ H s):H s.heap.objs.size = none:=I.hok.fresh (Nat.le_refl _)
theorem Inv.lstM (I:Inv X pins σ H s) (hH:H l = some (.lst xs)):xs.length <= sizeLine /\ ∃ (its:List Value) (n:Nat),Vals xs its /\ xs.length = its.length /\ s.heap.get? l = some { cls:=.type "list",data:=.seq its.toArray n }:=by
 obtain ⟨z,its,n,r,e⟩:=I.hok l _ hH
 exact ⟨z,its,n,r,r.length,e⟩
theorem Zit {n:Nat} (h:n <= sizeLine):Builtin.List.listTooLong n = false:=by
 unfold Builtin.List.listTooLong
 exact decide_eq_false (by lia)
end
section
variable {X:Cx}
def Zjl:V -> List V -> Hp -> VK -> Prop:=fun x vs H Q=>∃ l xs y,x = .ref l /\ vs = [y] /\ H l = some (.lst xs) /\ xs.length < sizeLine /\ Q .non (upd H l (.lst (xs ++ [y])))
theorem ZP:MtM X "list.append" Zjl:=by
 intro pins s σ H x vs v us Q I rx rv h
 obtain ⟨l,xs,y,rfl,rfl,hH,hz,q⟩:=h
 cases rx
 obtain ⟨u,rfl,ru⟩:=rv.one
 obtain ⟨z,its,n,r,hl,e⟩:=I.lstM hH
 refine call_meets F.slot_list_append ⟨_,e,rfl⟩ F.entry_list_append (F.args_list_append_2 _ _) (PySem.list_append l its.toArray n u (by rw [List.size_toArray]; lia)) ⟨e,?_⟩
 refine ⟨.non,_,I.lset (its':=its ++ [u]) hH e (by simp) (r.append (.cons ru .nil)) ?_,rfl,q⟩
 rw [List.length_append,List.length_singleton]
 lia
def Zi9:V -> List V -> Hp -> VK -> Prop:=fun x vs H Q=>∃ l b xs zs,x = .ref l /\ vs = [.ref b] /\ H l = some (.lst xs) /\ H b = some (.lst zs) /\ xs.length + zs.length <= sizeLine /\ Q .non (upd H l (.lst (xs ++ zs)))
theorem ZhA:MtM X "list.extend" Zi9:=by
 intro pins s σ H x vs v us Q I rx rv h
 obtain ⟨l,b,xs,zs,rfl,rfl,hH,hB,hz,q⟩:=h
 cases rx
 obtain ⟨u,rfl,ru⟩:=rv.one
 cases ru
 obtain ⟨z,its,n,r,hl,e⟩:=I.lstM hH
 obtain ⟨z2,its2,n2,r2,hl2,e2⟩:=I.lstM hB
 have hsz:its.toArray.size + its2.toArray.size <= sizeLine:=by rw [List.size_toArray,List.size_toArray]; lia
 have hlong : ¬ (!its.toArray.isEmpty && Builtin.List.listTooLong (its.toArray.size + its2.toArray.size)) = true:=by
  rw [Zit hsz,Bool.and_false]
  exact Bool.false_ne_true
 refine call_meets F.slot_list_extend ⟨_,e,rfl⟩ F.entry_list_extend (F.args_list_extend_2 _ _)
  (AutoSeq1.list_extend_list_list_0 l its.toArray n b its2.toArray n2 hlong (by rw [List.size_toArray]; lia) (by lia)) ⟨e,e2,?_⟩
 refine ⟨.non,_,I.lset (its':=its ++ its2) hH e (by simp) (r.append r2) ?_,rfl,q⟩
 rw [List.length_append]
 lia
def Zlk:V -> List V -> Hp -> VK -> Prop:=fun x vs H Q=>∃ l xs y,x = .ref l /\ vs = [] /\ H l = some (.lst xs) /\ xs[xs.length - 1]? = some y /\ Q y (upd H l (.lst xs.dropLast))
theorem Zhi:MtM X "list.pop" Zlk:=by
 intro pins s σ H x vs v us Q I rx rv h
 obtain ⟨l,xs,y,rfl,rfl,hH,hy,q⟩:=h
 cases rx
 have hus:=rv.zero
 subst hus
 obtain ⟨z,its,n,r,hl,e⟩:=I.lstM hH
 obtain ⟨u,hu,ru⟩:=r.get hy
 have hy':its.toArray[its.toArray.size - 1]? = some u:=by
  show its.toArray[its.length - 1]? = some u
  rw [<- Array.getElem?_toList,<- hl]
  exact hu
 refine call_meets F.slot_list_pop ⟨_,e,rfl⟩ F.entry_list_pop (F.args_list_pop_1 _) (MeetsSeq.list_pop_last l its.toArray n u hy' (by rw [List.size_toArray]; lia)) ⟨e,?_⟩
 refine ⟨y,_,I.lset (its':=its.dropLast) hH e ?_ r.dropLast ?_,ru,q⟩
 ·show its.toArray.eraseIdxIfInBounds (its.toArray.size - 1) = its.dropLast.toArray
  rw [List.size_toArray,List.eraseIdxIfInBounds_toArray,ZfX]
 ·rw [List.length_dropLast]
  lia
def ZjP:V -> List V -> Hp -> VK -> Prop:=fun x vs H Q=>∃ l xs i k y,x = .ref l /\ vs = [.int i] /\ H l = some (.lst xs) /\ -(2 ^ 63) <= i /\ i < 2 ^ 63 /\ seqIndex? i xs.length = some k /\ xs[k]? = some y /\ Q y (upd H l (.lst (xs.eraseIdx k)))
theorem ZiA:MtM X "list.pop" ZjP:=by
 intro pins s σ H x vs v us Q I rx rv h
 obtain ⟨l,xs,i,k,y,rfl,rfl,hH,h1,h2,hk,hy,q⟩:=h
 cases rx
 obtain ⟨u,rfl,ru⟩:=rv.one
 obtain ⟨t,rfl⟩:=ru
 obtain ⟨z,its,n,r,hl,e⟩:=I.lstM hH
 obtain ⟨w,hw,rw'⟩:=r.get hy
 refine call_meets F.slot_list_pop ⟨_,e,rfl⟩ F.entry_list_pop (F.args_list_pop_2 _ _)
  (MeetsSeq.list_pop_at l its.toArray n i t k w (fitsIndex_both h1 h2) (by rw [List.size_toArray,<- hl]; exact hk) (by rw [<- Array.getElem?_toList]; exact hw) (by rw [List.size_toArray]; lia)) ⟨e,?_⟩
 refine ⟨y,_,I.lset (its':=its.eraseIdx k) hH e ?_ (r.eraseIdx k) ?_,rw',q⟩
 ·show its.toArray.eraseIdxIfInBounds k = (its.eraseIdx k).toArray
  rw [List.eraseIdxIfInBounds_toArray]
 ·have:=ZdV xs k
  lia
def Zlj:R2:=fun x y H Q=>∃ l b xs zs,x = .ref l /\ y = .ref b /\ H l = some (.lst xs) /\ H b = some (.lst zs) /\ xs.length + zs.length <= sizeLine /\ ∀ p,H p = none -> Q (.ref p) (upd H p (.lst (xs ++ zs)))
theorem ZjH:OpR X (binaryOp .Add) Zlj:=by
 intro pins s σ H x y v u Q I rx ry h
 obtain ⟨l,b,xs,zs,rfl,rfl,hH,hB,hz,q⟩:=h
 cases rx
 cases ry
 obtain ⟨z,its,n,r,hl,e⟩:=I.lstM hH
 obtain ⟨z2,its2,n2,r2,hl2,e2⟩:=I.lstM hB
 refine PySem.P.add_list e e2 ?_ (by rw [List.size_toArray,List.size_toArray]; lia)
 have ea:its.toArray ++ its2.toArray = (its ++ its2).toArray:=by simp
 rw [ea]
 exact ⟨.ref _,_,I.lnew (t':=s.toks) (r.append r2) (by rw [List.length_append]; lia),rfl,q _ I.fresh⟩
end
section
variable {prog:Program} {w:World} {A:Around} {E:Value -> Shared -> Prop} {s:Shared}
end
section
variable {X:Cx}
end
end L2
namespace Att
open PySem PySem.W PySem.Calls PyProof.Rows
theorem ZcG {P:Params} {h:Heap}:∀ (ns:List Int) (vs:List Value),WellAll P h vs (ns.map WData.int) -> IntsAre vs ns:=by
 intro ns
 induction ns with
 | nil =>
  intro vs w
  rw [List.map_nil] at w
  cases w
  exact .nil
 | cons n ns ih =>
  intro vs w
  rw [List.map_cons] at w
  cases w with
  | cons a b =>
   cases a
   exact .cons _ _ (ih _ b)
theorem Zhg {l:OpenLaw} {n:Nat} (hn:l.most = some n) {P:Params} {h:Heap} {args:List WData} {vals:List Value}
  (hpre:l.row.toRowW.claim.pre args = true) (hwl:WellAll P h vals args) :
  ∃ a vs ns,vals = [Value.ref a] /\ args = [WData.list (ns.map WData.int)] /\ h.get? a = some { cls:=.type "list",data:=.seq vs.toArray } /\ IntsAre vs ns /\ ns.length <= n:=by
 have hsh:WShape.hasAll [] args [.list .int] = true:=(pre_splitW hpre).1
 have hc:l.pre.holds [] { args:=args } = true:=(pre_splitW hpre).2
 obtain ⟨d,r,rfl,h1,h2⟩:=hasAllW_cons hsh
 obtain rfl:=hasAllW_nil h2
 obtain ⟨xs,rfl,h3⟩:=hasW_list h1
 obtain ⟨ns,rfl⟩:=items_int h3
 have hlen:ns.length <= n:=by
  unfold OpenLaw.pre at hc
  have h4:(WTm.not (.lt (.lit (.int (n:Int))) (.len (.arg 0)))).holds [] { args:=[.list (ns.map .int)] } = true:=by
   have h4:=(holds_andW hc).1
   rw [hn] at h4
   exact h4
  have h5:=condW_of h4 (w_not (w_lt w_lit (w_len_list (w_arg rfl))))
  rw [List.length_map] at h5
  refine Nat.le_of_not_lt fun q=>?_
  have q':(n:Int) < ((ns.length:Nat):Int):=by lia
  first
   | (rw [decide_eq_true q'] at h5; exact absurd h5 (by decide))
   | (simp at h5; lia)
 cases hwl with
 | cons w1 w2 =>
  cases w2
  cases w1 with
  | list ho hall=>exact ⟨_,_,ns,rfl,rfl,ho,ZcG ns _ hall,hlen⟩
theorem ZhV (l:OpenLaw) (args:List WData):l.row.toRowW.claim.post args (.bool true) args = true :=
 postW_of (r:=l.row.toRowW) (X:=(true == true))
  (show WShape.has [] (.bool true) .bool = true by first | rfl | decide | simp [WShape.has,WShape.arms,WShape.armsAll])
  (show (WTm.eq .res (.lit (.bool true))).value [] { args:=args,res:=some (.bool true),after:=args } = some (.bool (true == true)) from w_eq_bool (w_res rfl) w_lit) rfl
theorem Zev {l:OpenLaw} {n:Nat} {q:Program} {loose:List Str} {XP:(Str -> Option Value) -> Heap -> Prop} {YP:World -> Heap -> Prop} {d:DefRec}
  (hn:l.most = some n) (hdf:d.params.defaults = [])
  (call:∀ (w:World) (s₀ s₁ : Shared) (mg mb:Str -> Option Value) (fa:Addr) (o:Obj) (pm cd doc:Value) (a:Addr) (vs:List Value) (ns:List Int),
   Ground q loose [] XP w s₀ mg mb s₁.heap -> YP w s₁.heap ->
   s₁.heap.get? fa = some o -> o.data = .func (docDef d.name d.params d.body d.scope pm cd doc) -> s₁.heap.CodeRec cd d.name -> mg d.name = some (.ref fa) ->
   s₁.heap.get? a = some { cls:=.type "list",data:=.seq vs.toArray } -> IntsAre vs ns -> ns.length <= n -> s₁.gens = #[] ->
   codeAny (model l.prog w) callerA (.call (.ref fa) ⟨[.ref a],[]⟩) (fun r s'=>r = .ok (.ret (.bool true)) /\ OldK s₁.heap s'.heap /\ s'.os = s₁.os /\ AllBare s'.gens) s₁) :
  WalkO q loose XP YP l.row.toRowW d [] (fun f vs=>PySem.call f vs):=by
 intro w s₀ s₁ mg mb G Y fa o pm cd doc dV kV ho hd hcd hD hmg hg args vals as hpre hlay hrd hwl hlo
 obtain rfl:dV = .none:=Dflts.none hD hdf
 obtain rfl:kV = .none:=Dflts.noKw hD
 obtain ⟨a,vs,ns,rfl,rfl,hobj,hints,hlen⟩:=Zhg hn hpre hwl
 refine enter_call (codeAny_mono (call w s₀ s₁ mg mb fa o pm cd doc a vs ns G Y ho (fd_plain hd) hcd hmg hobj hints hlen hg) fun r s' hq=>?_)
 obtain ⟨rfl,h2,h3,h4⟩:=hq
 exact ⟨.inl ⟨.bool true,.bool true,[],rfl,fun _=>rfl,.bool true,ZhV l _,fun _=>⟨List.Pairwise.nil,fun _ hm=>(nomatch hm)⟩⟩,h2,h3,h4⟩
section
variable {prog:Program} {w:World} {A:Around} {E:Value -> Shared -> Prop} {s:Shared} {K:Frag}
end
end Att
namespace L2
open PySem PySem.Spec PyProof.Rows
theorem Zd9:∀ {vs:List Value} {ns:List Int},IntsAre vs ns -> Vals (ns.map V.int) vs
 | _,_,.nil=>.nil
 | _,_,.cons n t h=>.cons ⟨t,rfl⟩ (Zd9 h)
def Only (H:Hp):Prop := ∀ b,H b = none \/ ∃ o xs,H b = some (.frz o (.lst xs))
theorem Zh0 {P:Program} {w:World} {K:PySem.W.Frag} {mg mb:Str -> Option Value} {CX:CXT} {k:Nat} {fa a:Addr} {fd:FuncData} {x:Str} {sp:Sp} {s₁ : Shared} {vs:List Value} {ns:List Int}
  (KX:K.In s₁.heap) (hns:s₁.heap.Ns mainGlobals mg) (hb:s₁.heap.Ns builtinsNs mb) (hbb:∀ x:Str,x ≠ "__name__" -> mb x = bootBuiltins x) (hlim:s₁.heap.NoLimit) (hg:s₁.gens = #[])
  (ha:s₁.heap.get? a = some { cls:=.type "list",data:=.seq vs.toArray }) (hi:IntsAre vs ns) (hl:ns.length <= sizeLine) (hr:Room k callerA)
  (F:∀ base:Heap,K.In base -> base.Ns mainGlobals mg -> FnOk P w K mg base CX k fa fd [x] sp) (hbind:∀ (s:Shared) (u:Value),BindsTo s fd ⟨[u],[]⟩ [(x,u)])
  (hsp:∀ H:Hp,Only H -> SqL K H a (ns.map V.int) -> sp [.ref a] H (fun v _=>v = .bl true) fun _ _ _=>False)
  (hCX:∀ H e s',CX [] H s₁ (fun _ _ _=>False) e s' -> False) :
  codeAny (model P w) callerA (.call (.ref fa) ⟨[.ref a],[]⟩) (fun r s'=>r = .ok (.ret (.bool true)) /\ OldK s₁.heap s'.heap /\ s'.os = s₁.os /\ AllBare s'.gens) s₁ := by
 have rv:=Zd9 hi
 have lenV:=hi.length
 have core:∀ H:Hp,Only H -> SqL K H a (ns.map V.int) -> HOk P w H s₁.heap -> (∀ b,H b ≠ none -> b = a) -> (H a ≠ none -> K.lookup a = none) ->
   codeAny (model P w) callerA (.call (.ref fa) ⟨[.ref a],[]⟩) (fun r s'=>r = .ok (.ret (.bool true)) /\ OldK s₁.heap s'.heap /\ s'.os = s₁.os /\ AllBare s'.gens) s₁ := by
  intro H hO hS hok hA hK
  have base_of:∀ {b:Addr} {o:Obj},s₁.heap.get? b = some o -> H b = none -> (Zid s₁.heap H).get? b = some o:=fun e n=>Zim e n
  have noA:∀ {b:Addr} {o:Obj} {es:Array DictEntry} {ep:Nat},s₁.heap.get? b = some o -> o.data = .dict es ep -> H b = none:=fun {b o es ep} e d=>by
   cases q:H b with
   | none=>rfl
   | some u =>
    have e':b = a:=hA b (by rw [q]; simp)
    subst e'
    rw [ha] at e; cases e
    have d':Data.seq vs.toArray _ = Data.dict es ep:=d
    cases d'
  have nsK:∀ {b:Addr} {m:Str -> Option Value},s₁.heap.Ns b m -> (Zid s₁.heap H).Ns b m:=fun {b m} ⟨o,es,ep,e,d,r⟩=>⟨o,es,ep,base_of e (noA e d),d,r⟩
  have hKb:K.In (Zid s₁.heap H):=fun b o e=>base_of (KX b o e) (by
   cases q:H b with
   | none=>rfl
   | some u =>
    have e':b = a:=hA b (by rw [q]; simp)
    subst e'
    rw [hK (by rw [q]; simp)] at e; cases e)
  have hM:Mod K mg (Zid s₁.heap H):=⟨hKb,nsK hns,⟨mb,nsK hb,hbb⟩,let ⟨mc,h1,h2⟩:=hlim; ⟨mc,nsK h1,h2⟩⟩
  have e0:Env0 P w K mg (Zid s₁.heap H) callerA [] s₁ H:=⟨rfl,hM,fun b o e=>Zjy e,Nat.le_of_eq (ZhM _ _),trivial,fun b hb=>absurd (show b ∈ ([]:List Addr) from hb) (by simp),hok,.of_eq hg⟩
  refine codeAny_mono ((F _ hKb (nsK hns)).run callerA [] s₁ H ⟨[.ref a],[]⟩ [.ref a] [.ref a] _ _ hr e0 (hbind s₁ (.ref a)) (.cons rfl .nil) (hsp H hO hS)) fun r s' h=>?_
  cases r with
  | error e=>exact (hCX H e s' h).elim
  | ok fl =>
   cases fl with
   | next=>exact False.elim h
   | brk=>exact False.elim h
   | cont=>exact False.elim h
   | ret u =>
    obtain ⟨v,H',os,bare,un,hok',r',q⟩:=h
    have q':v = .bl true:=q
    subst q'
    obtain rfl:u = Value.bool true:=r'
    refine ⟨rfl,OldK.of_keep fun b o e=>?_,os,bare⟩
    cases q:H b with
    | none=>exact un.keep b o e q (by intro z; exact absurd (show b ∈ ([]:List Addr) from z) (by simp)) (by simp)
    | some u =>
     rcases hO b with z | ⟨ob,xs,z⟩
     ·rw [q] at z; cases z
     ·have z2:=un.frzs b ob _ z
      obtain ⟨e1,_⟩:=hok b _ z
      obtain ⟨e2,_⟩:=hok' b _ z2
      rw [e] at e1; cases e1
      exact e2
 cases hk:K.lookup a with
 | some o =>
  have e:=KX a o hk
  rw [ha] at e
  cases e
  refine core (fun _=>none) (fun _=>.inl rfl) (.inr ⟨_,vs.toArray,_,hk,rfl,rfl,rfl,by rw [List.size_toArray,lenV]; exact hl,by simpa using rv⟩) (fun b u z=>by have z':(none:Option HO) = some u:=z; cases z') (fun b z=>absurd rfl z) fun z=>absurd rfl z
 | none =>
  refine core (fun b=>if b = a then some (.frz { cls:=.type "list",data:=.seq vs.toArray } (.lst (ns.map V.int))) else none) (fun b=>?_) (.inl (.inr ⟨{ cls:=.type "list",data:=.seq vs.toArray },if_pos rfl⟩)) (fun b u z=>?_) (fun b z=>?_) fun _=>hk
  ·by_cases hb:b = a
   ·exact .inr ⟨_,_,if_pos hb⟩
   ·exact .inl (if_neg hb)
  ·by_cases hb:b = a
   ·have z':=(if_pos hb).symm.trans z
    cases z'
    subst hb
    exact ⟨ha,by rw [List.length_map]; exact hl,vs,_,rv,ha⟩
   ·have z':=(if_neg hb).symm.trans z
    cases z'
  ·by_cases hb:b = a
   ·exact hb
   ·exact absurd (if_neg hb) z
end L2
namespace L2
open PySem PySem.Spec PyProof.Rows
theorem Zhn {l:PySem.W.OpenLaw} {n k:Nat} {q:Program} {loose:List Str} {XP:(Str -> Option Value) -> Heap -> Prop} {YP:World -> Heap -> Prop} {d:DefRec} {K:Params -> PySem.W.Frag} {CX:World -> CXT} {sp:World -> Sp} {x:Str}
  (hn:l.most = some n) (hn2:n <= sizeLine) (hdf:d.params.defaults = []) (hr:Room k callerA)
  (hY:∀ (w:World) (h:Heap),YP w h -> (K w.params).In h)
  (F:∀ (w:World) (mg:Str -> Option Value) (fa:Addr) (h:Heap),(K w.params).In h -> h.Ns mainGlobals mg -> mg d.name = some (.ref fa) ->
   ∃ fd:FuncData,(∀ (s:Shared) (u:Value),BindsTo s fd ⟨[u],[]⟩ [(x,u)]) /\
    ∀ base:Heap,(K w.params).In base -> base.Ns mainGlobals mg -> FnOk l.prog w (K w.params) mg base (CX w) k fa fd [x] (sp w))
  (hsp:∀ (w:World) (H:Hp) (a:Addr) (ns:List Int),ns.length <= n -> Only H -> SqL (K w.params) H a (ns.map V.int) -> sp w [.ref a] H (fun v _=>v = .bl true) fun _ _ _=>False)
  (hCX:∀ (w:World) (H:Hp) (s:Shared) (e:Value) (s':Shared),CX w [] H s (fun _ _ _=>False) e s' -> False) :
  PySem.W.WalkO q loose XP YP l.row.toRowW d [] (fun f vs=>PySem.call f vs):=by
 refine Att.Zev hn hdf fun w s₀ s₁ mg mb fa o pm cd doc a vs ns G Y ho hd hcd hmg hobj hints hlen hg=>?_
 have KX:=hY w _ Y
 obtain ⟨fd,hb,hF⟩:=F w mg fa _ KX G.T.g hmg
 exact Zh0 KX G.T.g G.T.b G.T.builtins G.T.nolimit hg hobj hints (Nat.le_trans hlen hn2) hr hF hb (fun H hO hS=>hsp w H a ns hlen hO hS) fun H e s'=>hCX w H s₁ e s'
end L2
/- THE LAST THEOREM (shape; LID,My.* are yours):
   My.Adr: a structure of the addresses that your layer names (classes,functions); My.Txt K t: a structure (Prop) of the equations over K;
   My.txt_mk:{K} {implicit addresses ..} (e1:nsIn K mainGlobals "law" = some (some (.ref f))) (e2:K.lookup f = some ⟨oc,od,.func (fnOf "law" "law" params body scope dV kV doc pm an cdv ct),sl⟩) (e3:codeIn K cdv "law" = true) .. : ∃ t,My.Txt K t
set_option maxRecDepth 100000 in
set_option maxHeartbeats 0 in
theorem PySem.Challenge.cw_LID_holds : PySem.Challenge.rw_LID.Holds := by
 w_on; o_law; k_head; (case hw=>w_witness2)
 k_fill
 refine L2.Zhn (l:=PySem.Challenge.rw_LID) (n:=63) (k:=40) (x := "script") (CX:=fun w=>..) (sp:=fun _=>My.sp_law) rfl (by decide) rfl ⟨rfl,by decide,by decide⟩ (fun w h Y=>PySem.W.kIn_of Y) ?F ?S ?C
 case F =>
  intro w mg fa h KX G hmg
  have T:∃ t,My.Txt (L2.KOf KX) t:=by
   dsimp only [L2.KOf]                          -- K must stand as «<heap const> w.params» for k_is
   refine' My.txt_mk ?e1 ?e2 ?e3 ..
   (case e1=>PySem.W.k_is)                    -- in the order: a name -> its address -> its object -> its parts
   (case e2=>PySem.W.k_is)
   ..
  obtain ⟨t,T⟩:=T
  have e0:=hmg.symm.trans (PySem.W.mg_of KX G T.law)
  cases e0                                       -- fa is the law's own address
  exact ⟨_,fun s u=>.of_eq rfl,fun base kb nb=>My.law_fn T kb nb⟩     -- if «.of_eq rfl» comes too early: refine' ⟨_,?b,fun base kb nb=>My.law_fn T kb nb⟩; exact fun s u=>.of_eq rfl
 case S=>exact fun w H a ns hl hO hS=>..
 case C=>exact ..
(the tactic k_is has no namespace: write k_is) -/
namespace L2
open PySem PySem.Spec PyProof.Rows
def ZC (s:Stmt):Arguments:=match s with
 | .FunctionDef _ a _ _ _ _ _ _ _ _=>a
 | _=>{ posonlyargs:=[],args:=[],vararg:=none,kwonlyargs:=[],kw_defaults:=[],kwarg:=none,defaults:=[] }
def Zz (s:Stmt):List Stmt:=match s with
 | .FunctionDef _ _ b _ _ _ _ _ _ _=>b
 | _=>[]
def Zg (s:Stmt):Scope:=match s with
 | .FunctionDef _ _ _ _ _ _ sc _ _ _=>sc
 | _=>{ kind:=.function,names:=[],isGenerator:=false,isCoroutine:=false }
abbrev CX0:CXT:=fun _ _ _ _ _ _=>False
abbrev E0:XK:=fun _ _ _=>False
theorem ZkH {X:Cx}:Zhk CX0 X E0:=fun _ _ _ _ _ _ _ h=>h.elim
structure Fun (K:PySem.W.Frag) (x qual:Str) (st:Stmt) (f:Addr) (fd:FuncData):Prop where
 ex:∃ (oc:Value) (od:Option Addr) (kV doc pm:Value) (an:Option Addr) (cdv ct:Value) (osl:Array (Option Value)),
  fd = PySem.W.fnOf x qual (ZC st) (Zz st) (Zg st) .none kV doc pm an cdv ct /\ K.lookup f = some ⟨oc,od,.func fd,osl⟩ /\ PySem.W.codeIn K cdv qual = true
 kp:PySem.W.keepIn K (.ref f) = true
section
variable {P:Program} {w:World} {K:PySem.W.Frag} {mg:Str -> Option Value} {base:Heap}
theorem Fun.ok {x qual:Str} {st:Stmt} {f:Addr} {fd:FuncData} {N ps:List Str} {k:Nat} {sp:Sp} (F:Fun K x qual st f fd) (S:FnScope N ps (Zg st)) (len:∀ vs H Q E,sp vs H Q E -> vs.length = ps.length)
  (hbody:∀ (cdv:Value) (A:Around) (outer:List Env) (s:Shared) (H:Hp) (vs:List V) (Q:VK) (E:XK),Room k (A.deeper (envOfC qual (Zg st) s.heap.objs.size f cdv)) -> sp vs H Q E ->
   ∃ t,PSs (ZjD CX0 P w K mg base N qual (Zg st) f cdv A outer s H E).nox (Zz st) t /\ t { nx:=fun _ H'=>Q .non H',rt:=Q } (start N vs) H):FnOk P w K mg base CX0 (k + 1) f fd ps sp:=by
 obtain ⟨oc,od,kV,doc,pm,an,cdv,ct,osl,rfl,lk,hcd⟩:=F.ex
 refine ZkZ lk hcd S len fun A outer s H vs Q E hr hsp=>?_
 obtain ⟨t,h,q⟩:=hbody cdv A outer s H vs Q E hr hsp
 exact ⟨t,h.nox,q⟩
theorem Fun.binds {x qual:Str} {st:Stmt} {f:Addr} {fd:FuncData} {ps:List Str} (F:Fun K x qual st f fd)
  (h:∀ (kV doc pm:Value) (an:Option Addr) (cdv ct:Value) (us:List Value),us.length = ps.length -> bindArgs (PySem.W.fnOf x qual (ZC st) (Zz st) (Zg st) .none kV doc pm an cdv ct) ⟨us,[]⟩ = pure (ps.zip us)):Binds K fd ps []:=by
 obtain ⟨oc,od,kV,doc,pm,an,cdv,ct,osl,rfl,lk,hcd⟩:=F.ex
 exact .all (h kV doc pm an cdv ct)
theorem Zam {x qual:Str} {st:Stmt} {f:Addr} {oc:Value} {od an:Option Addr} {osl:Array (Option Value)} {kV doc pm cdv ct:Value} (l:K.lookup f = some ⟨oc,od,.func (PySem.W.fnOf x qual (ZC st) (Zz st) (Zg st) .none kV doc pm an cdv ct),osl⟩)
  (c:PySem.W.codeIn K cdv qual = true) (k:PySem.W.keepIn K (.ref f) = true):Fun K x qual st f (PySem.W.fnOf x qual (ZC st) (Zz st) (Zg st) .none kV doc pm an cdv ct):=⟨⟨oc,od,kV,doc,pm,an,cdv,ct,osl,rfl,l,c⟩,k⟩
end
section
variable {X:Cx}
theorem pv (i:Nat) {x:Str} {pos:Pos} (hN:X.N[i]? = some x:=by rfl) (hv:Vis X.env.scope x:=by first | exact Or.inl rfl | exact Or.inr (Or.inl rfl) | exact Or.inr (Or.inr rfl)) (hd:(x == ("__debug__" : Str)) = false:=by decide)
  (hcd:(x == ("__classdict__" : Str)) = false:=by decide):PE X (.Name x pos) (Zk1 i):=Zkg hN hv hd hcd
end
theorem Za3 {A B:Prop} (h:B):if false = true then A else B:=by
 rw [if_neg Bool.false_ne_true]
 exact h
theorem Zcj {A B:Prop} (h:A):if true = true then A else B:=by
 rw [if_pos rfl]
 exact h
theorem ZbE {c A B:Prop} [Decidable c] (h1:c -> A) (h2 : ¬ c -> B):if c then A else B:=by
 by_cases h:c
 ·rw [if_pos h]
  exact h1 h
 ·rw [if_neg h]
  exact h2 h
theorem Zje {c A B:Prop} [Decidable c] (hc:c) (h:B):if (!decide c) = true then A else B:=by
 rw [decide_eq_true hc]
 exact Za3 h
def Zh (H H':Hp):Prop := ∀ b o,H b = some o -> H' b = some o
theorem Zh.trans {H H1 H2:Hp} (a:Zh H H1) (b:Zh H1 H2):Zh H H2:=fun c o h=>b c o (a c o h)
theorem Zh.free {H H':Hp} (e:Zh H H') {l:Addr} (h:H' l = Option.none):H l = Option.none:=by
 cases q:H l with
 | none=>rfl
 | some o =>
  rw [e l o q] at h
  cases h
theorem Zh.seq {K:PySem.W.Frag} {H H':Hp} {a:Addr} {xs:List V} (e:Zh H H') (h:SqL K H a xs):SqL K H' a xs:=by
 rcases h with (h | ⟨o,h⟩) | h
 ·exact .inl (.inl (e _ _ h))
 ·exact .inl (.inr ⟨o,e _ _ h⟩)
 ·exact .inr h
end L2
namespace FgM
inductive Gr (A:Type) where
 | nil
 | cons (t:A) (w o:Gr A)
section
variable {A:Type}
def words (sl:A):Gr A -> List A
 | .nil=>[]
 | .cons t w o=>t :: (words sl w ++ sl :: words sl o)
section
variable [DecidableEq A]
def Can (sl:A):Nat -> List A -> Prop
 | h,[]=>h = 0
 | h,w :: ws=>if w = sl then 1 <= h /\ Can sl (h - 1) ws else Can sl (h + 1) ws
theorem Zb1 {sl w:A} (hw:w ≠ sl) {h:Nat} {ws:List A}:Can sl h (w :: ws) ↔ Can sl (h + 1) ws:=by
 simp [Can,hw]
theorem Zb4 {sl:A} {h:Nat} {ws:List A}:Can sl h (sl :: ws) ↔ 1 <= h /\ Can sl (h - 1) ws:=by
 simp [Can]
theorem Zfg {sl:A}:∀ (c:Nat) {h:Nat} {ws:List A},c <= h -> Can sl (h - c) ws -> Can sl h (List.replicate c sl ++ ws)
 | 0,h,ws,_,k=>by simpa using k
 | c + 1,h,ws,hc,k=>by
  rw [List.replicate_succ,List.cons_append,Zb4]
  refine ⟨by lia,Zfg c (by lia) ?_⟩
  have:h - 1 - c = h - (c + 1):=by lia
  rw [this]; exact k
theorem ZjB {sl:A} (h:Nat):Can sl h (List.replicate h sl):=by
 have:=Zfg (sl:=sl) h (h:=h) (ws:=[]) (Nat.le_refl h) (by simp [Can])
 simpa using this
def Zei (sl:A):Gr A -> Prop
 | .nil=>True
 | .cons t w o=>t ≠ sl /\ Zei sl w /\ Zei sl o
def hgt (sl:A):List A -> Int
 | []=>0
 | w :: ws=>(if w = sl then -1 else 1) + hgt sl ws
theorem Zbs (sl:A):∀ xs ys:List A,hgt sl (xs ++ ys) = hgt sl xs + hgt sl ys
 | [],ys=>by simp [hgt]
 | x :: xs,ys=>by simp only [List.cons_append,hgt,Zbs sl xs ys]; lia
theorem ZbM {sl:A}:∀ {g:Gr A},Zei sl g -> hgt sl (words sl g) = 0
 | .nil,_=>rfl
 | .cons t w o,⟨h1,h2,h3⟩=>by
  simp only [words,hgt,Zbs,ZbM h2,ZbM h3,if_neg h1,if_true]
  lia
theorem ZdE {sl:A}:∀ {g:Gr A},Zei sl g -> ∀ i:Nat,0 <= hgt sl ((words sl g).take i)
 | .nil,_,i=>by simp [words,hgt]
 | .cons t w o,⟨h1,h2,h3⟩,i=>by
  cases i with
  | zero=>simp [hgt]
  | succ i =>
   simp only [words,List.take_succ_cons,hgt,if_neg h1,List.take_append,Zbs]
   have a:=ZdE h2 i
   cases e:i - (words sl w).length with
   | zero=>simp only [List.take_zero,hgt]; lia
   | succ k =>
    have z:hgt sl ((words sl w).take i) = 0:=by
     rw [List.take_of_length_le (by lia)]; exact ZbM h2
    simp only [List.take_succ_cons,hgt,if_true,z]
    have:=ZdE h3 k
    lia
end
end
end FgM
namespace L2
open PySem PySem.Spec PyProof.Rows
theorem ZeI:bootBuiltins "list" = some (.type "list"):=by decide +kernel
theorem Zas:bootBuiltins "tuple" = some (.type "tuple"):=by decide +kernel
theorem ZiS:bootBuiltins "str" = some (.type "str"):=by decide +kernel
theorem ZhK:bootBuiltins "int" = some (.type "int"):=by decide +kernel
theorem Zjm:bootBuiltins "bool" = some (.type "bool"):=by decide +kernel
theorem Zg0:bootBuiltins "dict" = some (.type "dict"):=by decide +kernel
theorem Zke:bootBuiltins "min" = some (.builtin "min"):=by decide +kernel
theorem Zai:bootBuiltins "isinstance" = some (.builtin "isinstance"):=by decide +kernel
section
variable {X:Cx}
theorem Zga {x:Str} {n:String} {pos:Pos} (hg:Gl X x) (hm:X.mg x = none) (hv:bootBuiltins x = some (.type n)) (hn:x ≠ "__name__" := by decide) (hd:(x == ("__debug__" : Str)) = false:=by decide):PE X (.Name x pos) (tC (.ty n)) :=
 Zju (v:=.ty n) hg hm hv rfl hn hd
theorem Zax:ZcF X (.builtin "isinstance") (fun xs H Q=>∃ x n t b,xs = [x,.ty n] /\ TyOf X.K H x t /\ PySem.W.kitOne X.K t (.type n) = some b /\ Q (.bl b) H):=by
 intro pins s σ H xs us Q I r h
 obtain ⟨x,n,t,b,rfl,ty,e,q⟩:=h
 obtain ⟨u,v,rfl,rx,ry⟩:=Vals.two r
 obtain rfl:v = Value.type n:=ry
 exact Zhh I rx ty e fun tk=>⟨.bl b,H,I.tok tk,rfl,q⟩
end
structure Has (P:Program) (w:World) (K:PySem.W.Frag) (mg:Str -> Option Value) (base:Heap) (x:Str) (ps:List Str) (k:Nat) (sp:Sp):Prop where
 ex:∃ (f:Addr) (fd:FuncData),FnOk P w K mg base CX0 k f fd ps sp /\ Binds K fd ps [] /\ PySem.W.keepIn K (.ref f) = true /\ mg x = some (.ref f)
section
variable {X:Cx} {x:Str} {ps:List Str} {j k:Nat} {sp:Sp} {e:Expr} {es:List Expr} {t:TA} {p pos:Pos}
theorem FnOk.room {P:Program} {w:World} {K:PySem.W.Frag} {mg:Str -> Option Value} {base:Heap} {CX:CXT} {f:Addr} {fd:FuncData} (F:FnOk P w K mg base CX j f fd ps sp) (h:j <= k):FnOk P w K mg base CX k f fd ps sp :=
 ⟨F.len,fun A outer s H args us vs Q E hr=>F.run A outer s H args us vs Q E (hr.mono h)⟩
theorem Zw (G:Has X.prog X.w X.K X.mg X.base x ps j sp) (hr:Room k X.A) (hg:Gl X x) (ha:PA X (e :: es) t) (hk:j <= k:=by decide) (hdb:(x == ("__debug__" : Str)) = false:=by decide)
  (he:starEach (e :: es) X.env = (false,eval e X.env) :: starEach es X.env:=by rfl) (hpl:(backTo pos (starEach es X.env)).any (·.1) = false:=by rfl) :
  PE X (.Call (.Name x p) (e :: es) [] pos) (ZjS sp [] E0 t):=by
 obtain ⟨f,fd,F,b,kp,m⟩:=G.ex
 exact Zjo (F.room hk) hr hg m kp b .nil ZkH ha hdb he hpl
end
section
variable {X:Cx}
end
section
variable {X:Cx}
end
end L2
namespace HT
open PySem PyProof.Rows
section
variable {prog:Program} {w:World} {A:Around} {E:Value -> Shared -> Prop} {s:Shared}
end
end HT
namespace L2
open PySem PySem.Spec PyProof.Rows
mutual
inductive Dp (K:PySem.W.Frag) (H:Hp):V -> PyData -> Prop
 | non:Dp K H .non .none
 | bl (b:Bool):Dp K H (.bl b) (.bool b)
 | int (i:Int):Dp K H (.int i) (.int i)
 | str (x:Str):Dp K H (.str x) (.str x)
 | lst {a:Addr} {xs:List V} {ds:List PyData}:SqL K H a xs -> DpAll K H xs ds -> Dp K H (.ref a) (.list ds)
 | tup {a:Addr} {xs:List V} {ds:List PyData}:SqT K H a xs -> DpAll K H xs ds -> Dp K H (.ref a) (.tuple ds)
inductive DpAll (K:PySem.W.Frag) (H:Hp):List V -> List PyData -> Prop
 | nil:DpAll K H [] []
 | cons {v:V} {vs:List V} {d:PyData} {ds:List PyData}:Dp K H v d -> DpAll K H vs ds -> DpAll K H (v :: vs) (d :: ds)
end
section
variable {X:Cx} {pins:List (Addr × Obj)} {σ : St} {H:Hp} {s:Shared}
mutual
theorem Dp.reads (I:Inv X pins σ H s):∀ {v:V} {d:PyData} {u:Value},Dp X.K H v d -> RelV v u -> ∃ as,Reads s.heap u d as
 | _,_,u,.non,r=>by
  obtain rfl:u = Value.none:=r
  exact ⟨_,.none⟩
 | _,_,u,.bl b,r=>by
  obtain rfl:u = Value.bool b:=r
  exact ⟨_,.bool b⟩
 | _,_,_,.int i,⟨t,e⟩=>by
  subst e
  exact ⟨_,.int i t⟩
 | _,_,_,.str x,⟨t,e⟩=>by
  subst e
  exact ⟨_,.str x t⟩
 | _,_,u,@Dp.lst _ _ a xs ds hq hall,r=>by
  obtain rfl:u = Value.ref a:=r
  obtain ⟨its,rv,⟨o,n,e,hc,_,hd⟩,_⟩:=I.list hq
  obtain ⟨as,ha⟩:=DpAll.reads I hall rv
  exact ⟨_,.list e hc hd (by simpa using ha)⟩
 | _,_,u,@Dp.tup _ _ a xs ds hq hall,r=>by
  obtain rfl:u = Value.ref a:=r
  obtain ⟨its,rv,⟨o,e,hc,n,hd⟩,_⟩:=I.tuple hq
  obtain ⟨as,ha⟩:=DpAll.reads I hall rv
  exact ⟨_,.tuple e hc hd (by simpa using ha)⟩
theorem DpAll.reads (I:Inv X pins σ H s):∀ {vs:List V} {ds:List PyData} {us:List Value},DpAll X.K H vs ds -> Vals vs us -> ∃ as,ReadsAll s.heap us ds as
 | _,_,_,.nil,.nil=>⟨_,.nil⟩
 | _,_,_,.cons h t,.cons r rs=>by
  obtain ⟨as,ha⟩:=Dp.reads I h r
  obtain ⟨bs,hb⟩:=DpAll.reads I t rs
  exact ⟨_,.cons ha hb⟩
end
end
section
variable {X:Cx}
def ZlA (K:PySem.W.Frag) (neg:Bool):R2:=fun x y H Q=>∃ d e,Dp K H x d /\ Dp K H y e /\ d.canLay0 = true /\ e.canLay0 = true /\ min d.depth e.depth <= 200 /\ Q (.bl (if neg then !PyData.eqv d e else PyData.eqv d e)) H
theorem Zkl (hu:X.A.units + 200 < cLine):OpR X (compareOp .NotEq) (ZlA X.K true):=by
 intro pins s σ H x y v u Q I rx ry h
 obtain ⟨d,e,hx,hy,h1,h2,hd,q⟩:=h
 obtain ⟨as,ra⟩:=hx.reads I rx
 obtain ⟨bs,rb⟩:=hy.reads I ry
 exact PySem.SeqAt.compareNe_reads ra rb h1 h2 (by lia) ⟨.bl _,H,I,rfl,q⟩
theorem Zb7 {A:Around} {k:Nat} (hr:Room k A):A.units + 200 < cLine:=by
 have:=hr.un
 lia
end
section
variable {X:Cx} {e:Expr} {te:TE} {pos p2 p3 p4:Pos} {j:Nat}
end
theorem Zh.new {H:Hp} {p:Addr} {o:HO} (h:H p = none):Zh H (upd H p o):=fun b u q=>by
 rw [Zk (Zo q h)]
 exact q
theorem Zh.upd_new {H H':Hp} {p:Addr} {o:HO} (h:Zh H H') (hp:H p = none):Zh H (upd H' p o):=fun b u q=>by
 rw [Zk (Zo q hp)]
 exact h b u q
end L2
namespace L2
open PySem PySem.Spec PyProof.Rows
theorem Zdo {H:Hp} {p b:Addr} {o:HO} (h:upd H p o b = none):b ≠ p /\ H b = none:=by
 by_cases e:b = p
 ·subst e
  rw [Zb] at h
  cases h
 ·rw [Zk e] at h
  exact ⟨e,h⟩
end L2
namespace L2
open PySem PySem.Spec PyProof.Rows
theorem cut {X:Cx} {body:List Stmt} {D:Ends} {σ : St} {H:Hp} (n:Nat) (R:St -> Hp -> Prop) (h2:∃ u,PSs X (body.drop n) u /\ ∀ σ' H',R σ' H' -> u D σ' H')
  (h1:∀ u,PSs X (body.drop n) u -> (∀ σ' H',R σ' H' -> u D σ' H') -> ∃ t,PSs X body t /\ t D σ H):∃ t,PSs X body t /\ t D σ H :=
 let ⟨u,a,b⟩:=h2
 h1 u a b
end L2
namespace L2
open PySem PySem.Spec PyProof.Rows
section
variable {X:Cx}
end
end L2
namespace L2
end L2
namespace L2
open PySem PySem.Spec PyProof.Rows
section
variable {X:Cx}
end
end L2
namespace Fg
open PySem L2 FgM
abbrev SL:Str := "/"
def Zhj (t:Str):Prop:=t.cps.toList ≠ [] /\ ∀ c ∈ t.cps.toList,97 <= c /\ c <= 122
def Zki (t:Str):Prop := ∀ c ∈ t.cps.toList,97 <= c /\ c <= 122
theorem Zjp (x y:Str):(x ++ y).cps.toList = x.cps.toList ++ y.cps.toList:=by
 show (x.cps ++ y.cps).toList = _
 simp
theorem Zib {x y:Str} (hx:Zki x) (hy:Zki y):Zki (x ++ y):=fun c hc=>by
 rw [Zjp] at hc
 exact (List.mem_append.mp hc).elim (hx c) (hy c)
theorem Zhj.let0 {t:Str} (h:Zhj t):Zki t:=h.2
theorem Zh9 {c:Nat} (h1:97 <= c) (h2:c <= 122):Zhj ⟨#[c]⟩:=⟨by simp,fun d hd=>by simp at hd; lia⟩
theorem Zhj.ne {t:Str} (h:Zhj t):t ≠ SL:=fun e=>by
 subst e
 have:=h.2 47 (by decide)
 lia
def ABC:Str := "abcdefghijklmnopqrstuvwxyz"
theorem Zjs:∀ n:_root_.Fin 26,97 <= ABC.cps.toList.getD n.val 0 /\ ABC.cps.toList.getD n.val 0 <= 122 /\ n.val < ABC.cps.toList.length:=by decide
theorem ZjO {i:Int} (h0:0 <= i) (h1:i < 26):∃ c,atI ABC.cps.toList i = some c /\ 97 <= c /\ c <= 122:=by
 obtain ⟨n,rfl⟩:=Int.eq_ofNat_of_zero_le h0
 obtain ⟨a,b,c⟩:=Zjs ⟨n,by lia⟩
 refine ⟨_,ZV (List.getElem?_eq_getElem c),?_,?_⟩
 ·rw [List.getD_eq_getElem?_getD,List.getElem?_eq_getElem c] at a
  exact a
 ·rw [List.getD_eq_getElem?_getD,List.getElem?_eq_getElem c] at b
  exact b
theorem Zi5 {ns:List Int} {k:Int} (h0:0 <= k) (h:k < (ns.length:Int)):∃ v:Int,atI (ns.map V.int) k = some (.int v):=by
 obtain ⟨n,rfl⟩:=Int.eq_ofNat_of_zero_le h0
 have hn:n < ns.length:=by lia
 exact ⟨ns[n],ZV (by rw [List.getElem?_map,List.getElem?_eq_getElem hn]; rfl)⟩
end Fg
namespace Fg
open PySem L2 FgM
def Ziz (K:PySem.W.Frag):Sp:=fun vs H Q _=>∃ (a:Addr) (ns:List Int),vs = [.ref a] /\ SqL K H a (ns.map V.int) /\ ns.length <= 63 /\ ∀ H',Q (.bl true) H'
theorem ZeD {n:Nat} (h:n <= 100000):n <= sizeLine:=Nat.le_trans h (by decide)
theorem Zi {n:Nat} (h:n <= 100000):n < sizeLine:=Nat.lt_of_le_of_lt h (by decide)
end Fg
namespace Fg
open PySem L2 FgM
theorem Zjf (x y:Str):(x ++ y).length = x.length + y.length:=by
 show (x.cps ++ y.cps).size = _
 rw [Array.size_append]
 rfl
end Fg
namespace Fg
open PySem L2 FgM
end Fg
namespace Fg
open PySem L2 FgM
end Fg
namespace Fg
open PySem L2 FgM
end Fg
namespace L2
open PySem PySem.Spec PyProof.Rows
section
variable {X:Cx}
theorem Zhb (hu:X.A.units + 200 < cLine):OpR X (compareOp .NotEq) (fun x y H Q=>∃ a b xs,x = .ref a /\ y = .ref b /\ SqL X.K H a xs /\ SqL X.K H b [] /\ Q (.bl (!xs.isEmpty)) H):=by
 intro pins s σ H x y v u Q I rx ry h
 obtain ⟨a,b,xs,rfl,rfl,ha,hb,q⟩:=h
 cases xs with
 | nil=>exact Zkl hu pins s σ H _ _ v u Q I rx ry ⟨.list [],.list [],.lst ha .nil,.lst hb .nil,rfl,rfl,by decide,q⟩
 | cons x xs =>
  cases rx
  cases ry
  obtain ⟨its,r,pl,_⟩:=I.list ha
  obtain ⟨its2,r2,pl2,_⟩:=I.list hb
  have l1:=r.length
  have l2:=r2.length
  refine PySem.SeqAt.RcNeAt.lists_lengths pl.isList pl2.isList ?_ (by lia) X.prog X.w X.xe _ ⟨.bl _,H,I,rfl,q⟩
  rw [List.size_toArray,List.size_toArray,<- l1,<- l2]
  rfl
end
end L2
namespace Fg
open PySem L2 FgM
end Fg
namespace L2
open PySem PySem.Spec PyProof.Rows
section
variable {P:Program} {w:World} {H:Hp} {h h':Heap} {a:Addr} {o:HO}
end
section
variable {X:Cx} {pins:List (Addr × Obj)} {σ : St} {H:Hp} {s:Shared} {h':Heap}
end
section
variable {X:Cx} {tg:Expr}
end
section
variable {X:Cx}
end
section
variable {prog:Program} {w:World} {A:Around} {E:Value -> Shared -> Prop} {s:Shared}
end
section
variable {X:Cx} {iter:Expr} {te:TE} {scope:Scope} {x:Str} {px p1 p2 p3 p4 pos:Pos} {j j2:Nat}
end
end L2
namespace L2
open PySem
end L2
namespace Fg
open PySem L2 FgM
end Fg
namespace L2
open PySem PySem.Spec PyProof.Rows
section
variable {X:Cx} {elts:List Expr} {x1:Nat} {tp:Pos}
end
end L2
namespace L2
open PySem PySem.Spec PyProof.Rows
section
variable {prog:Program} {w:World} {A:Around} {s:Shared} {R:Result -> Shared -> Prop}
abbrev no0:Value -> Shared -> Prop:=fun _ _=>False
theorem Zgg {elt target iter:Expr} {scope:Scope} {pos:Pos} {it acc:Value} {env:Env} (I:Nat -> Shared -> Prop)
  (turn:∀ n s,I n s -> wpAny (model prog w) A (pyNext it) (fun r s1=>match r with
   | none=>R (.ok .next) s1
   | some v=>wpAny (model prog w) A (letOwnedTupleGo target it v) (fun _ s2=>wpAny (model prog w) A (assign target env v) (fun _ s3=>wpAny (model prog w) A (eval elt env) (fun x s4 =>
     wpAny (model prog w) A (call (.builtin "list.append") [acc,x]) (fun _ s5=>∃ m,m < n /\ I m s5) no0 s4) no0 s3) no0 s2) no0 s1) no0 s)
  (n:Nat) (h:I n s):codeAny (model prog w) A (.compLoop (.ListComp elt [⟨target,iter,[],0⟩] scope pos) 0 it acc env) R s:=by
 refine codeAny_loop rfl I (fun n s hI=>?_) n h
 show wpAny _ _ ((compTurn (.ListComp elt [⟨target,iter,[],0⟩] scope pos) 0 it acc env).onRaise (fun x=>do noteFrame x env; theTreesLotGoes x)) _ _ s
 refine wpAny_noted ?_
 rw [compTurn_list1]
 refine wpAny_bind (wpAny_standAt (wpAny_bind (wpAny_mono (turn n s hI) (fun r s1 h1=>?_) fun _ _ h'=>h'.elim)))
 cases r with
 | none=>exact wpAny_pure h1
 | some v =>
  refine wpAny_bind (wpAny_mono h1 (fun _ s2 h2=>?_) fun _ _ h'=>h'.elim)
  refine wpAny_bind (wpAny_mono h2 (fun _ s3 h3=>?_) fun _ _ h'=>h'.elim)
  refine wpAny_bind (wpAny_bind (wpAny_mono h3 (fun x s4 h4=>?_) fun _ _ h'=>h'.elim))
  exact wpAny_bind (wpAny_mono h4 (fun _ s5 h5=>wpAny_pure (wpAny_pure ⟨rfl,h5⟩)) fun _ _ h'=>h'.elim)
end
def Z2 (X:Cx) (N:List Str) (scope:Scope) (cl:List (Str × Addr)) (C:Addr) (fp:List Addr) (s:Shared) (H:Hp):Cx where
 prog:=X.prog
 w:=X.w
 K:=X.K
 mg:=X.mg
 base:=X.base
 A:=X.A
 N:=N
 s₀ := s
 H₀ := H
 env:=compEnvC scope cl C X.env
 outer:=X.stack
 stack:=X.stack
 ex:=fp
 fn:=fun _=>false
 calm:=X.calm
 pn:=[]
 xe:=no0
section
variable {X:Cx} {pins:List (Addr × Obj)} {σ : St} {H:Hp} {s:Shared}
theorem Zhx {N:List Str} {scope:Scope} {cl:List (Str × Addr)} {C:Addr} {fp:List Addr} (I:Inv X pins σ H s) (hk:scope.kind = .function) (hC:s.heap.objs.size <= C) (hcl:∀ x c,cl.lookup x = some c -> X.env.cells.lookup x = some c)
  (hhas:∀ x,((compEnvC scope cl C X.env).kindOf x = some .cell \/ (compEnvC scope cl C X.env).kindOf x = some .free) -> ∃ c,cl.lookup x = some c)
  (hf:∀ b ∈ fp,ZdN X pins H b) (hlt:∀ b ∈ fp,b < s.heap.objs.size):(Z2 X N scope cl C fp s H).Ok where
 mod:=I.ok.mod
 kind:=hk
 glob:=I.ok.glob
 blt:=I.ok.blt
 above:=hC
 inj:=fun x y c e1 e2=>I.ok.inj x y c (hcl x c e1) (hcl y c e2)
 has:=hhas
 cab:=fun x c e=>by cases e
 hd:=I.ok.hd
 frames:=I.ok.frames
 stk:=.inl rfl
 exf:=fun b hb=>⟨fun z=>absurd (Nat.lt_of_lt_of_le (hlt b hb) hC) (by rw [show b = C from z]; exact Nat.lt_irrefl _),fun x c e=>(hf b hb).2.2.2.2.1 x c (hcl x c e)⟩
 bs:=fun b o e=>⟨(I.bs b o e).1,(I.bs b o e).2⟩
 bsz:=Nat.le_trans I.ok.bsz I.sz
 noex:=fun b o e hb=>by
  rcases (hf b hb).2.2.2.1 with z | z
  ·exact I.ok.noex b o e z
  ·exact absurd (Nat.lt_of_lt_of_le (Heap.lt_size e) (Nat.le_trans I.ok.bsz z)) (Nat.lt_irrefl _)
 exfs:=fun b hb hm=>by
  rcases List.mem_cons.mp (I.stkSub b hm) with z | z
  ·exact (hf b hb).2.1 z
  ·exact (hf b hb).2.2.1 z
 funs:=I.stack
 frf:=I.stkFree
def capσ (σ : St) (k:Nat) (cap:List (Str × Nat)):St:=List.replicate k none ++ cap.map fun p=>(σ[p.2]?).getD none
theorem Zch {scope:Scope} {cl:List (Str × Addr)} {fp:List Addr} {tn:List Str} {cap:List (Str × Nat)} {h1:Heap} (I:Inv X pins σ H s) (hk:scope.kind = .function) (hcl:∀ x c,cl.lookup x = some c -> X.env.cells.lookup x = some c)
  (hhas:∀ x,((compEnvC scope cl s.heap.objs.size X.env).kindOf x = some .cell \/ (compEnvC scope cl s.heap.objs.size X.env).kindOf x = some .free) -> ∃ c,cl.lookup x = some c)
  (hf:∀ b ∈ fp,ZdN X pins H b) (hlt:∀ b ∈ fp,b < s.heap.objs.size)
  (hcap:∀ p ∈ cap,X.N[p.2]? = some p.1 /\ X.env.scope.names.lookup p.1 = some .cell /\ ((compEnvC scope cl s.heap.objs.size X.env).kindOf p.1 = some .cell \/ (compEnvC scope cl s.heap.objs.size X.env).kindOf p.1 = some .free))
  (hns:h1.Ns s.heap.objs.size (fun _=>none)) (hkp:∀ b o,s.heap.get? b = some o -> h1.get? b = some o) :
  Inv (Z2 X (tn ++ cap.map (·.1)) scope cl s.heap.objs.size fp s H) [] (capσ σ tn.length cap) H { s with heap:=h1 } where
 ok:=Zhx I hk (Nat.le_refl _) hcl hhas hf hlt
 os:=rfl
 bare:=I.bare
 base:=Un.kept hkp
 loc:=by
  refine ⟨fun _=>none,hns,fun i x v e1 e2 hv=>?_⟩
  unfold capσ at e2
  by_cases hi:i < tn.length
  ·rw [List.getElem?_append_left (by rw [List.length_replicate]; exact hi),List.getElem?_replicate,if_pos hi] at e2
   cases e2
  ·have hN:(cap.map (·.1))[i - tn.length]? = some x:=by
    have:(tn ++ cap.map (·.1))[i]? = some x:=e1
    rw [List.getElem?_append_right (by lia)] at this
    exact this
   rw [List.getElem?_append_right (by rw [List.length_replicate]; lia),List.length_replicate,List.getElem?_map] at e2
   rw [List.getElem?_map] at hN
   cases hp:cap[i - tn.length]? with
   | none=>rw [hp] at hN; cases hN
   | some p =>
    rw [hp] at hN e2
    have hx:p.1 = x:=Option.some.inj hN
    have he:(σ[p.2]?).getD none = some v:=Option.some.inj e2
    obtain ⟨c1,c2,c3⟩:=hcap p (List.mem_of_getElem? hp)
    subst hx
    have hs : σ[p.2]? = some (some v):=by
     cases q : σ[p.2]? with
     | none=>rw [q] at he; cases he
     | some z=>rw [q] at he; rw [show z = some v from he]
    obtain ⟨m,hn,hl⟩:=I.loc
    obtain ⟨u,r,l⟩:=hl p.2 p.1 v c1 hs (.inr (.inl c2))
    refine ⟨u,r,.inr ⟨c3,?_⟩⟩
    obtain ⟨c,hc⟩:=hhas p.1 c3
    refine ⟨c,hc,?_⟩
    rcases l with ⟨l1,_⟩ | ⟨_,c',l2,o,ho,hd⟩
    ·have:X.env.kindOf p.1 = some .cell:=c2
     rw [this] at l1
     cases l1
    ·have:c = c':=Option.some.inj ((hcl p.1 c hc).symm.trans l2)
     subst this
     exact ⟨o,hkp _ _ ho,hd⟩
 cell:=fun x c e=>by
  obtain ⟨v,o,ho,hd⟩:=I.cell x c (hcl x c e)
  exact ⟨v,o,hkp _ _ ho,hd⟩
 free:=I.hok.fresh (Nat.le_refl _)
 freeC:=fun x c e=>I.freeC x c (hcl x c e)
 pin:=fun p hp=>by cases hp
 hok:=I.hok.kept hkp
 len:=by
  unfold capσ
  show _ = (tn ++ cap.map (·.1)).length
  rw [List.length_append,List.length_append,List.length_replicate,List.length_map,List.length_map]
end
end L2
namespace L2
open PySem PySem.Spec PyProof.Rows
def ZjU (wi:TI) (k:Nat) (cap:List (Str × Nat)) (g:TG) (te:TE):TE:=fun σ H Q=>wi σ H fun J H1=>∀ p,H1 p = none -> ∃ W:Nat -> Nat -> List V -> St -> Hp -> Prop,(∃ m,W 0 m [] (capσ σ k cap) (upd H1 p (.lst []))) /\
 ∀ i m ys σc H2,W i m ys σc H2 -> H2 p = some (.lst ys) /\ ((J.stop i H2 /\ Q (.ref p) H2) \/ (J.go i H2 /\ ∀ x H3,J.yld i H2 x H3 -> g x σc H3 fun σ3 H4=>te σ3 H4 fun v H5 =>
  H5 p = some (.lst ys) /\ ys.length < sizeLine /\ ∃ m',m' < m /\ W (i + 1) m' (ys ++ [v]) σ3 (upd H5 p (.lst (ys ++ [v])))))
section
variable {X:Cx} {elt iter tg:Expr} {scope:Scope} {pos:Pos} {wi:TI} {g:TG} {te:TE} {cl:List (Str × Addr)}
theorem Zc2 {pins:List (Addr × Obj)} {σ : St} {H2:Hp} {s2:Shared} {it:Addr} {fp:List Addr} {tnn:Nat -> Heap -> Prop} {J:It} {R:Addr -> Hp -> Prop} {use:Option (Value -> Sem Unit)} {Qp:Value -> Shared -> Prop} (tn:List Str) (cap:List (Str × Nat)) (hg:∀ C fp s H,PG (Z2 X (tn ++ cap.map (·.1)) scope cl C fp s H) tg g) (he:∀ C fp s H,PE (Z2 X (tn ++ cap.map (·.1)) scope cl C fp s H) elt te) (hc:X.calm = true) (hcell:∀ y ∈ scope.names,y.2 ≠ .cell) (hk:scope.kind = .function) (hcl:∀ x c,cl.lookup x = some c -> X.env.cells.lookup x = some c) (hhas:∀ C x,((compEnvC scope cl C X.env).kindOf x = some .cell \/ (compEnvC scope cl C X.env).kindOf x = some .free) -> ∃ c,cl.lookup x = some c) (hcap:∀ C,∀ p ∈ cap,X.N[p.2]? = some p.1 /\ X.env.scope.names.lookup p.1 = some .cell /\ ((compEnvC scope cl C X.env).kindOf p.1 = some .cell \/ (compEnvC scope cl C X.env).kindOf p.1 = some .free))
  (I2:Inv X pins σ H2 s2) (T:Turn X.prog X.w X.K tg J fp it tnn) (st2:tnn 0 s2.heap) (f2:∀ b ∈ fp,ZdN X pins H2 b) (q2:∀ p,H2 p = none -> ∃ W:Nat -> Nat -> List V -> St -> Hp -> Prop,(∃ m,W 0 m [] (capσ σ tn.length cap) (upd H2 p (.lst []))) /\
 ∀ i m ys σc H2,W i m ys σc H2 -> H2 p = some (.lst ys) /\ ((J.stop i H2 /\ R p H2) \/ (J.go i H2 /\ ∀ x H3,J.yld i H2 x H3 -> g x σc H3 fun σ3 H4=>te σ3 H4 fun v H5=>H5 p = some (.lst ys) /\ ys.length < sizeLine /\ ∃ m',m' < m /\ W (i + 1) m' (ys ++ [v]) σ3 (upd H5 p (.lst (ys ++ [v]))))))
  (hfin:∀ (s3:Shared) (H3:Hp),Inv X pins σ H3 s3 -> (∀ b ∈ fp,ZdN X pins H3 b) -> ∀ (acc:Addr) (σ6:St) (H6:Hp) (s6:Shared),Inv (Z2 X (tn ++ cap.map (·.1)) scope cl s3.heap.objs.size fp s3 H3) [] σ6 H6 s6 -> R acc H6 -> compPost (model X.prog X.w) X.A X.xe use Qp (.ref acc) s3.heap.objs.size (.ok .next) s6) :
  wpAny (model X.prog X.w) X.A (newList []) (fun acc s₃=>wpAny (model X.prog X.w) X.A (newFunctionEnv scope X.env.globals cl [] X.env.qual none Value.none (some X.env)) (fun cenv s₄=>codeAny (model X.prog X.w) X.A (Code.compStart (.ListComp elt [⟨tg,iter,[],0⟩] scope pos) 0 (Value.ref it) acc { cenv with scope:=relabel scope X.env }) (compPost (model X.prog X.w) X.A X.xe use Qp acc cenv.locals) s₄) X.xe s₃) X.xe s2:=by
 have fresh:H2 s2.heap.objs.size = none:=I2.fresh
 obtain ⟨W,⟨m0,w0⟩,turn⟩:=q2 s2.heap.objs.size fresh
 have lt2:∀ b ∈ fp,b < s2.heap.objs.size:=fun b hb=>by
  obtain ⟨o,ho,_⟩:=T.obj _ _ st2 b hb
  exact Heap.lt_size ho
 have I3:Inv X pins σ (upd H2 s2.heap.objs.size (.lst [])) { s2 with heap:=s2.heap.push { cls:=.type "list",data:=.seq ([]:List Value).toArray } }:=I2.lnew (its:=[]) (t':=s2.toks) .nil (Nat.zero_le _)
 refine wpAny_newObj_type (wpAny_newFunctionEnv hcell (by intro y hy; simp at hy) (fun h1 hns1 hsb1=>?_) hk)
 dsimp only at hns1 hsb1 ⊢
 generalize hS3:({ s2 with heap:=s2.heap.push { cls:=.type "list",dict:=none,data:=.seq ([]:List Value).toArray } }:Shared) = s3 at I3
 have hh3:s2.heap.push { cls:=.type "list",dict:=none,data:=.seq ([]:List Value).toArray } = s3.heap:=by rw [<- hS3]
 rw [hh3] at hns1 hsb1 ⊢
 have sz3:s3.heap.objs.size = s2.heap.objs.size + 1:=by rw [<- hh3,Heap.size_push]
 have lt3:∀ b ∈ fp,b < s3.heap.objs.size:=fun b hb=>Nat.lt_of_lt_of_le (lt2 b hb) (by rw [sz3]; exact Nat.le_succ _)
 have f3:∀ b ∈ fp,ZdN X pins (upd H2 s2.heap.objs.size (.lst [])) b:=fun b hb=>⟨by rw [Zk (Nat.ne_of_lt (lt2 b hb))]; exact (f2 b hb).1,(f2 b hb).2⟩
 have keep3:∀ b o,s3.heap.get? b = some o -> h1.get? b = some o:=fun b o q=>hsb1.extBut b o (Nat.ne_of_lt (Heap.lt_size q)) (Heap.get?_push_of_some _ q)
 have st3:tnn 0 h1:=T.keep _ _ _ st2 fun b hb o q=>keep3 b o (by rw [<- hh3]; exact Heap.get?_push_of_some _ q)
 have I4:=(Zch (tn:=tn) I3 hk hcl (hhas _) f3 lt3 (hcap _) hns1 keep3).tok (s2.toks + ([]:List (Str × Value)).length)
 have loop:codeAny (model X.prog X.w) X.A (.compLoop (.ListComp elt [⟨tg,iter,[],0⟩] scope pos) 0 (.ref it) (.ref s2.heap.objs.size) (compEnvC scope cl s3.heap.objs.size X.env))
   (compPost (model X.prog X.w) X.A X.xe use Qp (.ref s2.heap.objs.size) s3.heap.objs.size) { s3 with heap:=h1,toks:=s2.toks + ([]:List (Str × Value)).length }:=by
  refine Zgg (fun n s'=>∃ i ys σ' H',Inv (Z2 X (tn ++ cap.map (·.1)) scope cl s3.heap.objs.size fp s3 (upd H2 s2.heap.objs.size (.lst []))) [] σ' H' s' /\ tnn i s'.heap /\ (∀ b ∈ fp,H' b = none) /\ W i n ys σ' H') ?_ m0
   ⟨0,[],_,_,I4,st3,fun b hb=>(f3 b hb).1,w0⟩
  rintro n s5 ⟨i,ys,σ5,H5,I5,st5,fr5,w5⟩
  obtain ⟨hD,alt⟩:=turn i n ys σ5 H5 w5
  have stat:∀ {H':Hp},(∀ b ∈ fp,H' b = none) -> ∀ b ∈ fp,ZdN (Z2 X (tn ++ cap.map (·.1)) scope cl s3.heap.objs.size fp s3 (upd H2 s2.heap.objs.size (.lst []))) [] H' b :=
   fun hn b hb=>⟨hn b hb,(I4.ok.exf b hb).1,I4.ok.exfs b hb,.inl hb,(I4.ok.exf b hb).2,fun p hp=>by cases hp⟩
  rcases alt with ⟨stop,qn⟩ | ⟨go,step⟩
  ·refine thn (T.done (Z2 X (tn ++ cap.map (·.1)) scope cl s3.heap.objs.size fp s3 (upd H2 s2.heap.objs.size (.lst []))) rfl rfl rfl hc i [] s5 σ5 H5 no0 I5 (stat fr5) st5 stop) fun r s6 ⟨hr,I6⟩=>?_
   subst hr
   exact hfin s3 _ I3 f3 _ σ5 H5 s6 I6 qn
  ·refine thn (T.item (Z2 X (tn ++ cap.map (·.1)) scope cl s3.heap.objs.size fp s3 (upd H2 s2.heap.objs.size (.lst []))) rfl rfl rfl hc i [] s5 σ5 H5 no0 I5 (stat fr5) st5 go) fun r s6 ⟨u,hr,h6⟩=>?_
   subst hr
   refine thn h6 fun _ s7 ⟨x,H7,I7,r7,y7,st7,fr7⟩=>?_
   have I7':=I7.pinned (stat fr7) (T.obj _ _ st7)
   refine thn (hg _ _ _ _ _ s7 σ5 H7 x u _ I7' r7 (step x H7 y7)) fun _ s8 ⟨σ8,H8,I8,q8⟩=>?_
   refine thn (he _ _ _ _ _ s8 σ8 H8 _ I8 q8) fun xv s9 ⟨v9,H9,I9,r9,q9⟩=>?_
   obtain ⟨hD9,hl9,m',hm',w9⟩:=q9
   refine thn (ZP _ s9 σ8 H9 (.ref s2.heap.objs.size) [v9] (.ref s2.heap.objs.size) [xv] (fun z H'=>z = .non /\ H' = upd H9 s2.heap.objs.size (.lst (ys ++ [v9]))) I9 rfl (.cons r9 .nil)
    ⟨s2.heap.objs.size,ys,v9,rfl,rfl,hD9,hl9,rfl,rfl⟩) fun z s10 ⟨zv,H10,I10,_,_,eH⟩=>?_
   subst eH
   refine ⟨m',hm',i + 1,ys ++ [v9],σ8,_,I10.unpinned,T.keep _ _ _ st7 fun b hb o q=>(I10.pin (b,o) (List.mem_append_right _ (List.mem_append_right _ (Zao hb q)))).1,fun b hb=>?_,w9⟩
   obtain ⟨o,q,d⟩:=T.obj _ _ st7 b hb
   exact (I10.pin (b,o) (List.mem_append_right _ (List.mem_append_right _ (Zao hb q)))).2.1
 subst hS3
 exact codeAny_compStart_list loop (T.self X.A 0 _ _ _ st3 loop)
theorem ZbF (tn:List Str) (cap:List (Str × Nat)) (hi:PI X tg iter wi) (hg:∀ C fp s H,PG (Z2 X (tn ++ cap.map (·.1)) scope cl C fp s H) tg g) (he:∀ C fp s H,PE (Z2 X (tn ++ cap.map (·.1)) scope cl C fp s H) elt te)
  (hc:X.calm = true) (hclos:closureFor scope X.env = pure cl) (hcell:∀ y ∈ scope.names,y.2 ≠ .cell) (hk:scope.kind = .function) (hnames:∀ y ∈ scope.names,y.2 = .local -> scope.names.lookup y.1 = some .local)
  (hcl:∀ x c,cl.lookup x = some c -> X.env.cells.lookup x = some c)
  (hhas:∀ C x,((compEnvC scope cl C X.env).kindOf x = some .cell \/ (compEnvC scope cl C X.env).kindOf x = some .free) -> ∃ c,cl.lookup x = some c)
  (hcap:∀ C,∀ p ∈ cap,X.N[p.2]? = some p.1 /\ X.env.scope.names.lookup p.1 = some .cell /\ ((compEnvC scope cl C X.env).kindOf p.1 = some .cell \/ (compEnvC scope cl C X.env).kindOf p.1 = some .free))
  (hs:∀ v,foldedSetIterable iter X.env v = pure v):PE X (.ListComp elt [⟨tg,iter,[],0⟩] scope pos) (ZjU wi tn.length cap g te):=by
 intro pins s σ H Q I h
 rw [eval_ListComp]
 refine wpAny_comprehension_free (use:=none) rfl hs hclos hk hnames (thn (hi pins s σ H _ I h) fun v s1 h1=>thn h1 fun itv s2 h2=>?_)
 obtain ⟨it,fp,tnn,J,H2,e,I2,T,st2,f2,q2⟩:=h2
 subst e
 refine Zc2 (R:=fun p H6=>Q (.ref p) H6) tn cap hg he hc hcell hk hcl hhas hcap I2 T st2 f2 q2 fun s3 H3 I3 f3 acc σ6 H6 s6 I6 q6=>?_
 obtain ⟨m,hn,_⟩:=I6.loc
 refine ⟨m,hn,fun h' sb=>?_⟩
 have nC:∀ b o,s3.heap.get? b = some o -> b ≠ s3.heap.objs.size:=fun b o q=>Nat.ne_of_lt (Heap.lt_size q)
 have u:Un (frs X.stack) fp H3 H6 s3.heap h':=by
  have u0:=I6.base
  refine ⟨fun b o q n hb hx=>(sb.2 b (nC b o q)).trans (u0.keep b o q n hb hx),fun b o q n hb hx=>?_,u0.free,fun b o q hx=>?_,u0.tups,u0.frzs,u0.tbls⟩
  ·obtain ⟨sl,e⟩:=u0.slot b o q n hb hx
   exact ⟨sl,(sb.2 b (nC b o q)).trans e⟩
  ·obtain ⟨o',e⟩:=u0.there b o q hx
   exact ⟨o',(sb.2 b (nC b o q)).trans e⟩
 have free6:H6 s3.heap.objs.size = none:=I6.free
 have ok6:HOk X.prog X.w H6 h':=fun b o q=>(I6.hok b o q).stay (fun c v hcv r=>(sb.2 c (by
  rcases hcv with z | z
  ·rw [z]
   exact Zo q free6
  ·exact Zo z free6)).trans r) (fun _ q=>q) fun _ _ q=>q
 have I':=I3.call (g':=s6.gens) (d':=s6.drawn) (t':=s6.toks) (ch:=fp) u ok6 I6.bare fun b hb=>⟨(f3 b hb).2.2.2.1,(f3 b hb).2.1,(f3 b hb).2.2.2.2.1,(f3 b hb).2.2.2.2.2⟩
 have e:({ s6 with heap:=h' }:Shared) = { s3 with heap:=h',gens:=s6.gens,drawn:=s6.drawn,toks:=s6.toks }:=by
  have ho:s6.os = s3.os:=I6.os
  obtain ⟨a1,a2,a3,a4,a5⟩:=s6
  obtain ⟨b1,b2,b3,b4,b5⟩:=s3
  simp only at ho
  subst ho
  rfl
 rw [e]
 exact ⟨.ref _,H6,I',rfl,q6⟩
end
end L2
namespace L2
open PySem PySem.Spec PyProof.Rows
section
variable {prog:Program} {w:World} {A:Around} {s:Shared} {R:Result -> Shared -> Prop}
theorem ZfD {elt ct target iter:Expr} {scope:Scope} {pos:Pos} {it acc:Value} {env:Env} (I:Nat -> Shared -> Prop)
  (turn:∀ n s,I n s -> wpAny (model prog w) A (pyNext it) (fun r s1=>match r with
   | none=>R (.ok .next) s1
   | some v=>wpAny (model prog w) A (letOwnedTupleGo target it v) (fun _ s2=>wpAny (model prog w) A (assign target env v) (fun _ s3=>wpAny (model prog w) A (isTrue ct env (eval ct env)) (fun ok s3' =>
     if ok = true then wpAny (model prog w) A (eval elt env) (fun x s4 =>
     wpAny (model prog w) A (call (.builtin "list.append") [acc,x]) (fun _ s5=>∃ m,m < n /\ I m s5) no0 s4) no0 s3' else ∃ m,m < n /\ I m s3') no0 s3) no0 s2) no0 s1) no0 s)
  (n:Nat) (h:I n s):codeAny (model prog w) A (.compLoop (.ListComp elt [⟨target,iter,[ct],0⟩] scope pos) 0 it acc env) R s:=by
 refine codeAny_loop rfl I (fun n s hI=>?_) n h
 show wpAny _ _ ((compTurn (.ListComp elt [⟨target,iter,[ct],0⟩] scope pos) 0 it acc env).onRaise (fun x=>do noteFrame x env; theTreesLotGoes x)) _ _ s
 refine wpAny_noted ?_
 rw [compTurn_list]
 refine wpAny_bind (wpAny_standAt (wpAny_bind (wpAny_mono (turn n s hI) (fun r s1 h1=>?_) fun _ _ h'=>h'.elim)))
 cases r with
 | none=>exact wpAny_pure h1
 | some v =>
  refine wpAny_bind (wpAny_mono h1 (fun _ s2 h2=>?_) fun _ _ h'=>h'.elim)
  refine wpAny_bind (wpAny_mono h2 (fun _ s3 h3=>?_) fun _ _ h'=>h'.elim)
  refine wpAny_bind (wpAny_tests_one (wpAny_mono h3 (fun ok s3' h3'=>?_) fun _ _ h'=>h'.elim))
  cases ok with
  | true =>
   simp only [if_true] at h3' ⊢
   refine wpAny_bind (wpAny_bind (wpAny_mono h3' (fun x s4 h4=>?_) fun _ _ h'=>h'.elim))
   exact wpAny_bind (wpAny_mono h4 (fun _ s5 h5=>wpAny_pure (wpAny_pure ⟨rfl,h5⟩)) fun _ _ h'=>h'.elim)
  | false =>
   simp only [Bool.false_eq_true,if_false] at h3' ⊢
   exact wpAny_pure ⟨rfl,h3'⟩
end
def ZiX (wi:TI) (k:Nat) (cap:List (Str × Nat)) (g:TG) (tt:TT) (te:TE):TE:=fun σ H Q=>wi σ H fun J H1=>∀ p,H1 p = none -> ∃ W:Nat -> Nat -> List V -> St -> Hp -> Prop,(∃ m,W 0 m [] (capσ σ k cap) (upd H1 p (.lst []))) /\
 ∀ i m ys σc H2,W i m ys σc H2 -> H2 p = some (.lst ys) /\ ((J.stop i H2 /\ Q (.ref p) H2) \/ (J.go i H2 /\ ∀ x H3,J.yld i H2 x H3 -> g x σc H3 fun σ3 H4=>tt σ3 H4 fun b H4'=>if b = true then te σ3 H4' fun v H5 =>
  H5 p = some (.lst ys) /\ ys.length < sizeLine /\ ∃ m',m' < m /\ W (i + 1) m' (ys ++ [v]) σ3 (upd H5 p (.lst (ys ++ [v])))
  else ∃ m',m' < m /\ W (i + 1) m' ys σ3 H4'))
section
variable {X:Cx} {elt ct iter tg:Expr} {scope:Scope} {pos:Pos} {wi:TI} {g:TG} {tt:TT} {te:TE} {cl:List (Str × Addr)}
theorem Zc8 {pins:List (Addr × Obj)} {σ : St} {H2:Hp} {s2:Shared} {it:Addr} {fp:List Addr} {tnn:Nat -> Heap -> Prop} {J:It} {R:Addr -> Hp -> Prop} {use:Option (Value -> Sem Unit)} {Qp:Value -> Shared -> Prop} (tn:List Str) (cap:List (Str × Nat)) (hg:∀ C fp s H,PG (Z2 X (tn ++ cap.map (·.1)) scope cl C fp s H) tg g) (ht:∀ C fp s H,PT (Z2 X (tn ++ cap.map (·.1)) scope cl C fp s H) ct tt) (he:∀ C fp s H,PE (Z2 X (tn ++ cap.map (·.1)) scope cl C fp s H) elt te) (hc:X.calm = true) (hcell:∀ y ∈ scope.names,y.2 ≠ .cell) (hk:scope.kind = .function) (hcl:∀ x c,cl.lookup x = some c -> X.env.cells.lookup x = some c) (hhas:∀ C x,((compEnvC scope cl C X.env).kindOf x = some .cell \/ (compEnvC scope cl C X.env).kindOf x = some .free) -> ∃ c,cl.lookup x = some c) (hcap:∀ C,∀ p ∈ cap,X.N[p.2]? = some p.1 /\ X.env.scope.names.lookup p.1 = some .cell /\ ((compEnvC scope cl C X.env).kindOf p.1 = some .cell \/ (compEnvC scope cl C X.env).kindOf p.1 = some .free))
  (I2:Inv X pins σ H2 s2) (T:Turn X.prog X.w X.K tg J fp it tnn) (st2:tnn 0 s2.heap) (f2:∀ b ∈ fp,ZdN X pins H2 b) (q2:∀ p,H2 p = none -> ∃ W:Nat -> Nat -> List V -> St -> Hp -> Prop,(∃ m,W 0 m [] (capσ σ tn.length cap) (upd H2 p (.lst []))) /\
 ∀ i m ys σc H2,W i m ys σc H2 -> H2 p = some (.lst ys) /\ ((J.stop i H2 /\ R p H2) \/ (J.go i H2 /\ ∀ x H3,J.yld i H2 x H3 -> g x σc H3 fun σ3 H4=>tt σ3 H4 fun b H4'=>if b = true then te σ3 H4' fun v H5=>H5 p = some (.lst ys) /\ ys.length < sizeLine /\ ∃ m',m' < m /\ W (i + 1) m' (ys ++ [v]) σ3 (upd H5 p (.lst (ys ++ [v]))) else ∃ m',m' < m /\ W (i + 1) m' ys σ3 H4')))
  (hfin:∀ (s3:Shared) (H3:Hp),Inv X pins σ H3 s3 -> (∀ b ∈ fp,ZdN X pins H3 b) -> ∀ (acc:Addr) (σ6:St) (H6:Hp) (s6:Shared),Inv (Z2 X (tn ++ cap.map (·.1)) scope cl s3.heap.objs.size fp s3 H3) [] σ6 H6 s6 -> R acc H6 -> compPost (model X.prog X.w) X.A X.xe use Qp (.ref acc) s3.heap.objs.size (.ok .next) s6) :
  wpAny (model X.prog X.w) X.A (newList []) (fun acc s₃=>wpAny (model X.prog X.w) X.A (newFunctionEnv scope X.env.globals cl [] X.env.qual none Value.none (some X.env)) (fun cenv s₄=>codeAny (model X.prog X.w) X.A (Code.compStart (.ListComp elt [⟨tg,iter,[ct],0⟩] scope pos) 0 (Value.ref it) acc { cenv with scope:=relabel scope X.env }) (compPost (model X.prog X.w) X.A X.xe use Qp acc cenv.locals) s₄) X.xe s₃) X.xe s2:=by
 have fresh:H2 s2.heap.objs.size = none:=I2.fresh
 obtain ⟨W,⟨m0,w0⟩,turn⟩:=q2 s2.heap.objs.size fresh
 have lt2:∀ b ∈ fp,b < s2.heap.objs.size:=fun b hb=>by
  obtain ⟨o,ho,_⟩:=T.obj _ _ st2 b hb
  exact Heap.lt_size ho
 have I3:Inv X pins σ (upd H2 s2.heap.objs.size (.lst [])) { s2 with heap:=s2.heap.push { cls:=.type "list",data:=.seq ([]:List Value).toArray } }:=I2.lnew (its:=[]) (t':=s2.toks) .nil (Nat.zero_le _)
 refine wpAny_newObj_type (wpAny_newFunctionEnv hcell (by intro y hy; simp at hy) (fun h1 hns1 hsb1=>?_) hk)
 dsimp only at hns1 hsb1 ⊢
 generalize hS3:({ s2 with heap:=s2.heap.push { cls:=.type "list",dict:=none,data:=.seq ([]:List Value).toArray } }:Shared) = s3 at I3
 have hh3:s2.heap.push { cls:=.type "list",dict:=none,data:=.seq ([]:List Value).toArray } = s3.heap:=by rw [<- hS3]
 rw [hh3] at hns1 hsb1 ⊢
 have sz3:s3.heap.objs.size = s2.heap.objs.size + 1:=by rw [<- hh3,Heap.size_push]
 have lt3:∀ b ∈ fp,b < s3.heap.objs.size:=fun b hb=>Nat.lt_of_lt_of_le (lt2 b hb) (by rw [sz3]; exact Nat.le_succ _)
 have f3:∀ b ∈ fp,ZdN X pins (upd H2 s2.heap.objs.size (.lst [])) b:=fun b hb=>⟨by rw [Zk (Nat.ne_of_lt (lt2 b hb))]; exact (f2 b hb).1,(f2 b hb).2⟩
 have keep3:∀ b o,s3.heap.get? b = some o -> h1.get? b = some o:=fun b o q=>hsb1.extBut b o (Nat.ne_of_lt (Heap.lt_size q)) (Heap.get?_push_of_some _ q)
 have st3:tnn 0 h1:=T.keep _ _ _ st2 fun b hb o q=>keep3 b o (by rw [<- hh3]; exact Heap.get?_push_of_some _ q)
 have I4:=(Zch (tn:=tn) I3 hk hcl (hhas _) f3 lt3 (hcap _) hns1 keep3).tok (s2.toks + ([]:List (Str × Value)).length)
 have loop:codeAny (model X.prog X.w) X.A (.compLoop (.ListComp elt [⟨tg,iter,[ct],0⟩] scope pos) 0 (.ref it) (.ref s2.heap.objs.size) (compEnvC scope cl s3.heap.objs.size X.env))
   (compPost (model X.prog X.w) X.A X.xe use Qp (.ref s2.heap.objs.size) s3.heap.objs.size) { s3 with heap:=h1,toks:=s2.toks + ([]:List (Str × Value)).length }:=by
  refine ZfD (fun n s'=>∃ i ys σ' H',Inv (Z2 X (tn ++ cap.map (·.1)) scope cl s3.heap.objs.size fp s3 (upd H2 s2.heap.objs.size (.lst []))) [] σ' H' s' /\ tnn i s'.heap /\ (∀ b ∈ fp,H' b = none) /\ W i n ys σ' H') ?_ m0
   ⟨0,[],_,_,I4,st3,fun b hb=>(f3 b hb).1,w0⟩
  rintro n s5 ⟨i,ys,σ5,H5,I5,st5,fr5,w5⟩
  obtain ⟨hD,alt⟩:=turn i n ys σ5 H5 w5
  have stat:∀ {H':Hp},(∀ b ∈ fp,H' b = none) -> ∀ b ∈ fp,ZdN (Z2 X (tn ++ cap.map (·.1)) scope cl s3.heap.objs.size fp s3 (upd H2 s2.heap.objs.size (.lst []))) [] H' b :=
   fun hn b hb=>⟨hn b hb,(I4.ok.exf b hb).1,I4.ok.exfs b hb,.inl hb,(I4.ok.exf b hb).2,fun p hp=>by cases hp⟩
  rcases alt with ⟨stop,qn⟩ | ⟨go,step⟩
  ·refine thn (T.done (Z2 X (tn ++ cap.map (·.1)) scope cl s3.heap.objs.size fp s3 (upd H2 s2.heap.objs.size (.lst []))) rfl rfl rfl hc i [] s5 σ5 H5 no0 I5 (stat fr5) st5 stop) fun r s6 ⟨hr,I6⟩=>?_
   subst hr
   exact hfin s3 _ I3 f3 _ σ5 H5 s6 I6 qn
  ·refine thn (T.item (Z2 X (tn ++ cap.map (·.1)) scope cl s3.heap.objs.size fp s3 (upd H2 s2.heap.objs.size (.lst []))) rfl rfl rfl hc i [] s5 σ5 H5 no0 I5 (stat fr5) st5 go) fun r s6 ⟨u,hr,h6⟩=>?_
   subst hr
   refine thn h6 fun _ s7 ⟨x,H7,I7,r7,y7,st7,fr7⟩=>?_
   have I7':=I7.pinned (stat fr7) (T.obj _ _ st7)
   refine thn (hg _ _ _ _ _ s7 σ5 H7 x u _ I7' r7 (step x H7 y7)) fun _ s8 ⟨σ8,H8,I8,q8⟩=>?_
   refine thn (ht _ _ _ _ _ s8 σ8 H8 _ I8 q8) fun ok s8' ⟨H8',I8',q8'⟩=>?_
   cases ok with
   | true =>
    simp only [if_true] at q8' ⊢
    refine thn (he _ _ _ _ _ s8' σ8 H8' _ I8' q8') fun xv s9 ⟨v9,H9,I9,r9,q9⟩=>?_
    obtain ⟨hD9,hl9,m',hm',w9⟩:=q9
    refine thn (ZP _ s9 σ8 H9 (.ref s2.heap.objs.size) [v9] (.ref s2.heap.objs.size) [xv] (fun z H'=>z = .non /\ H' = upd H9 s2.heap.objs.size (.lst (ys ++ [v9]))) I9 rfl (.cons r9 .nil)
     ⟨s2.heap.objs.size,ys,v9,rfl,rfl,hD9,hl9,rfl,rfl⟩) fun z s10 ⟨zv,H10,I10,_,_,eH⟩=>?_
    subst eH
    refine ⟨m',hm',i + 1,ys ++ [v9],σ8,_,I10.unpinned,T.keep _ _ _ st7 fun b hb o q=>(I10.pin (b,o) (List.mem_append_right _ (List.mem_append_right _ (Zao hb q)))).1,fun b hb=>?_,w9⟩
    obtain ⟨o,q,d⟩:=T.obj _ _ st7 b hb
    exact (I10.pin (b,o) (List.mem_append_right _ (List.mem_append_right _ (Zao hb q)))).2.1
   | false =>
    simp only [Bool.false_eq_true,if_false] at q8' ⊢
    obtain ⟨m',hm',w9⟩:=q8'
    refine ⟨m',hm',i + 1,ys,σ8,_,I8'.unpinned,T.keep _ _ _ st7 fun b hb o q=>(I8'.pin (b,o) (List.mem_append_right _ (List.mem_append_right _ (Zao hb q)))).1,fun b hb=>?_,w9⟩
    obtain ⟨o,q,d⟩:=T.obj _ _ st7 b hb
    exact (I8'.pin (b,o) (List.mem_append_right _ (List.mem_append_right _ (Zao hb q)))).2.1
 subst hS3
 exact codeAny_compStart_list loop (T.self X.A 0 _ _ _ st3 loop)
theorem ZaU (tn:List Str) (cap:List (Str × Nat)) (hi:PI X tg iter wi) (hg:∀ C fp s H,PG (Z2 X (tn ++ cap.map (·.1)) scope cl C fp s H) tg g) (ht:∀ C fp s H,PT (Z2 X (tn ++ cap.map (·.1)) scope cl C fp s H) ct tt) (he:∀ C fp s H,PE (Z2 X (tn ++ cap.map (·.1)) scope cl C fp s H) elt te)
  (hc:X.calm = true) (hclos:closureFor scope X.env = pure cl) (hcell:∀ y ∈ scope.names,y.2 ≠ .cell) (hk:scope.kind = .function) (hnames:∀ y ∈ scope.names,y.2 = .local -> scope.names.lookup y.1 = some .local)
  (hcl:∀ x c,cl.lookup x = some c -> X.env.cells.lookup x = some c)
  (hhas:∀ C x,((compEnvC scope cl C X.env).kindOf x = some .cell \/ (compEnvC scope cl C X.env).kindOf x = some .free) -> ∃ c,cl.lookup x = some c)
  (hcap:∀ C,∀ p ∈ cap,X.N[p.2]? = some p.1 /\ X.env.scope.names.lookup p.1 = some .cell /\ ((compEnvC scope cl C X.env).kindOf p.1 = some .cell \/ (compEnvC scope cl C X.env).kindOf p.1 = some .free))
  (hs:∀ v,foldedSetIterable iter X.env v = pure v):PE X (.ListComp elt [⟨tg,iter,[ct],0⟩] scope pos) (ZiX wi tn.length cap g tt te):=by
 intro pins s σ H Q I h
 rw [eval_ListComp]
 refine wpAny_comprehension_free (use:=none) rfl hs hclos hk hnames (thn (hi pins s σ H _ I h) fun v s1 h1=>thn h1 fun itv s2 h2=>?_)
 obtain ⟨it,fp,tnn,J,H2,e,I2,T,st2,f2,q2⟩:=h2
 subst e
 refine Zc8 (R:=fun p H6=>Q (.ref p) H6) tn cap hg ht he hc hcell hk hcl hhas hcap I2 T st2 f2 q2 fun s3 H3 I3 f3 acc σ6 H6 s6 I6 q6=>?_
 obtain ⟨m,hn,_⟩:=I6.loc
 refine ⟨m,hn,fun h' sb=>?_⟩
 have nC:∀ b o,s3.heap.get? b = some o -> b ≠ s3.heap.objs.size:=fun b o q=>Nat.ne_of_lt (Heap.lt_size q)
 have u:Un (frs X.stack) fp H3 H6 s3.heap h':=by
  have u0:=I6.base
  refine ⟨fun b o q n hb hx=>(sb.2 b (nC b o q)).trans (u0.keep b o q n hb hx),fun b o q n hb hx=>?_,u0.free,fun b o q hx=>?_,u0.tups,u0.frzs,u0.tbls⟩
  ·obtain ⟨sl,e⟩:=u0.slot b o q n hb hx
   exact ⟨sl,(sb.2 b (nC b o q)).trans e⟩
  ·obtain ⟨o',e⟩:=u0.there b o q hx
   exact ⟨o',(sb.2 b (nC b o q)).trans e⟩
 have free6:H6 s3.heap.objs.size = none:=I6.free
 have ok6:HOk X.prog X.w H6 h':=fun b o q=>(I6.hok b o q).stay (fun c v hcv r=>(sb.2 c (by
  rcases hcv with z | z
  ·rw [z]
   exact Zo q free6
  ·exact Zo z free6)).trans r) (fun _ q=>q) fun _ _ q=>q
 have I':=I3.call (g':=s6.gens) (d':=s6.drawn) (t':=s6.toks) (ch:=fp) u ok6 I6.bare fun b hb=>⟨(f3 b hb).2.2.2.1,(f3 b hb).2.1,(f3 b hb).2.2.2.2.1,(f3 b hb).2.2.2.2.2⟩
 have e:({ s6 with heap:=h' }:Shared) = { s3 with heap:=h',gens:=s6.gens,drawn:=s6.drawn,toks:=s6.toks }:=by
  have ho:s6.os = s3.os:=I6.os
  obtain ⟨a1,a2,a3,a4,a5⟩:=s6
  obtain ⟨b1,b2,b3,b4,b5⟩:=s3
  simp only at ho
  subst ho
  rfl
 rw [e]
 exact ⟨.ref _,H6,I',rfl,q6⟩
end
end L2
namespace PySem.SeqAt
open AutoSeq1 (wpAny_loadPart')
open MeetsSeq MeetsSeq2 MeetsSeq3 SeqRoads2
section
variable {A:Around} {s:Shared}
end
end PySem.SeqAt
namespace L2
open PySem PySem.Spec PyProof.Rows PySem.SeqAt
section
variable {X:Cx}
end
end L2
namespace L2
open PySem PySem.Spec PyProof.Rows PySem.SeqAt
section
variable {X:Cx} {pins:List (Addr × Obj)} {σ : St} {H:Hp} {s:Shared}
end
section
variable {X:Cx} {pins:List (Addr × Obj)} {σ : St} {H:Hp} {s:Shared} {k:Nat} {f:Addr} {fd:FuncData} {ps:List Str} {sp:Sp} {Q:VK} {l p it:Addr} {xs:List V} {W:Nat -> V -> V -> Hp -> Prop}
end
end L2
namespace L2
open PySem PySem.Spec PyProof.Rows PySem.SeqAt
section
variable {X:Cx} {pins:List (Addr × Obj)} {σ : St} {H:Hp} {s:Shared} {k:Nat} {f:Addr} {fd:FuncData} {ps:List Str} {sp:Sp} {Q:VK} {l p it:Addr} {xs:List V} {W:Nat -> V -> V -> Hp -> Prop} {ud:Value}
end
end L2
namespace L2
open PySem PySem.Spec PyProof.Rows PySem.SeqAt
section
variable {X:Cx} {pins:List (Addr × Obj)} {σ : St} {H:Hp} {s:Shared} {k:Nat} {f:Addr} {fd:FuncData} {ps:List Str} {sp:Sp} {Q:VK}
end
end L2
namespace L2
open PySem PySem.Spec PyProof.Rows PySem.SeqAt
section
variable {X:Cx} {x:Str} {ps:List Str} {j k:Nat} {sp:Sp} {e dx:Expr} {te td:TE} {p p2 pos kp kp2:Pos}
end
end L2
namespace Fg
open PySem L2 FgM PySem.SeqAt
end Fg
namespace L2
open PySem PySem.Spec PyProof.Rows
section
variable {X:Cx}
end
end L2
namespace Fg
open PySem L2 FgM
end Fg
namespace L2
open PySem PySem.Spec PyProof.Rows PySem.SeqAt
theorem ZeA:bootBuiltins "reversed" = some (.type "reversed"):=by decide +kernel
section
variable {prog:Program} {w:World} {A:Around} {E:Value -> Shared -> Prop} {s:Shared}
end
section
variable {X:Cx} {e:Expr} {te:TE} {p p' pos pos':Pos}
end
end L2
namespace L2
open PySem PySem.Spec PyProof.Rows
def CW (n:Nat) (Pv:Nat -> List V -> St -> Hp -> Prop):Nat -> Nat -> List V -> St -> Hp -> Prop:=fun i m ys σ H=>m = n - i /\ i <= n /\ Pv i ys σ H
theorem CW.next {n i:Nat} {Pv:Nat -> List V -> St -> Hp -> Prop} {ys:List V} {σ : St} {H:Hp} (hi:i < n) (h:Pv (i + 1) ys σ H):∃ m',m' < n - i /\ CW n Pv (i + 1) m' ys σ H:=⟨_,by lia,rfl,hi,h⟩
theorem nd1 {x:Str}:[x].Nodup:=by simp
theorem ZcB {K:PySem.W.Frag} {a p:Addr} {xs:List V} {g:TG} {te:TE} {R:Hp -> Prop} {σ0:St} {H0:Hp} (Pv:Nat -> List V -> St -> Hp -> Prop) (h0:Pv 0 [] σ0 H0)
  (hl:∀ i ys σ H,i <= xs.length -> Pv i ys σ H -> SqL K H a xs /\ H p = some (.lst ys))
  (hs:∀ i ys x σ H,i < xs.length -> xs[i]? = some x -> Pv i ys σ H -> g x σ H fun σ3 H4=>te σ3 H4 fun v H5=>H5 p = some (.lst ys) /\ ys.length < sizeLine /\ ∃ m',m' < xs.length - i /\ CW xs.length Pv (i + 1) m' (ys ++ [v]) σ3 (upd H5 p (.lst (ys ++ [v]))))
  (hd:∀ ys σ H,Pv xs.length ys σ H -> R H) :
  ∃ W:Nat -> Nat -> List V -> St -> Hp -> Prop,(∃ m,W 0 m [] σ0 H0) /\ ∀ i m ys σc H2,W i m ys σc H2 -> H2 p = some (.lst ys) /\ (((Itl K a).stop i H2 /\ R H2) \/ ((Itl K a).go i H2 /\ ∀ x H3,(Itl K a).yld i H2 x H3 -> g x σc H3 fun σ3 H4=>te σ3 H4 fun v H5 =>
   H5 p = some (.lst ys) /\ ys.length < sizeLine /\ ∃ m',m' < m /\ W (i + 1) m' (ys ++ [v]) σ3 (upd H5 p (.lst (ys ++ [v]))))):=by
 refine ⟨CW xs.length Pv,⟨_,rfl,Nat.zero_le _,h0⟩,?_⟩
 rintro i m ys σ H ⟨rfl,hi,hp⟩
 obtain ⟨h1,h2⟩:=hl i ys σ H hi hp
 refine ⟨h2,?_⟩
 by_cases hlt:i < xs.length
 ·refine .inr ⟨⟨xs,xs[i],h1,List.getElem?_eq_getElem hlt⟩,?_⟩
  rintro x H3 ⟨rfl,hx⟩
  exact hs i ys x σ _ hlt (hx xs h1) hp
 ·refine .inl ⟨⟨xs,h1,by lia⟩,hd ys σ H ?_⟩
  have e:i = xs.length:=by lia
  rw [<- e]
  exact hp
theorem ZbS {scope:Scope} {env:Env} (h:∀ y ∈ scope.names,y.2 ≠ .cell /\ y.2 ≠ .free) {cl:List (Str × Addr)}:∀ (C:Addr) (x:Str),((compEnvC scope cl C env).kindOf x = some .cell \/ (compEnvC scope cl C env).kindOf x = some .free) -> ∃ c,cl.lookup x = some c:=by
 have key:∀ (l:List (Str × NameKind)) (x:Str),(∀ y ∈ l,y.2 ≠ .cell /\ y.2 ≠ .free) -> ∀ k,(l.map fun (n,k)=>if (k == .free && env.scope.kind == .function && env.kindOf n == some .cell) then (n,.cell) else (n,k)).lookup x = some k -> k ≠ .cell /\ k ≠ .free:=by
  intro l
  induction l with
  | nil=>intro x _ k e; simp at e
  | cons y l ih =>
   intro x hy k e
   obtain ⟨n,kd⟩:=y
   have hk:=hy _ (List.mem_cons_self ..)
   have e0:(kd == NameKind.free && env.scope.kind == .function && env.kindOf n == some .cell) = false:=by
    have:(kd == NameKind.free) = false:=by
     cases kd <;> first | rfl | exact absurd rfl hk.2
    rw [this]; rfl
   simp only [List.map_cons,e0,Bool.false_eq_true,if_false,List.lookup_cons] at e
   cases hx:x == n with
   | true =>
    rw [hx] at e
    cases e
    exact hk
   | false =>
    rw [hx] at e
    exact ih x (fun y hm=>hy y (List.mem_cons_of_mem _ hm)) k e
 intro C x hx
 rcases hx with e | e
 ·exact absurd rfl (key _ x h _ e).1
 ·exact absurd rfl (key _ x h _ e).2
end L2
namespace FgM
theorem ZcT {A:Type} [DecidableEq A] {sl:A}:∀ {g:Gr A} {n:Nat} {ws:List A},Zei sl g -> Can sl n ws -> Can sl n (words sl g ++ ws)
 | .nil,_,_,_,h=>h
 | .cons t w o,n,ws,⟨h1,h2,h3⟩,h=>by
  have e:words sl (.cons t w o) ++ ws = t :: (words sl w ++ sl :: (words sl o ++ ws)):=by simp [words]
  rw [e,Zb1 h1]
  exact ZcT h2 (Zb4.mpr ⟨by lia,ZcT h3 (by simpa using h)⟩)
end FgM
namespace L2
open PySem PySem.Spec PyProof.Rows
section
variable {X:Cx} {elt iter tg:Expr} {scope:Scope} {pos:Pos} {wi:TI} {g:TG} {te:TE} {cl:List (Str × Addr)}
theorem ZbG {y:Str} {py spos:Pos} {n0:Nat} (hN:X.N.Nodup) (hi0:X.N[n0]? = some y) (hx:Loc X.env.scope y) (tn:List Str) (cap:List (Str × Nat)) (hi:PI X tg iter wi) (hg:∀ C fp s H,PG (Z2 X (tn ++ cap.map (·.1)) scope cl C fp s H) tg g) (he:∀ C fp s H,PE (Z2 X (tn ++ cap.map (·.1)) scope cl C fp s H) elt te)
  (hc:X.calm = true) (hclos:closureFor scope X.env = pure cl) (hcell:∀ y ∈ scope.names,y.2 ≠ .cell) (hk:scope.kind = .function) (hnames:∀ y ∈ scope.names,y.2 = .local -> scope.names.lookup y.1 = some .local)
  (hcl:∀ x c,cl.lookup x = some c -> X.env.cells.lookup x = some c)
  (hhas:∀ C x,((compEnvC scope cl C X.env).kindOf x = some .cell \/ (compEnvC scope cl C X.env).kindOf x = some .free) -> ∃ c,cl.lookup x = some c)
  (hcap:∀ C,∀ p ∈ cap,X.N[p.2]? = some p.1 /\ X.env.scope.names.lookup p.1 = some .cell /\ ((compEnvC scope cl C X.env).kindOf p.1 = some .cell \/ (compEnvC scope cl C X.env).kindOf p.1 = some .free))
  (hs:∀ v,foldedSetIterable iter X.env v = pure v) (hsw:swapsWith (.ListComp elt [⟨tg,iter,[],0⟩] scope pos) (some (.Name y py)) spos.line X.env = pure true) (hf:X.fn y = true \/ X.env.scope.names.lookup y = some .local:=by first | exact .inl rfl | exact .inr rfl | assumption) :
  PS X (.Assign [.Name y py] (.ListComp elt [⟨tg,iter,[],0⟩] scope pos) spos) (Zkn (ZjU wi tn.length cap g te) (ZfK n0)):=by
 intro pins s σ H D I h
 rw [exec_Assign_Name_used _ _ _ _ hsw]
 refine wpAny_bind (wpAny_standAt (wpAny_bind ?_))
 show wpAny _ X.A (do let _ <- comprehension (.ListComp elt [⟨tg,iter,[],0⟩] scope pos) scope X.env _ (newList []) false (eval iter X.env) (some (assign (.Name y py) X.env))) _ _ s
 refine wpAny_bind (wpAny_mono (wpAny_comprehension_free (use:=some (assign (.Name y py) X.env)) (Q:=fun _ s'=>SP X pins D .next s') rfl hs hclos hk hnames (thn (hi pins s σ H _ I h) fun v s1 h1=>thn h1 fun itv s2 h2=>?_)) (fun _ s' hq=>wpAny_pure (wpAny_pure hq)) fun _ _ e=>e)
 obtain ⟨it,fp,tnn,J,H2,e,I2,T,st2,f2,q2⟩:=h2
 subst e
 refine Zc2 (R:=fun p H6=>ZfK n0 (.ref p) σ H6 (fun σ' H'=>D.nx σ' H')) tn cap hg he hc hcell hk hcl hhas hcap I2 T st2 f2 q2 fun s3 H3 I3 f3 acc σ6 H6 s6 I6 q6=>?_
 obtain ⟨m,hn,_⟩:=I6.loc
 have I':Inv X pins σ H6 s6:=I3.call' (ch:=fp) I6.os I6.base I6.hok I6.bare fun b hb=>⟨(f3 b hb).2.2.2.1,(f3 b hb).2.1,(f3 b hb).2.2.2.2.1,(f3 b hb).2.2.2.2.2⟩
 have fC:ZdN X pins H6 s3.heap.objs.size:=I3.fpOk (Nat.le_refl _) I6.free
 show wpAny _ X.A (assign (.Name y py) X.env (.ref acc)) _ _ s6
 refine wpAny_assign_Name (ZcI (v:=.ref acc) I' hN hi0 hx rfl (fun s7 I7 ⟨a,sb,ha⟩=>?_) hf)
 have nCa:s3.heap.objs.size ≠ a:=by
  rcases ha with z | z
  ·rw [z]
   exact fC.2.1
  ·exact (fC.2.2.2.2.1 _ _ z).symm
 exact ⟨m,hn.sameBut sb nCa,fun h' sb'=>⟨_,H6,I7.turned (t':=s7.toks) (fun b o hb e=>(sb'.2 b hb).trans e) fC.1 fC.2.1 fC.2.2.2.1 fC.2.2.2.2.1 fC.2.2.2.2.2,q6⟩⟩
end
end L2
namespace L2
open PySem PySem.Spec PyProof.Rows
section
variable {X:Cx} {elt ct iter tg:Expr} {scope:Scope} {pos:Pos} {wi:TI} {g:TG} {tt:TT} {te:TE} {cl:List (Str × Addr)}
theorem Z8 {y:Str} {py spos:Pos} {n0:Nat} (hN:X.N.Nodup) (hi0:X.N[n0]? = some y) (hx:Loc X.env.scope y) (tn:List Str) (cap:List (Str × Nat)) (hi:PI X tg iter wi) (hg:∀ C fp s H,PG (Z2 X (tn ++ cap.map (·.1)) scope cl C fp s H) tg g) (ht:∀ C fp s H,PT (Z2 X (tn ++ cap.map (·.1)) scope cl C fp s H) ct tt) (he:∀ C fp s H,PE (Z2 X (tn ++ cap.map (·.1)) scope cl C fp s H) elt te)
  (hc:X.calm = true) (hclos:closureFor scope X.env = pure cl) (hcell:∀ y ∈ scope.names,y.2 ≠ .cell) (hk:scope.kind = .function) (hnames:∀ y ∈ scope.names,y.2 = .local -> scope.names.lookup y.1 = some .local)
  (hcl:∀ x c,cl.lookup x = some c -> X.env.cells.lookup x = some c)
  (hhas:∀ C x,((compEnvC scope cl C X.env).kindOf x = some .cell \/ (compEnvC scope cl C X.env).kindOf x = some .free) -> ∃ c,cl.lookup x = some c)
  (hcap:∀ C,∀ p ∈ cap,X.N[p.2]? = some p.1 /\ X.env.scope.names.lookup p.1 = some .cell /\ ((compEnvC scope cl C X.env).kindOf p.1 = some .cell \/ (compEnvC scope cl C X.env).kindOf p.1 = some .free))
  (hs:∀ v,foldedSetIterable iter X.env v = pure v) (hsw:swapsWith (.ListComp elt [⟨tg,iter,[ct],0⟩] scope pos) (some (.Name y py)) spos.line X.env = pure true) (hf:X.fn y = true \/ X.env.scope.names.lookup y = some .local:=by first | exact .inl rfl | exact .inr rfl | assumption) :
  PS X (.Assign [.Name y py] (.ListComp elt [⟨tg,iter,[ct],0⟩] scope pos) spos) (Zkn (ZiX wi tn.length cap g tt te) (ZfK n0)):=by
 intro pins s σ H D I h
 rw [exec_Assign_Name_used _ _ _ _ hsw]
 refine wpAny_bind (wpAny_standAt (wpAny_bind ?_))
 show wpAny _ X.A (do let _ <- comprehension (.ListComp elt [⟨tg,iter,[ct],0⟩] scope pos) scope X.env _ (newList []) false (eval iter X.env) (some (assign (.Name y py) X.env))) _ _ s
 refine wpAny_bind (wpAny_mono (wpAny_comprehension_free (use:=some (assign (.Name y py) X.env)) (Q:=fun _ s'=>SP X pins D .next s') rfl hs hclos hk hnames (thn (hi pins s σ H _ I h) fun v s1 h1=>thn h1 fun itv s2 h2=>?_)) (fun _ s' hq=>wpAny_pure (wpAny_pure hq)) fun _ _ e=>e)
 obtain ⟨it,fp,tnn,J,H2,e,I2,T,st2,f2,q2⟩:=h2
 subst e
 refine Zc8 (R:=fun p H6=>ZfK n0 (.ref p) σ H6 (fun σ' H'=>D.nx σ' H')) tn cap hg ht he hc hcell hk hcl hhas hcap I2 T st2 f2 q2 fun s3 H3 I3 f3 acc σ6 H6 s6 I6 q6=>?_
 obtain ⟨m,hn,_⟩:=I6.loc
 have I':Inv X pins σ H6 s6:=I3.call' (ch:=fp) I6.os I6.base I6.hok I6.bare fun b hb=>⟨(f3 b hb).2.2.2.1,(f3 b hb).2.1,(f3 b hb).2.2.2.2.1,(f3 b hb).2.2.2.2.2⟩
 have fC:ZdN X pins H6 s3.heap.objs.size:=I3.fpOk (Nat.le_refl _) I6.free
 show wpAny _ X.A (assign (.Name y py) X.env (.ref acc)) _ _ s6
 refine wpAny_assign_Name (ZcI (v:=.ref acc) I' hN hi0 hx rfl (fun s7 I7 ⟨a,sb,ha⟩=>?_) hf)
 have nCa:s3.heap.objs.size ≠ a:=by
  rcases ha with z | z
  ·rw [z]
   exact fC.2.1
  ·exact (fC.2.2.2.2.1 _ _ z).symm
 exact ⟨m,hn.sameBut sb nCa,fun h' sb'=>⟨_,H6,I7.turned (t':=s7.toks) (fun b o hb e=>(sb'.2 b hb).trans e) fC.1 fC.2.1 fC.2.2.2.1 fC.2.2.2.2.1 fC.2.2.2.2.2,q6⟩⟩
end
end L2
namespace L2
open PySem PySem.Spec PyProof.Rows
section
variable {κ : Type} [DecidableEq κ]
def ZeX (kvs:List (κ × V)) (k : κ):Option V:=(kvs.find? fun kv=>decide (kv.1 = k)).map (·.2)
def putK (kvs:List (κ × V)) (k : κ) (v:V):List (κ × V) :=
 if (kvs.any fun kv=>decide (kv.1 = k)) = true then kvs.map (fun kv=>if kv.1 = k then (kv.1,v) else kv) else kvs ++ [(k,v)]
theorem Zcu {p : κ × V} {r:List (κ × V)} {k : κ} (e:p.1 = k):ZeX (p :: r) k = some p.2:=by simp [ZeX,List.find?_cons,e]
theorem Zcm {p : κ × V} {r:List (κ × V)} {k : κ} (e : ¬ p.1 = k):ZeX (p :: r) k = ZeX r k:=by simp [ZeX,List.find?_cons,e]
theorem ZbP (k : κ):∀ kvs:List (κ × V),(kvs.any fun kv=>decide (kv.1 = k)) = (ZeX kvs k).isSome
 | []=>rfl
 | p :: r=>by
  rw [List.any_cons]
  by_cases e:p.1 = k
  ·simp only [Zcu e,decide_eq_true e,Bool.true_or,Option.isSome_some]
  ·rw [Zcm e,decide_eq_false e,Bool.false_or]; exact ZbP k r
theorem ZbC (kvs:List (κ × V)) (k : κ) (v:V):(putK kvs k v).length <= kvs.length + 1:=by
 unfold putK
 split
 ·rw [List.length_map]; lia
 ·rw [List.length_append,List.length_cons,List.length_nil]; lia
theorem ZgA.isSome_eq {o:Option V} {u:Option Value} (r:ZgA o u):o.isSome = u.isSome:=by
 cases o with
 | none=>cases u with
  | none=>rfl
  | some _=>exact (show False from r).elim
 | some _=>cases u with
  | none=>exact (show False from r).elim
  | some _=>rfl
theorem KV.val {kvs:List (κ × V)} {vs:List (κ × Value)} (r:KV kvs vs) (k : κ):ZgA (ZeX kvs k) (valueAt vs k):=by
 unfold KV at r
 induction r with
 | nil=>exact True.intro
 | @cons p q ps qs h t ih =>
  obtain ⟨h1,h2⟩:=h
  by_cases e:p.1 = k
  ·have e':q.1 = k:=h1.symm.trans e
   have b:valueAt (q :: qs) k = some q.2:=by simp [valueAt,List.find?_cons,e']
   rw [Zcu e,b]; exact h2
  ·have e' : ¬ q.1 = k:=fun z=>e (h1.trans z)
   have b:valueAt (q :: qs) k = valueAt qs k:=by simp [valueAt,List.find?_cons,e']
   rw [Zcm e,b]; exact ih
theorem KV.any {kvs:List (κ × V)} {vs:List (κ × Value)} (r:KV kvs vs) (k : κ):(kvs.any fun kv=>decide (kv.1 = k)) = vs.any fun kv=>decide (kv.1 = k):=by
 unfold KV at r
 induction r with
 | nil=>rfl
 | cons h t ih=>rw [List.any_cons,List.any_cons,ih,h.1]
theorem KV.repl {kvs:List (κ × V)} {vs:List (κ × Value)} (r:KV kvs vs) (k : κ) {y:V} {u:Value} (ry:RelV y u) :
  KV (kvs.map fun kv=>if kv.1 = k then (kv.1,y) else kv) (vs.map fun kv=>if kv.1 = k then (kv.1,u) else kv):=by
 unfold KV at r ⊢
 induction r with
 | nil=>exact .nil
 | @cons p q ps qs h t ih =>
  rw [List.map_cons,List.map_cons]
  refine .cons ?_ ih
  obtain ⟨h1,h2⟩:=h
  by_cases e:p.1 = k
  ·rw [if_pos e,if_pos (h1.symm.trans e)]; exact ⟨h1,ry⟩
  ·rw [if_neg e,if_neg (fun z=>e (h1.trans z))]; exact ⟨h1,h2⟩
theorem KV.put {kvs:List (κ × V)} {vs:List (κ × Value)} (r:KV kvs vs) (k : κ) {y:V} {u:Value} (ry:RelV y u):KV (putK kvs k y) (stored vs k u):=by
 unfold putK stored
 rw [r.any k]
 by_cases e:(vs.any fun kv=>decide (kv.1 = k)) = true
 ·rw [if_pos e,if_pos e]; exact r.repl k ry
 ·rw [if_neg e,if_neg e]; exact Paired.snoc r ⟨rfl,ry⟩
theorem KV.length {kvs:List (κ × V)} {vs:List (κ × Value)} (r:KV kvs vs):kvs.length = vs.length:=Paired.length r
end
theorem Zf5 {P:Program} {w:World} {k:Key} {u:Value} (r:RelV (kV k) u):(Zy P w).is k u = true:=by
 cases k with
 | inl i=>obtain ⟨t,e⟩:=(show ∃ t,u = Value.int i t from r); subst e; exact ZeB P w i t
 | inr x=>obtain ⟨t,e⟩:=(show ∃ t,u = Value.str x t from r); subst e; exact ZeG P w x t
theorem Zee {P:Program} {w:World}:∀ {ks:List Key} {us:List Value},Vals (ks.map kV) us -> ItemsAre (Zy P w) ks us
 | [],_,r=>by rw [List.map_nil] at r; cases r; exact .nil
 | k :: ks,_,r=>by
  rw [List.map_cons] at r
  cases r with
  | cons h t=>exact .cons (Zf5 h) (Zee t)
abbrev KT (H:Hp):List (List Key × V) -> List (List Key × Addr × Value) -> Prop:=Paired fun p q=>p.1 = q.1 /\ H q.2.1 = some (.tup (p.1.map kV)) /\ RelV p.2 q.2.2
theorem KT.val {H:Hp} {kvs:List (List Key × V)} {xs:List (List Key × Addr × Value)} (r:KT H kvs xs) (k:List Key):ZgA (ZeX kvs k) ((atKey xs k).map (·.2)):=by
 induction r with
 | nil=>exact True.intro
 | @cons p q ps qs h t ih =>
  obtain ⟨h1,_,h2⟩:=h
  by_cases e:p.1 = k
  ·have e':q.1 = k:=h1.symm.trans e
   have b:atKey (q :: qs) k = some q.2:=by simp [atKey,List.find?_cons,e']
   rw [Zcu e,b]; exact h2
  ·have e' : ¬ q.1 = k:=fun z=>e (h1.trans z)
   have b:atKey (q :: qs) k = atKey qs k:=by simp [atKey,List.find?_cons,e']
   rw [Zcm e,b]; exact ih
theorem KT.repl {H:Hp} {kvs:List (List Key × V)} {xs:List (List Key × Addr × Value)} (r:KT H kvs xs) (k:List Key) {y:V} {u:Value} (ry:RelV y u) :
  KT H (kvs.map fun kv=>if kv.1 = k then (kv.1,y) else kv) (xs.map (putAt k u)):=by
 induction r with
 | nil=>exact .nil
 | @cons p q ps qs h t ih =>
  rw [List.map_cons,List.map_cons]
  refine .cons ?_ ih
  obtain ⟨h1,h2,h3⟩:=h
  unfold putAt
  by_cases e:p.1 = k
  ·rw [if_pos e,if_pos (h1.symm.trans e)]; exact ⟨h1,h2,ry⟩
  ·rw [if_neg e,if_neg (fun z=>e (h1.trans z))]; exact ⟨h1,h2,h3⟩
theorem KT.put {H:Hp} {kvs:List (List Key × V)} {xs:List (List Key × Addr × Value)} (r:KT H kvs xs) (k:List Key) {b:Addr} {y:V} {u:Value} (hb:H b = some (.tup (k.map kV))) (ry:RelV y u) :
  KT H (putK kvs k y) (storedH xs k b u):=by
 have e:(kvs.any fun kv=>decide (kv.1 = k)) = (atKey xs k).isSome:=by
  rw [ZbP,(r.val k).isSome_eq,Option.isSome_map]
 unfold putK storedH
 rw [e]
 by_cases q:(atKey xs k).isSome = true
 ·rw [if_pos q,if_pos q]; exact r.repl k ry
 ·rw [if_neg q,if_neg q]; exact Paired.snoc r ⟨rfl,hb,ry⟩
theorem KT.keeps {H H':Hp} {kvs:List (List Key × V)} {xs:List (List Key × Addr × Value)} (r:KT H kvs xs) (ht:∀ b ys,H b = some (.tup ys) -> H' b = some (.tup ys)):KT H' kvs xs :=
 Paired.mapP r fun _ _ z=>⟨z.1,ht _ _ z.2.1,z.2.2⟩
section
variable {P:Program} {w:World} {H:Hp} {h:Heap} {a:Addr}
theorem Zj0 {u:HO} (ok:HOk P w H h) (e:Rd H a u):Zal P w H h a u:=e.ok ok
theorem ZfU {kvs:List (Key × V)} (ok:HOk P w H h) (e:Rd H a (.dK kvs)):kvs.length <= sizeLine /\ (a == sysModules) = false /\ ∃ vs,KV kvs vs /\ h.DictOf (Zy P w) a vs :=
 show Zal P w H h a (.dK kvs) from Zj0 ok e
theorem Zj1 {kvs:List (Key × V)} (ok:HOk P w H h) (e:H a = some (.dK kvs)):kvs.length <= sizeLine /\ (a == sysModules) = false /\ ∃ vs,KV kvs vs /\ h.DictOf (Zy P w) a vs:=ZfU ok (.inl e)
theorem Zc6 {ks:List Key} (ok:HOk P w H h) (e:H a = some (.tup (ks.map kV))):(tupleKind (Zy P w)).is h ks a:=by
 obtain ⟨_,its,r,o,h1,h2,n,h3⟩:=(show Zal P w H h a (.tup (ks.map kV)) from ok a _ e)
 exact ⟨o,its.toArray,n,h1,h2,h3,by simpa using Zee r⟩
theorem ZgW {kvs:List (List Key × V)} (ok:HOk P w H h) (e:Rd H a (.dT kvs)):kvs.length <= sizeLine /\ (a == sysModules) = false /\
  ∃ xs,KT H kvs xs /\ h.DictOfH (tupleKind (Zy P w)) a xs:=by
 obtain ⟨z,y,xs,r,o,es,ep,h1,h2,h3,h4,h5⟩:=(show Zal P w H h a (.dT kvs) from Zj0 ok e)
 refine ⟨z,y,xs,r,o,es,ep,h1,h2,h3,h4,fun x hx=>?_,h5⟩
 have all:∀ {l:List (List Key × V)} {m:List (List Key × Addr × Value)},KT H l m -> ∀ x ∈ m,(tupleKind (Zy P w)).is h x.1 x.2.1:=by
  intro l m q
  induction q with
  | nil=>intro x hx; exact nomatch hx
  | @cons p q ps qs hq t ih =>
   intro x hx
   rcases List.mem_cons.mp hx with e | hx
   ·subst e
    exact Zc6 ok (by rw [<- hq.1]; exact hq.2.1)
   ·exact ih x hx
 exact all r x hx
theorem Zkq {kvs:List (List Key × V)} (ok:HOk P w H h) (e:H a = some (.dT kvs)):kvs.length <= sizeLine /\ (a == sysModules) = false /\
  ∃ xs,KT H kvs xs /\ h.DictOfH (tupleKind (Zy P w)) a xs:=ZgW ok (.inl e)
end
def Zds (H:Hp) (a:Addr) (y:V) (r:Option V):Prop :=
 (∃ kvs k,Rd H a (.dK kvs) /\ y = kV k /\ r = ZeX kvs k) \/ ∃ kvs k b,Rd H a (.dT kvs) /\ y = .ref b /\ H b = some (.tup (k.map kV)) /\ r = ZeX kvs k
def ZiH (H:Hp) (a:Addr) (y v:V) (H':Hp):Prop :=
 (∃ kvs k,H a = some (.dK kvs) /\ y = kV k /\ kvs.length < sizeLine /\ H' = upd H a (.dK (putK kvs k v))) \/
 ∃ kvs k b,H a = some (.dT kvs) /\ y = .ref b /\ H b = some (.tup (k.map kV)) /\ kvs.length < sizeLine /\ H' = upd H a (.dT (putK kvs k v))
theorem Zds.k {H:Hp} {a:Addr} {kvs:List (Key × V)} {k:Key} (e:H a = some (.dK kvs)):Zds H a (kV k) (ZeX kvs k):=.inl ⟨kvs,k,.inl e,rfl,rfl⟩
theorem ZiH.k {H:Hp} {a:Addr} {kvs:List (Key × V)} {k:Key} {v:V} (e:H a = some (.dK kvs)) (hl:kvs.length < sizeLine):ZiH H a (kV k) v (upd H a (.dK (putK kvs k v))):=.inl ⟨kvs,k,e,rfl,hl,rfl⟩
section
variable {X:Cx} {pins:List (Addr × Obj)} {σ : St} {H:Hp} {s:Shared} {a:Addr} {y v:V} {u r:Value} {o:Option V} {A:Around} {E:Value -> Shared -> Prop}
theorem Inv.big (I:Inv X pins σ H s):sysModules < s.heap.objs.size:=by
 have h:mainGlobals < s.heap.objs.size:=(I.mod.glob.keeps I.bk).lt
 exact Nat.lt_trans (by decide) h
theorem ZgQ {Q:Value -> Shared -> Prop} (hu:A.units + 1 < cLine) (I:Inv X pins σ H s) (g:Zds H a y (some v)) (ry:RelV y u) (h:∀ w' s',Inv X pins σ H s' -> RelV v w' -> Q w' s') :
  wpAny (model X.prog X.w) A (getItem (.ref a) u) Q E s:=by
 rcases g with ⟨kvs,k,e,ey,l⟩ | ⟨kvs,k,b,e,ey,eb,l⟩
 ·subst ey
  obtain ⟨z,hd,vs,rel,dd⟩:=ZfU I.hok e
  obtain ⟨w',hw,rw'⟩:=ZgA.some_of (v:=v) (o:=valueAt vs k) (by rw [l]; exact rel.val k)
  exact wpAny_getItem_of (Zf5 ry) dd.mapOf hw (h w' _ (I.tok _) rw')
 ·subst ey
  cases (show u = Value.ref b from ry)
  obtain ⟨z,hd,xs,rel,dd⟩:=ZgW I.hok e
  obtain ⟨w',hw,rw'⟩:=ZgA.some_of (v:=v) (o:=(atKey xs k).map (·.2)) (by rw [l]; exact rel.val k)
  obtain ⟨p,hp,hp2⟩:=Option.map_eq_some_iff.mp hw
  refine wpAny_getItem_heap (tupleKind_room_in1 hu) (Zc6 I.hok eb) dd hp ?_
  rw [hp2]
  exact h w' _ (I.tok _) rw'
theorem Zli {Q:Value -> Shared -> Prop} (hu:A.units + 1 < cLine) (I:Inv X pins σ H s) (g:Zds H a y o) (ry:RelV y u) (h:∀ s',Inv X pins σ H s' -> Q (.bool o.isSome) s') :
  wpAny (model X.prog X.w) A (compareOp .In u (.ref a)) Q E s:=by
 rcases g with ⟨kvs,k,e,ey,l⟩ | ⟨kvs,k,b,e,ey,eb,l⟩
 ·subst ey
  obtain ⟨z,hd,vs,rel,dd⟩:=ZfU I.hok e
  refine wpAny_in_of (Zf5 ry) hd dd.mapOf ?_
  rw [<- (rel.val k).isSome_eq,<- l]
  exact h _ (I.tok _)
 ·subst ey
  cases (show u = Value.ref b from ry)
  obtain ⟨z,hd,xs,rel,dd⟩:=ZgW I.hok e
  refine wpAny_in_heap (tupleKind_room_in1 hu) (Zc6 I.hok eb) hd dd ?_
  have q:=(rel.val k).isSome_eq
  rw [Option.isSome_map] at q
  rw [<- q,<- l]
  exact h _ (I.tok _)
theorem Zjb {Q:Value -> Shared -> Prop} (hu:A.units + 1 < cLine) (I:Inv X pins σ H s) (g:Zds H a y o) (ry:RelV y u) (h:∀ s',Inv X pins σ H s' -> Q (.bool (!o.isSome)) s') :
  wpAny (model X.prog X.w) A (compareOp .NotIn u (.ref a)) Q E s:=by
 rcases g with ⟨kvs,k,e,ey,l⟩ | ⟨kvs,k,b,e,ey,eb,l⟩
 ·subst ey
  obtain ⟨z,hd,vs,rel,dd⟩:=ZfU I.hok e
  refine wpAny_notIn_of (Zf5 ry) hd dd.mapOf ?_
  rw [<- (rel.val k).isSome_eq,<- l]
  exact h _ (I.tok _)
 ·subst ey
  cases (show u = Value.ref b from ry)
  obtain ⟨z,hd,xs,rel,dd⟩:=ZgW I.hok e
  refine wpAny_notIn_heap (tupleKind_room_in1 hu) (Zc6 I.hok eb) hd dd ?_
  have q:=(rel.val k).isSome_eq
  rw [Option.isSome_map] at q
  rw [<- q,<- l]
  exact h _ (I.tok _)
theorem Zhq {h':Heap} {t':Nat} {ob:HO} (I:Inv X pins σ H s) (mu:Mut (H a)) (hs:Heap.SameBut a s.heap h') (he:∃ q,h'.get? a = some q) (new:Zal X.prog X.w (upd H a ob) h' a ob) :
  Inv X pins σ (upd H a ob) { s with heap:=h',toks:=t' } :=
 I.write (x:=a) (e:=a) mu (.inl rfl) (fun b q hb z=>(hs.2 b hb).trans z) he new
theorem ZjQ {P:Program} {w:World} {H':Hp} {h':Heap} {kvs:List (Key × V)} {vs:List (Key × Value)} (z:kvs.length <= sizeLine) (hd:(a == sysModules) = false) (rel:KV kvs vs) (dd:h'.DictOf (Zy P w) a vs) :
  Zal P w H' h' a (.dK kvs):=⟨z,hd,vs,rel,dd⟩
theorem Zgp {H':Hp} {Q:Unit -> Shared -> Prop} (hu:A.units + 1 < cLine) (I:Inv X pins σ H s) (g:ZiH H a y v H') (ry:RelV y u) (rv:RelV v r) (h:∀ s',Inv X pins σ H' s' -> Q () s') :
  wpAny (model X.prog X.w) A (setItem (.ref a) u r) Q E s:=by
 rcases g with ⟨kvs,k,e,ey,l,eH⟩ | ⟨kvs,k,b,e,ey,eb,l,eH⟩
 ·subst ey eH
  obtain ⟨z,hd,vs,rel,dd⟩:=Zj1 I.hok e
  have hz:vs.length <= sizeLine:=by rw [<- rel.length]; exact z
  have hl:(putK kvs k v).length <= sizeLine:=by have:=ZbC kvs k v; lia
  refine wpAny_setItem_pairs (hsz:=hz) (Zf5 ry) dd fun h' dd' hs=>h _ ?_
  have he:∃ q,h'.get? a = some q:=let ⟨q,_,_,hq,_⟩:=dd'; ⟨q,hq⟩
  exact Zhq I (by rw [e]; exact True.intro) hs he (ZjQ hl hd (rel.put k rv) dd')
 ·subst ey eH
  cases (show u = Value.ref b from ry)
  obtain ⟨z,hd,xs,rel,dd⟩:=Zkq I.hok e
  have hz:xs.length <= sizeLine:=by rw [<- Paired.length rel]; exact z
  have hl:(putK kvs k v).length <= sizeLine:=by have:=ZbC kvs k v; lia
  refine wpAny_setItem_heap (hsz:=hz) (tupleKind_room_in1 hu) (Zc6 I.hok eb) dd fun h' dd' hs=>h _ ?_
  obtain ⟨q,es,ep,hq,h2,h3,h4,_,h5⟩:=dd'
  refine Zhq I (by rw [e]; exact True.intro) hs ⟨q,hq⟩ ⟨hl,hd,_,(rel.put k eb rv).keeps fun c ys ec=>?_,q,es,ep,hq,h2,h3,h4,h5⟩
  rw [Zk (Zks ec e (fun z=>nomatch z))]
  exact ec
end
section
variable {X:Cx} {pins:List (Addr × Obj)} {σ : St} {H:Hp} {s:Shared} {a:Addr} {kvs:List (Key × V)} {k:Key} {u:Value} {A:Around} {E:Value -> Shared -> Prop}
theorem ZkB {Q:Value -> Shared -> Prop} (I:Inv X pins σ H s) (e:Rd H a (.dK kvs)) (h:∀ t s',Inv X pins σ H s' -> Q (.int kvs.length t) s'):wpAny (model X.prog X.w) A (call (.builtin "len") [.ref a]) Q E s:=by
 obtain ⟨z,hd,vs,rel,dd⟩:=ZfU I.hok e
 refine call_len_dict hd dd (by rw [<- rel.length]; rw [sizeLine_eq] at z; lia) ?_
 rw [<- rel.length]
 exact h _ _ (I.tok _)
end
def Zk4 (i:Expr):Prop := ∀ ov iv,subscripted i false ov iv = operate [ov,iv] (getItem ov iv)
theorem Zji {prog:Program} {w:World} {A:Around} {E:Value -> Shared -> Prop} {s:Shared} {env:Env} {value slice:Expr} {pos:Pos} {T id:String} {Q:Value -> Shared -> Prop}
  (hl:typeLookup (.type T) "__getitem__" = pure (some (.builtin id))) (hs:Zk4 slice)
  (h:wpAny (model prog w) A (eval value env) (fun o s₁=>wpAny (model prog w) A (eval slice env) (fun i s₂=>s₂.TypeIs o T /\ wpAny (model prog w) A (getItem o i) Q E s₂) E s₁) E s) :
  wpAny (model prog w) A (eval (.Subscript value slice pos) env) Q E s:=by
 refine Subscript_ (wpAny_mono h (fun o s₁ h₁=>wpAny_mono h₁ (fun i s₂ h₂=>?_) fun _ _ x=>x) fun _ _ x=>x)
 obtain ⟨hT,h₂⟩:=h₂
 unfold subscriptTail
 refine wpAny_bind ?_
 rw [getitemInPython_of_ne hT.not_modules]
 refine wpAny_bind (wpAny_specialOf hT hl ?_)
 have fin:wpAny (model prog w) A (subscripted slice false o i) (fun r s₃=>wpAny (model prog w) A (letTemporaryGo value o r >>= fun _=>pure r) Q E s₃) E s₂ := by
  rw [hs o i]
  exact wpAny_operating (wpAny_mono h₂ (fun r s₃ h₃=>wpAny_bind (wpAny_letTemporaryGo (wpAny_pure h₃))) fun _ _ x=>x)
 first
  | exact wpAny_pure (wpAny_bind fin)
  | exact wpAny_bind (wpAny_pure (wpAny_bind fin))
  | exact wpAny_bind fin
theorem Zex {X:Cx} {pins:List (Addr × Obj)} {σ : St} {H:Hp} {s:Shared} {a:Addr} {y:V} {o:Option V} (I:Inv X pins σ H s) (g:Zds H a y o):s.TypeIs (.ref a) "dict" := by
 rcases g with ⟨kvs,k,e,_,_⟩ | ⟨kvs,k,b,e,_,_,_⟩
 ·obtain ⟨_,_,vs,_,dd⟩:=ZfU I.hok e
  exact dd.typeIs
 ·obtain ⟨_,_,xs,_,dd⟩:=ZgW I.hok e
  exact dd.typeIs
def ZkU (td ty:TE):TE:=fun σ H Q=>td σ H fun x H1=>ty σ H1 fun y H2=>∃ a v,x = .ref a /\ Zds H2 a y (some v) /\ Q v H2
def ZlE (ty td:TE):TE:=fun σ H Q=>ty σ H fun y H1=>td σ H1 fun x H2=>∃ a o,x = .ref a /\ Zds H2 a y o /\ Q (.bl o.isSome) H2
def Zi6 (ty td:TE):TE:=fun σ H Q=>ty σ H fun y H1=>td σ H1 fun x H2=>∃ a o,x = .ref a /\ Zds H2 a y o /\ Q (.bl (!o.isSome)) H2
def ZkO (td ty tv:TE):TS:=fun D σ H=>tv σ H fun v H1=>td σ H1 fun x H2=>ty σ H2 fun y H3=>∃ a H4,x = .ref a /\ ZiH H3 a y v H4 /\ D.nx σ H4
section
variable {X:Cx} {o i e value:Expr} {pos pos' tpos:Pos} {td ty tv:TE}
theorem ZcQ (hu:X.A.units + 1 < cLine) (ho:PE X o td) (hi:PE X i ty) (hs:Zk4 i):PE X (.Subscript o i pos) (ZkU td ty):=by
 intro pins s σ H Q I h
 refine Zji PySem.F.slot_dict_getitem.lookup hs (thn (ho pins s σ H _ I h) fun u s1 ⟨x,H1,I1,rx,q1⟩=>thn (hi pins s1 σ H1 _ I1 q1) fun iv s2 ⟨y,H2,I2,ry,a,v,ex,g,q2⟩=>?_)
 subst ex
 obtain rfl:u = Value.ref a:=rx
 exact ⟨Zex I2 g,ZgQ hu I2 g ry fun w' s3 I3 rw'=>⟨v,H2,I3,rw',q2⟩⟩
theorem Zce (hu:X.A.units + 1 < cLine) (hi:PE X i ty) (ho:PE X o td):PC X .In i o (ZlE ty td):=by
 intro pins s σ H Q I h
 refine thn (hi pins s σ H _ I h) fun iv s1 ⟨y,H1,I1,ry,q1⟩=>thn (ho pins s1 σ H1 _ I1 q1) fun u s2 ⟨x,H2,I2,rx,a,ov,ex,g,q2⟩=>?_
 subst ex
 obtain rfl:u = Value.ref a:=rx
 exact Zli hu I2 g ry fun s3 I3=>⟨.bl ov.isSome,H2,I3,rfl,q2⟩
theorem Zec (hu:X.A.units + 1 < cLine) (hi:PE X i ty) (ho:PE X o td):PC X .NotIn i o (Zi6 ty td):=by
 intro pins s σ H Q I h
 refine thn (hi pins s σ H _ I h) fun iv s1 ⟨y,H1,I1,ry,q1⟩=>thn (ho pins s1 σ H1 _ I1 q1) fun u s2 ⟨x,H2,I2,rx,a,ov,ex,g,q2⟩=>?_
 subst ex
 obtain rfl:u = Value.ref a:=rx
 exact Zjb hu I2 g ry fun s3 I3=>⟨.bl (!ov.isSome),H2,I3,rfl,q2⟩
theorem ZdB (hu:X.A.units + 1 < cLine) (ho:PE X o td) (hi:PE X i ty) (hv:PE X value tv) (hs:swapsWith value (some (.Subscript o i pos')) pos.line X.env = pure false) :
  PS X (.Assign [.Subscript o i pos'] value pos) (ZkO td ty tv):=by
 intro pins s σ H D I h
 refine wpAny_Assign_Subscript (thn (hv pins s σ H _ I h) fun r s1 ⟨v,H1,I1,rv,q1⟩=>thn (ho pins s1 σ H1 _ I1 q1) fun u s2 ⟨x,H2,I2,rx,q2⟩=>thn (hi pins s2 σ H2 _ I2 q2) fun iv s3 ⟨y,H3,I3,ry,a,H4,ex,g,q3⟩=>?_) hs
 subst ex
 obtain rfl:u = Value.ref a:=rx
 exact Zgp hu I3 g ry rv fun s4 I4=>⟨σ,H4,I4,q3⟩
end
theorem Zif {P:Program} {w:World} {H:Hp} (h:Heap) (hb:sysModules < h.objs.size):Zal P w H (h.push { cls:=.type "dict",data:=.dict #[] }) h.objs.size (.dK []) :=
 ⟨Nat.zero_le _,beq_eq_false_iff_ne.mpr (Ne.symm (Nat.ne_of_lt hb)),[],.nil,Heap.DictOf.new h⟩
def ZjK:TE:=fun _ H Q=>∀ p,H p = none -> Q (.ref p) (upd H p (.dK []))
section
variable {X:Cx} {pos:Pos}
theorem Zik:PE X (.Dict [] [] pos) ZjK:=fun pins s σ H Q I h =>
 wpAny_Dict_empty ⟨.ref s.heap.objs.size,_,I.laid (a:=s.heap.objs.size) (o:=.dK []) (t':=s.toks) (fun _ _ q=>Heap.get?_push_of_some _ q) (Nat.le_refl _) (Zif s.heap I.big),rfl,h _ (I.hok.fresh (Nat.le_refl _))⟩
end
section
variable {X:Cx} {pins:List (Addr × Obj)} {σ : St} {H:Hp} {s:Shared} {a:Addr} {y d:V} {u r:Value} {o:Option V} {A:Around} {E:Value -> Shared -> Prop}
end
section
variable {X:Cx} {o e f:Expr} {apos cpos:Pos} {td ty tx:TE}
end
section
variable {X:Cx} {pins:List (Addr × Obj)} {σ : St} {H:Hp} {s:Shared} {a:Addr} {kvs:List (Key × V)} {A:Around} {E:Value -> Shared -> Prop}
end
section
variable {X:Cx} {pins:List (Addr × Obj)} {σ : St} {H:Hp} {s:Shared} {a:Addr} {y:V} {u:Value} {A:Around} {E:Value -> Shared -> Prop}
end
end L2
namespace L2
open PySem PySem.Spec PyProof.Rows
section
variable {κ : Type} [DecidableEq κ]
end
end L2
namespace L2
open PySem PySem.Spec PyProof.Rows
section
variable {X:Cx} {C:Addr} {m x:Str} {ps:List Str} {j k:Nat} {sp:Sp} {o e:Expr} {es:List Expr} {ta:TE} {t:TA} {p pos apos:Pos}
end
end L2
namespace L2
open PySem PySem.Spec PyProof.Rows
theorem ZdS {X:Cx}:ZcF X (.type "int") (fun xs H Q=>∃ b,xs = [.bl b] /\ Q (.int (if b = true then 1 else 0)) H):=by
 intro pins s σ H xs us Q I r h
 obtain ⟨b,rfl,q⟩:=h
 obtain ⟨u,rfl,ru⟩:=vals1 r
 cases ru
 exact call_int_bool ⟨.int (if b = true then 1 else 0),H,I.tok _,⟨_,rfl⟩,q⟩
end L2
namespace L2
open PySem PySem.Spec PyProof.Rows
section
variable {X:Cx} {elts:List Expr} {x1:Nat} {tp:Pos}
end
end L2
namespace L2
open PySem PySem.Spec PyProof.Rows
section
variable {X:Cx}
end
end L2
namespace Fg
open PySem L2 FgM
end Fg
namespace FgM
section
variable {A:Type}
variable [DecidableEq A]
end
end FgM
namespace Fg
open PySem L2 FgM
end Fg
namespace L2
open PySem PySem.Spec PyProof.Rows
theorem FnOk.none {P:Program} {w:World} {K:PySem.W.Frag} {mg:Str -> Option Value} {base:Heap} {CX:CXT} {k:Nat} {f:Addr} {fd:FuncData} {ps:List Str} {sp:Sp} (h:∀ vs H Q E,¬ sp vs H Q E):FnOk P w K mg base CX k f fd ps sp :=
 ⟨fun vs H Q E z=>absurd z (h vs H Q E),fun A outer s H args us vs Q E hr e0 hb r z=>absurd z (h vs H Q E)⟩
theorem lookup_mem {β : Type} {x:Str} {c : β}:∀ {l:List (Str × β)},l.lookup x = some c -> (x,c) ∈ l
 | [],h=>by cases h
 | (y,d) :: l,h=>by
  rw [List.lookup_cons] at h
  cases e:x == y with
  | true =>
   rw [e] at h
   cases h
   rw [beq_iff_eq.mp e]
   exact List.mem_cons_self ..
  | false =>
   rw [e] at h
   exact List.mem_cons_of_mem _ (lookup_mem h)
theorem ZaM {env:Env} {cl:List (Str × Addr)} (h:∀ p ∈ cl,env.cells.lookup p.1 = some p.2):∀ x c,cl.lookup x = some c -> env.cells.lookup x = some c:=fun x c e=>h (x,c) (lookup_mem e)
theorem Zaq {scope:Scope} {env:Env} {cl:List (Str × Addr)} (h:∀ y ∈ scope.names,(y.2 = .cell \/ y.2 = .free) -> ∃ c,cl.lookup y.1 = some c):∀ (C:Addr) (x:Str),((compEnvC scope cl C env).kindOf x = some .cell \/ (compEnvC scope cl C env).kindOf x = some .free) -> ∃ c,cl.lookup x = some c:=by
 have key:∀ (k:NameKind) (x:Str),(k = .cell \/ k = .free) -> (scope.names.map fun (n,k)=>if (k == .free && env.scope.kind == .function && env.kindOf n == some .cell) then (n,.cell) else (n,k)).lookup x = some k -> ∃ c,cl.lookup x = some c:=by
  intro k x hk e
  obtain ⟨⟨n,k0⟩,hy,he⟩:=List.mem_map.mp (lookup_mem e)
  by_cases hc:(k0 == .free && env.scope.kind == .function && env.kindOf n == some .cell) = true
  ·simp only [hc,if_true] at he
   have h0:k0 = .free:=by
    simp only [Bool.and_eq_true] at hc
    have:=hc.1.1
    cases k0 <;> first | rfl | exact absurd this (by decide)
   injection he with e1 e2
   subst e1
   exact h _ hy (.inr h0)
  ·simp only [hc] at he
   injection he with e1 e2
   subst e1 e2
   exact h _ hy hk
 intro C x hx
 rcases hx with e | e
 ·exact key _ x (.inl rfl) e
 ·exact key _ x (.inr rfl) e
end L2
namespace L2
open PySem PySem.Spec PyProof.Rows
theorem Zbb {X:Cx} {K:PySem.W.Frag} (h:X.K = K):IxR X (Zk7 K):=by
 subst h
 exact Zx
end L2
namespace L2
open PySem PySem.Spec PyProof.Rows
theorem ZjC {α : Type}:∀ {us:List α},us.length = 1 -> ∃ a,us = [a]
 | [a],_=>⟨a,rfl⟩
theorem ZkV {α : Type} {n:Nat}:∀ {us:List α},us.length = n + 1 -> ∃ a vs,us = a :: vs /\ vs.length = n
 | a :: vs,h=>⟨a,vs,rfl,Nat.succ.inj h⟩
theorem ZgI {α : Type} {us:List α} (h:us.length = 2):∃ a b,us = [a,b]:=by
 obtain ⟨a,vs,rfl,h2⟩:=ZkV h
 obtain ⟨b,rfl⟩:=ZjC h2
 exact ⟨a,b,rfl⟩
theorem Zkp {α : Type} {us:List α} (h:us.length = 3):∃ a b c,us = [a,b,c]:=by
 obtain ⟨a,vs,rfl,h2⟩:=ZkV h
 obtain ⟨b,c,rfl⟩:=ZgI h2
 exact ⟨a,b,c,rfl⟩
theorem Zlz {α : Type} {us:List α} (h:us.length = 4):∃ a b c d,us = [a,b,c,d]:=by
 obtain ⟨a,vs,rfl,h2⟩:=ZkV h
 obtain ⟨b,c,d,rfl⟩:=Zkp h2
 exact ⟨a,b,c,d,rfl⟩
theorem Vals.inv {v:V} {vs:List V} {us:List Value} (h:Vals (v :: vs) us):∃ u us',us = u :: us' /\ RelV v u /\ Vals vs us':=by
 cases h with
 | cons r t=>exact ⟨_,_,rfl,r,t⟩
theorem Vals.end_ {us:List Value} (h:Vals [] us):us = []:=by
 cases h
 rfl
end L2
namespace L2
open PySem PySem.Spec PyProof.Rows
section
variable {X:Cx} {pins:List (Addr × Obj)} {σ : St} {H:Hp} {s:Shared} {e T:Addr} {C:Value} {d:Option Addr} {M:Model} {A:Around} {E:Value -> Shared -> Prop} {Q:Unit -> Shared -> Prop}
end
end L2
namespace L2
open PySem PySem.Spec PyProof.Rows
section
variable {X:Cx} {j k:Nat} {f:Addr} {fd:FuncData} {ps:List Str} {sp:Sp} {E:XKS} {x:Str} {p pos:Pos} {e:Expr} {es:List Expr} {t:TA}
end
section
variable {M:Model} {A:Around} {E:Value -> Shared -> Prop} {s:Shared} {K:PySem.W.Frag} {D:Addr}
end
end L2
namespace L2
open PySem PySem.Spec PyProof.Rows
section
variable {X:Cx} {pins pins':List (Addr × Obj)} {σ : St} {H:Hp} {s:Shared} {e:Addr} {E:Value -> Shared -> Prop}
end
section
variable {X:Cx} {body:List Stmt} {h₀ : ExceptHandler} {hs rest:List ExceptHandler} {tb:XKS -> TS} {th tr:THS} {pos:Pos}
end
end L2
namespace L2
open PySem PySem.Spec PyProof.Rows PySem.W
section
variable {prog:Program} {w:World} {A:Around} {K:Frag} {C G f:Addr} {R:Result -> Shared -> Prop} {s:Shared}
end
end L2
namespace L2
open PySem PySem.Spec PyProof.Rows PySem.W Builtin Builtin.ObjectAttr
section
variable {prog:Program} {w:World} {A:Around} {E:Value -> Shared -> Prop} {K:Frag} {C G x:Addr} {s:Shared}
end
end L2
namespace L2
open PySem PySem.Spec PyProof.Rows PySem.W Builtin Builtin.ObjectAttr
section
variable {prog:Program} {w:World} {A:Around} {E:Value -> Shared -> Prop} {K:Frag} {C G x:Addr} {s:Shared}
end
end L2
namespace L2
open PySem PySem.Spec PyProof.Rows PySem.W
section
variable {X:Cx} {j k:Nat} {C G:Addr} {ps:List Str} {sp:Sp} {E:XKS} {x:Str} {p pos cpos:Pos} {e:Expr} {es:List Expr} {t:TA}
end
end L2
namespace L2
open PySem PySem.Spec PyProof.Rows PySem.W
section
variable {X:Cx} {pins:List (Addr × Obj)} {σ : St} {H:Hp} {s:Shared} {x:Addr} {C:Value} {d:Option Addr}
end
section
variable {X:Cx} {C G:Addr} {g:Str} {p pos apos:Pos} {e:Expr} {es:List Expr} {t:TA}
end
section
variable {X:Cx} {o e value:Expr} {f:Str} {pos pos':Pos} {ta tv:TE}
end
section
variable {X:Cx} {e:Expr} {f:Str} {pos:Pos} {ta:TE}
end
end L2
namespace L2
open PySem PySem.Spec PyProof.Rows PySem.W
section
variable {prog:Program} {w:World} {A:Around} {K:Frag} {C G:Addr} {R:Result -> Shared -> Prop} {s:Shared}
end
section
variable {X:Cx} {j k:Nat} {C G:Addr} {E:XKS} {x:Str} {p pos cpos:Pos} {e:Expr} {es:List Expr} {t:TA}
end
section
variable {X:Cx}
end
end L2
namespace L2
open PySem PySem.Spec PyProof.Rows
section
variable {X:Cx} {e:Expr} {es:List Expr} {te:TE} {t:TJ} {pos:Pos}
end
end L2
namespace L2
open PySem PySem.Spec PyProof.Rows
end L2
namespace L2
open PySem PySem.Spec PyProof.Rows
end L2
namespace L2
open PySem PySem.Spec PyProof.Rows PySem.W
variable {X:Cx}
end L2
namespace Srt
open PySem PyProof.Rows
def ZeE:Bool -> Keyed -> Array Keyed -> Nat -> Nat -> Nat -> StateT SortSt Sem (Option Nat):=sortPriv% PySem.Builtin.gallop
def Ziv:Array Keyed -> Array Keyed -> StateT SortSt Sem (Array Keyed):=sortPriv% PySem.Builtin.mergeLo
def Zij:Array Keyed -> Array Keyed -> StateT SortSt Sem (Array Keyed):=sortPriv% PySem.Builtin.mergeHi
structure Like (st st':SortSt):Prop where
 arr:arrOf st' = arrOf st
 kind:kindOf st' = kindOf st
 fail:failedOf st' = failedOf st
 pend:pendingOf st' = pendingOf st
theorem Like.refl (st:SortSt):Like st st:=⟨rfl,rfl,rfl,rfl⟩
theorem Like.trans {a b c:SortSt} (x:Like a b) (y:Like b c):Like a c:=⟨y.arr.trans x.arr,y.kind.trans x.kind,y.fail.trans x.fail,y.pend.trans x.pend⟩
section
variable {prog:Program} {w:World} {A:Around} {E:Value -> Shared -> Prop} {s:Shared} {κ : SortKind} {Ok:Keyed -> Prop} {st:SortSt}
theorem Zu {arr:Array Keyed} {i:Nat} {Q:Keyed -> SortSt -> Prop} (hi:i < arr.size) (h:∀ p,p ∈ arr.toList -> arr[i]? = some p -> Q p st):wpS (model prog w) A E s (elem' arr i) Q st:=by
 have e:arr[i]? = some arr[i]:=getElem?_pos arr i hi
 rw [elem'_eq,e]
 exact wpS_pure (h _ (by simp) e)
end
end Srt
namespace Srt
open PySem PyProof.Rows
def Out (a b:Array Keyed) (out:Array Keyed) (ia ib:Nat):Prop:=out.toList.Perm (a.toList.take ia ++ b.toList.take ib)
section
variable {a b out:Array Keyed} {ia ib:Nat}
theorem Zj9 {α : Type} (x y z w:List α):(x ++ y ++ (z ++ w)).Perm (x ++ z ++ (y ++ w)):=by
 rw [List.append_assoc,List.append_assoc]
 refine List.Perm.append_left x ?_
 rw [<- List.append_assoc,<- List.append_assoc]
 exact List.Perm.append_right w List.perm_append_comm
theorem Out.done (h:Out a b out ia ib):(out ++ a.extract ia a.size ++ b.extract ib b.size).toList.Perm (a.toList ++ b.toList):=by
 rw [Array.toList_append,Array.toList_append,Array.toList_extract,Array.toList_extract]
 have e1:a.toList.extract ia a.size = a.toList.drop ia:=by rw [List.extract_eq_drop_take]; apply List.take_of_length_le; rw [List.length_drop,Array.length_toList]; exact Nat.le_refl _
 have e2:b.toList.extract ib b.size = b.toList.drop ib:=by rw [List.extract_eq_drop_take]; apply List.take_of_length_le; rw [List.length_drop,Array.length_toList]; exact Nat.le_refl _
 rw [e1,e2,List.append_assoc]
 refine (List.Perm.append_right _ h).trans ((Zj9 ..).trans ?_)
 rw [List.take_append_drop,List.take_append_drop]
theorem Out.last (h:Out a b out ia ib):(out ++ b.extract ib b.size ++ a.extract ia a.size).toList.Perm (a.toList ++ b.toList):=by
 refine List.Perm.trans ?_ h.done
 rw [Array.toList_append,Array.toList_append,Array.toList_append,Array.toList_append,List.append_assoc,List.append_assoc]
 exact List.Perm.append_left _ List.perm_append_comm
theorem Out.extA {k:Nat} (h:Out a b out ia ib) (hk:ia + k <= a.size):Out a b (out ++ a.extract ia (ia + k)) (ia + k) ib:=by
 unfold Out
 rw [Array.toList_append,Array.toList_extract,List.extract_eq_drop_take]
 have e:a.toList.take (ia + k) = a.toList.take ia ++ (a.toList.drop ia).take k:=List.take_add ..
 rw [e,show ia + k - ia = k by lia]
 refine (List.Perm.append_right _ h).trans ?_
 rw [List.append_assoc,List.append_assoc]
 exact List.Perm.append_left _ List.perm_append_comm
theorem Out.extB {k:Nat} (h:Out a b out ia ib) (hk:ib + k <= b.size):Out a b (out ++ b.extract ib (ib + k)) ia (ib + k):=by
 unfold Out
 rw [Array.toList_append,Array.toList_extract,List.extract_eq_drop_take]
 have e:b.toList.take (ib + k) = b.toList.take ib ++ (b.toList.drop ib).take k:=List.take_add ..
 rw [e,show ib + k - ib = k by lia]
 refine (List.Perm.append_right _ h).trans ?_
 rw [List.append_assoc]
theorem ZdH {α : Type} {xs:List α} {i:Nat} {p : α} (h:xs[i]? = some p):xs.take (i + 1) = xs.take i ++ [p]:=by
 obtain ⟨hi,e⟩:=List.getElem?_eq_some_iff.mp h
 rw [List.take_succ_eq_append_getElem hi,e]
theorem Out.pushA {p:Keyed} (h:Out a b out ia ib) (hp:a[ia]? = some p):Out a b (out.push p) (ia + 1) ib:=by
 have hp':a.toList[ia]? = some p:=by rw [<- hp]; simp
 unfold Out
 rw [Array.toList_push,ZdH hp']
 refine (List.Perm.append_right _ h).trans ?_
 rw [List.append_assoc,List.append_assoc]
 exact List.Perm.append_left _ List.perm_append_comm
theorem Out.pushB {p:Keyed} (h:Out a b out ia ib) (hp:b[ib]? = some p):Out a b (out.push p) ia (ib + 1):=by
 have hp':b.toList[ib]? = some p:=by rw [<- hp]; simp
 unfold Out
 rw [Array.toList_push,ZdH hp']
 refine (List.Perm.append_right _ h).trans ?_
 rw [List.append_assoc]
theorem ZlB {p:Keyed} (hp:b[0]? = some p):Out a b #[p] 0 1:=by
 have h0:Out a b #[] 0 0:=by
  unfold Out
  rw [List.take_zero,List.take_zero]
  exact List.Perm.refl _
 exact h0.pushB hp
end
end Srt
namespace Srt
open PySem PyProof.Rows
section
variable {prog:Program} {w:World} {A:Around} {E:Value -> Shared -> Prop} {s:Shared} {κ : SortKind} {Ok:Keyed -> Prop} {st:SortSt}
theorem Zav (st:SortSt) (g:Nat):Like st (SortSt.mk' (kindOf st) (arrOf st) (pendingOf st) g (failedOf st)):=⟨rfl,rfl,rfl,rfl⟩
end
end Srt
namespace Srt
open PySem PyProof.Rows
def Zcv (a b:Array Keyed) (out:Array Keyed) (na nb:Nat):Prop:=out.toList.Perm (a.toList.drop na ++ b.toList.drop nb)
section
variable {a b out:Array Keyed} {na nb:Nat}
theorem ex0 (a:Array Keyed) (n:Nat):(a.extract 0 n).toList = a.toList.take n:=by
 rw [Array.toList_extract,List.extract_eq_drop_take,List.drop_zero,Nat.sub_zero]
theorem Zcv.done (h:Zcv a b out na nb):(a.extract 0 na ++ b.extract 0 nb ++ out.reverse).toList.Perm (a.toList ++ b.toList):=by
 rw [Array.toList_append,Array.toList_append,ex0,ex0,Array.toList_reverse]
 refine (List.Perm.append_left _ ((List.reverse_perm _).trans h)).trans ((Zj9 ..).trans ?_)
 rw [List.take_append_drop,List.take_append_drop]
theorem Zcv.first (h:Zcv a b out na nb):(b.extract 0 nb ++ a.extract 0 na ++ out.reverse).toList.Perm (a.toList ++ b.toList):=by
 refine List.Perm.trans ?_ h.done
 rw [Array.toList_append,Array.toList_append,Array.toList_append,Array.toList_append]
 exact List.Perm.append_right _ List.perm_append_comm
theorem Ze5 {α : Type} {xs:List α} {i:Nat} {p : α} (h:xs[i]? = some p):xs.drop i = p :: xs.drop (i + 1):=by
 obtain ⟨hi,e⟩:=List.getElem?_eq_some_iff.mp h
 rw [<- e]
 exact List.drop_eq_getElem_cons hi
theorem Zcv.pushA {p:Keyed} (h:Zcv a b out na nb) (h1:1 <= na) (hp:a[na - 1]? = some p):Zcv a b (out.push p) (na - 1) nb:=by
 have hp':a.toList[na - 1]? = some p:=by rw [<- hp]; simp
 unfold Zcv
 rw [Array.toList_push,Ze5 hp',Nat.sub_add_cancel h1]
 refine (List.Perm.append_right _ h).trans ?_
 exact List.perm_append_comm
theorem Zcv.pushB {p:Keyed} (h:Zcv a b out na nb) (h1:1 <= nb) (hp:b[nb - 1]? = some p):Zcv a b (out.push p) na (nb - 1):=by
 have hp':b.toList[nb - 1]? = some p:=by rw [<- hp]; simp
 unfold Zcv
 rw [Array.toList_push,Ze5 hp',Nat.sub_add_cancel h1]
 refine (List.Perm.append_right _ h).trans ?_
 rw [List.append_assoc]
 refine List.Perm.append_left _ ?_
 exact List.perm_append_comm
theorem Ze4 {α : Type} (xs:List α) {i j:Nat} (h:i <= j):xs.drop i = (xs.drop i).take (j - i) ++ xs.drop j:=by
 have:=List.take_append_drop (j - i) (xs.drop i)
 rw [List.drop_drop,Nat.add_sub_cancel' h] at this
 exact this.symm
theorem Zcv.extA {k:Nat} (h:Zcv a b out na nb) (hk:k <= na):Zcv a b (out ++ (a.extract k na).reverse) k nb:=by
 unfold Zcv
 rw [Array.toList_append,Array.toList_reverse,Array.toList_extract,List.extract_eq_drop_take]
 refine (List.Perm.append h (List.reverse_perm _)).trans ?_
 refine List.perm_append_comm.trans ?_
 rw [<- List.append_assoc,<- Ze4 a.toList hk]
theorem Zcv.extB {k:Nat} (h:Zcv a b out na nb) (hk:k <= nb):Zcv a b (out ++ (b.extract k nb).reverse) na k:=by
 unfold Zcv
 rw [Array.toList_append,Array.toList_reverse,Array.toList_extract,List.extract_eq_drop_take]
 refine (List.Perm.append h (List.reverse_perm _)).trans ?_
 rw [List.append_assoc]
 refine List.Perm.append_left _ (List.perm_append_comm.trans ?_)
 rw [<- Ze4 b.toList hk]
theorem ZkP {p:Keyed} (h1:1 <= a.size) (hp:a[a.size - 1]? = some p):Zcv a b #[p] (a.size - 1) b.size:=by
 have h0:Zcv a b #[] a.size b.size:=by
  unfold Zcv
  rw [List.drop_eq_nil_of_le (by rw [Array.length_toList]; exact Nat.le_refl _),List.drop_eq_nil_of_le (by rw [Array.length_toList]; exact Nat.le_refl _)]
  exact List.Perm.refl _
 exact h0.pushA h1 hp
end
section
variable {prog:Program} {w:World} {A:Around} {E:Value -> Shared -> Prop} {s:Shared} {κ : SortKind} {Ok:Keyed -> Prop} {st:SortSt}
end
end Srt
namespace Srt
open PySem PyProof.Rows
structure Pm (st st':SortSt):Prop where
 arr:(arrOf st').toList.Perm (arrOf st).toList
 kind:kindOf st' = kindOf st
 fail:failedOf st' = failedOf st
 pend:pendingOf st' = pendingOf st
theorem Pm.refl (st:SortSt):Pm st st:=⟨List.Perm.refl _,rfl,rfl,rfl⟩
theorem Pm.trans {a b c:SortSt} (x:Pm a b) (y:Pm b c):Pm a c:=⟨y.arr.trans x.arr,y.kind.trans x.kind,y.fail.trans x.fail,y.pend.trans x.pend⟩
theorem Pm.size {a b:SortSt} (x:Pm a b):(arrOf b).size = (arrOf a).size:=by
 have:=x.arr.length_eq
 rw [Array.length_toList,Array.length_toList] at this
 exact this
theorem Pm.ok {a b:SortSt} {Ok:Keyed -> Prop} (x:Pm a b) (h:∀ p ∈ (arrOf a).toList,Ok p):∀ p ∈ (arrOf b).toList,Ok p:=fun p hp=>h p (x.arr.mem_iff.mp hp)
theorem Pm.mirror (st:SortSt) (i j:Nat):Pm st (setArr st (mirror (arrOf st) i j ((j - i) / 2))):=⟨Array.perm_iff_toList_perm.mp (mirror_perm _ _ _ _),rfl,rfl,rfl⟩
theorem Pm.bubble (st:SortSt) (i j:Nat):Pm st (setArr st (bubble (arrOf st) i (i - j))):=⟨Array.perm_iff_toList_perm.mp (bubble_perm _ _ _),rfl,rfl,rfl⟩
section
variable {prog:Program} {w:World} {A:Around} {E:Value -> Shared -> Prop} {s:Shared} {κ : SortKind} {Ok:Keyed -> Prop} {st:SortSt}
end
end Srt
namespace Srt
open PySem PyProof.Rows
def Cov:List (Nat × Nat × Nat) -> Nat -> Nat -> Prop
 | [],lo,hi=>lo = hi
 | x :: r,lo,hi=>x.1 = lo /\ 1 <= x.2.1 /\ Cov r (lo + x.2.1) hi
theorem Cov.le:∀ {l:List (Nat × Nat × Nat)} {lo hi:Nat},Cov l lo hi -> lo + l.length <= hi
 | [],lo,hi,h=>Nat.le_of_eq h
 | x :: r,lo,hi,⟨_,h1,h2⟩=>by
  have:=Cov.le h2
  rw [List.length_cons]
  lia
theorem Cov.push:∀ {l:List (Nat × Nat × Nat)} {lo hi n p:Nat},Cov l lo hi -> 1 <= n -> Cov (l ++ [(hi,n,p)]) lo (hi + n)
 | [],lo,hi,n,p,h,h1=>by
  have e:lo = hi:=h
  subst e
  exact ⟨rfl,h1,rfl⟩
 | x :: r,lo,hi,n,p,⟨a,b,c⟩,h1=>⟨a,b,c.push h1⟩
theorem Cov.at:∀ {l:List (Nat × Nat × Nat)} {i lo hi sa na p sb nb q:Nat},Cov l lo hi -> l[i]? = some (sa,na,p) -> l[i + 1]? = some (sb,nb,q) ->
  sb = sa + na /\ 1 <= na /\ 1 <= nb /\ sb + nb <= hi /\ Cov ((l.set i (sa,na + nb,p)).eraseIdx (i + 1)) lo hi
 | x :: y :: r,0,lo,hi,sa,na,p,sb,nb,q,⟨a,b,c1,c2,c3⟩,h1,h2=>by
  have e1:x = (sa,na,p):=by simpa using h1
  have e2:y = (sb,nb,q):=by simpa using h2
  subst e1
  subst e2
  have a':sa = lo:=a
  have c1':sb = lo + na:=c1
  have hle:=c3.le
  subst a'
  refine ⟨c1',b,c2,?_,rfl,?_,?_⟩
  ·have:sa + na + nb <= hi:=by
    have h3:sa + na + nb + r.length <= hi:=hle
    lia
   lia
  ·show 1 <= na + nb
   have:1 <= na:=b
   lia
  ·show Cov r (sa + (na + nb)) hi
   rw [<- Nat.add_assoc]
   exact c3
 | x :: r,i + 1,lo,hi,sa,na,p,sb,nb,q,⟨a,b,c⟩,h1,h2=>by
  obtain ⟨k1,k2,k3,k4,k5⟩:=Cov.at (l:=r) (i:=i) c (by simpa using h1) (by simpa using h2)
  exact ⟨k1,k2,k3,k4,a,b,k5⟩
 | [x],0,_,_,_,_,_,_,_,_,_,_,h2=>by simp at h2
 | [],_,_,_,_,_,_,_,_,_,_,h1,_=>by simp at h1
theorem Cov.last:∀ {l:List (Nat × Nat × Nat)} {lo hi:Nat} (f:Nat × Nat × Nat -> Nat × Nat × Nat) (_:∀ x,(f x).1 = x.1 /\ (f x).2.1 = x.2.1) (i:Nat),Cov l lo hi -> Cov (l.modify i f) lo hi
 | [],lo,hi,f,hf,i,h=>by cases i <;> exact h
 | x :: r,lo,hi,f,hf,0,⟨a,b,c⟩=>by
  refine ⟨(hf x).1.trans a,by rw [(hf x).2]; exact b,?_⟩
  rw [(hf x).2]
  exact c
 | x :: r,lo,hi,f,hf,i + 1,⟨a,b,c⟩=>⟨a,b,Cov.last f hf i c⟩
theorem splice (base:Nat):∀ (m:List Keyed) (n:Nat) (arr:Array Keyed),base + n + m.length <= arr.size ->
  ((m.zipIdx n).foldl (fun (a:Array Keyed) (x:Keyed × Nat)=>match x with | (p,j)=>a.setIfInBounds (base + j) p) arr).toList = arr.toList.take (base + n) ++ m ++ arr.toList.drop (base + n + m.length)
 | [],n,arr,_=>by
  show arr.toList = _
  rw [List.append_nil,List.length_nil,Nat.add_zero,List.take_append_drop]
 | p :: m,n,arr,h=>by
  rw [List.length_cons] at h
  rw [List.zipIdx_cons,List.foldl_cons]
  have hs:(arr.setIfInBounds (base + n) p).size = arr.size:=Array.size_setIfInBounds
  rw [splice base m (n + 1) _ (by rw [hs]; lia),Array.toList_setIfInBounds]
  have hl:base + n < arr.toList.length:=by rw [Array.length_toList]; lia
  rw [<- Nat.add_assoc,List.take_set,List.drop_set_of_lt (by lia)]
  have e1:(arr.toList.take (base + n + 1)).set (base + n) p = arr.toList.take (base + n) ++ [p]:=by
   rw [List.take_succ_eq_append_getElem hl,List.set_append_right _ _ (by rw [List.length_take]; lia)]
   rw [show base + n - (arr.toList.take (base + n)).length = 0 by rw [List.length_take]; lia]
   rfl
  rw [e1,List.length_cons,show base + n + 1 + m.length = base + n + (m.length + 1) by lia]
  simp
section
variable {prog:Program} {w:World} {A:Around} {E:Value -> Shared -> Prop} {s:Shared} {κ : SortKind} {Ok:Keyed -> Prop} {st:SortSt}
structure SB (a₀ : Array Keyed) (κ : SortKind) (hi:Nat) (st:SortSt):Prop where
 arr:(arrOf st).toList.Perm a₀.toList
 kind:kindOf st = κ
 fail:failedOf st = none
 cov:Cov (pendingOf st).toList 0 hi
theorem SB.size {a₀ : Array Keyed} {hi:Nat} (x:SB a₀ κ hi st):(arrOf st).size = a₀.size:=by
 have:=x.arr.length_eq
 rw [Array.length_toList,Array.length_toList] at this
 exact this
theorem SB.ok {a₀ : Array Keyed} {hi:Nat} (x:SB a₀ κ hi st) (h:∀ p ∈ a₀.toList,Ok p):∀ p ∈ (arrOf st).toList,Ok p:=fun p hp=>h p (x.arr.mem_iff.mp hp)
theorem SB.pm {a₀ : Array Keyed} {hi:Nat} {st':SortSt} (x:SB a₀ κ hi st) (p:Pm st st'):SB a₀ κ hi st':=⟨p.arr.trans x.arr,p.kind.trans x.kind,p.fail.trans x.fail,by rw [p.pend]; exact x.cov⟩
end
end Srt
namespace Srt
open PySem PyProof.Rows
section
variable {prog:Program} {w:World} {A:Around} {E:Value -> Shared -> Prop} {s:Shared} {κ : SortKind} {Ok:Keyed -> Prop} {st:SortSt}
theorem Zjv {v:SortSt} {Q:PUnit -> SortSt -> Prop} (h:Q ⟨⟩ v):wpS (model prog w) A E s (set v:StateT SortSt Sem PUnit) Q st:=by
 unfold wpS
 rw [StateT.run_set]
 exact wpAny_pure ⟨rfl,h⟩
theorem Zg3 (base:Nat) (m:List Keyed) (arr:Array Keyed) (h:base + m.length <= arr.size) :
  (m.zipIdx.foldl (fun (a:Array Keyed) (x:Keyed × Nat)=>a.setIfInBounds (base + x.2) x.1) arr).toList = arr.toList.take base ++ m ++ arr.toList.drop (base + m.length):=splice base m 0 arr h
theorem ZiG (L:List Keyed) {m b e:Nat} (h1:m <= b) (h2:b <= e):L.extract m b ++ L.extract b e = (L.drop m).take (e - m):=by
 rw [List.extract_eq_drop_take,List.extract_eq_drop_take,show e - m = (b - m) + (e - b) by lia,List.take_add,List.drop_drop,Nat.add_sub_cancel' h1]
theorem Zfc {L r:List Keyed} {m c:Nat} (h:r.Perm ((L.drop m).take c)) (hc:r.length = c):(L.take m ++ r ++ L.drop (m + r.length)).Perm L:=by
 subst hc
 have e:L = L.take m ++ (L.drop m).take r.length ++ L.drop (m + r.length):=by
  rw [List.append_assoc,<- List.drop_drop,List.take_append_drop,List.take_append_drop]
 refine List.Perm.trans ?_ (List.Perm.of_eq e.symm)
 exact List.Perm.append_right _ (List.Perm.append_left _ h)
end
end Srt
namespace Srt
open PySem PyProof.Rows
section
variable {prog:Program} {w:World} {A:Around} {E:Value -> Shared -> Prop} {s:Shared} {κ : SortKind} {Ok:Keyed -> Prop} {st:SortSt}
end
end Srt
namespace Srt
open PySem PyProof.Rows
section
variable {prog:Program} {w:World} {A:Around} {E:Value -> Shared -> Prop} {s:Shared}
theorem ZdR {vs:List Value} {xs:Array Keyed} (h:xs.toList.Perm (pairsOf vs).toList):(xs.map (·.2)).toList.Perm vs:=by
 rw [Array.toList_map]
 refine (h.map (·.2)).trans (List.Perm.of_eq ?_)
 rw [pairsOf_toList,show (fun p:Keyed=>p.2) = Prod.snd from rfl,List.map_snd_zip (Nat.le_refl _)]
end
end Srt
namespace Srt
open PySem PyProof.Rows
section
variable {prog:Program} {w:World} {A:Around} {E:Value -> Shared -> Prop} {s:Shared}
end
end Srt
namespace Srt
open PySem PyProof.Rows PySem.W
section
variable {prog:Program} {w:World} {A:Around} {s:Shared}
end
end Srt
namespace L2
open PySem PySem.Spec PyProof.Rows
theorem ZgF {us us':List Value} (h:us'.Perm us):∀ {vs:List V},Vals vs us -> ∃ vs',vs'.Perm vs /\ Vals vs' us':=by
 induction h with
 | nil=>exact fun r=>⟨_,List.Perm.refl _,r⟩
 | cons x _ ih =>
  intro vs r
  cases r with
  | cons a t =>
   obtain ⟨ws,p,r'⟩:=ih t
   exact ⟨_ :: ws,p.cons _,.cons a r'⟩
 | swap x y l =>
  intro vs r
  cases r with
  | cons a t =>
   cases t with
   | cons b t=>exact ⟨_,List.Perm.swap ..,.cons b (.cons a t)⟩
 | trans _ _ ih1 ih2 =>
  intro vs r
  obtain ⟨ws,p,r1⟩:=ih2 r
  obtain ⟨ws',p',r2⟩:=ih1 r1
  exact ⟨ws',p'.trans p,r2⟩
theorem Zdt:∀ {vs:List V} {us:List Value},Vals vs us -> ∀ u ∈ us,∃ v ∈ vs,RelV v u
 | _,_,.cons a t,u,hu=>by
  rcases List.mem_cons.mp hu with rfl | hu
  ·exact ⟨_,List.mem_cons_self ..,a⟩
  ·obtain ⟨v,hv,r⟩:=Zdt t u hu
   exact ⟨v,List.mem_cons_of_mem _ hv,r⟩
section
variable {X:Cx}
end
end L2
namespace L2
open PySem PySem.Spec PyProof.Rows PySem.W
def ZgH (h:Heap) (d:Addr) (es:Array DictEntry) (ep:Nat):Prop := ∃ o,h.get? d = some o /\ o.ExactDict /\ o.data = .dict es ep
theorem ZgH.tyIs {s:Shared} {d:Addr} {es:Array DictEntry} {ep:Nat} (x:ZgH s.heap d es ep):s.TypeIs (.ref d) "dict" := let ⟨o,ho,hc,_⟩:=x; ⟨o,ho,hc.1⟩
theorem ZgH.to {h h':Heap} {d:Addr} {es:Array DictEntry} {ep:Nat} (x:ZgH h d es ep) (e:∀ o,h.get? d = some o -> h'.get? d = some o):ZgH h' d es ep:=let ⟨o,ho,r⟩:=x; ⟨o,e _ ho,r⟩
section
variable {prog:Program} {w:World} {A:Around} {E:Value -> Shared -> Prop} {s:Shared} {it d:Addr} {es:Array DictEntry} {i ep:Nat}
theorem Zip {Q:Value -> Shared -> Prop} (lo:(d == sysModules) = false) (x:ZgH s.heap d es ep)
  (q:Q (.ref s.heap.objs.size) { s with heap:=s.heap.push { cls:=.type "dict_keyiterator",data:=.fields #[.ref d,.int 0 0,.int es.size 0,.int ep 0] } }):wpAny (model prog w) A (pyIter (.ref d)) Q E s:=by
 obtain ⟨o,ho,hx,hdat⟩:=id x
 have hT:=x.tyIs
 refine wpAny_pyIter_slot hT PySem.F.slot_dict_iter (wpAny_call_entry PySem.F.slot_dict_iter hT PySem.F.entry_dict_iter ?_ (PySem.F.args_dict_iter_1 _))
 unfold Builtin.«dict.__iter__»; refine wpAny_bind ?_
 unfold Builtin.Dict.dictSlotNone; refine wpAny_bind (wpAny_notOrdered_dict hT ?_)
 refine wpAny_pure (?_:wpAny _ _ (Builtin.Dict.showsAll d >>= _) _ _ s)
 unfold Builtin.Dict.showsAll; rw [if_neg (by rw [lo]; exact Bool.false_ne_true)]
 refine wpAny_bind (wpAny_pure (wpAny_bind (wpAny_dictEntries ho hdat (wpAny_bind (wpAny_dictEpoch ho hdat ?_)))))
 exact wpAny_bind (wpAny_newObj_type (wpAny_pure ⟨_,rfl,"dict_keyiterator",_,⟨_,Heap.get?_push_size _ rfl,rfl⟩,PySem.F.slot_dict_keyiterator_next.lookup,q⟩))
theorem Ziw {Q:Option Value -> Shared -> Prop} (st:s.heap.IsKeyIter it d i es.size ep) (x:ZgH s.heap d es ep) (hi:i < es.size)
  (q:∀ h',h'.IsKeyIter it d (i + 1) es.size ep -> Heap.SameBut it s.heap h' -> Q (some es[i].key) { s with heap:=h' }):wpAny (model prog w) A (pyNext (.ref it)) Q E s:=by
 obtain ⟨o,ho,hc,hd⟩:=id st
 obtain ⟨od,hod,hxd,hdd⟩:=id x
 unfold pyNext; refine wpAny_bind (wpAny_attempt (wpAny_callSpecial?_slot (name:=Str.ofString "__next__") st.typeIs PySem.F.slot_dict_keyiterator_next (wpAny_call_entry PySem.F.slot_dict_keyiterator_next st.typeIs PySem.F.entry_dict_keyiterator_next ?_ (PySem.F.args_dict_keyiterator_next_1 _))))
 refine wpAny_bind (wpAny_pure (wpAny_bind (wpAny_bind ?_)))
 first | refine wpAny_bind (wpAny_typeNameOfWhole_keyiter st.typeIs (wpAny_pure (wpAny_bind (wpAny_fieldsOf ho hd ?_)))) | refine wpAny_bind (wpAny_typeNameOf_keyiter st.typeIs (wpAny_pure (wpAny_bind (wpAny_fieldsOf ho hd ?_))))
 have own:Builtin.Dict_items.ownsTuple "dict_keyiterator" = false:=by decide
 simp only [own,Bool.false_eq_true,if_false]; change wpAny _ _ (if (Value.ref d == Value.none) = true then _ else _) _ _ s
 rw [if_neg (fun z:(Value.ref d == Value.none) = true=>Bool.false_ne_true z)]
 refine wpAny_bind (wpAny_pure (wpAny_bind (wpAny_dictEntries hod hdd ?_)))
 rw [if_neg (by simp)]; refine wpAny_bind (wpAny_pure (wpAny_bind (wpAny_dictEpoch hod hdd ?_)))
 rw [if_neg (by simp)]; refine wpAny_pure ?_
 simp only [show ¬ ((i:Int) < 0) by lia,if_false,Int.toNat_natCast,Array.getElem?_eq_getElem hi]
 refine wpAny_bind ?_; first | refine wpAny_bind (wpAny_typeNameOfWhole_keyiter st.typeIs (wpAny_pure (wpAny_bind (wpAny_isOneOf_keyiter st.typeIs ?_)))) | refine wpAny_bind (wpAny_typeNameOf_keyiter st.typeIs (wpAny_pure (wpAny_bind (wpAny_isOneOf_keyiter st.typeIs ?_))))
 change wpAny _ _ (setField (.ref it) 1 (rawInt ((i:Int) + 1)) >>= _) _ _ s
 refine wpAny_bind (wpAny_setField ho hd (by simp) ?_)
 have st2:(s.heap.update it (Obj.mapFields (·.setIfInBounds 1 (rawInt ((i:Int) + 1))))).IsKeyIter it d (i + 1) es.size ep:=⟨_,Heap.get?_update_self _ ho (Obj.isFreed_of_fields (Obj.data_mapFields hd _)),(Obj.cls_mapFields ..).trans hc,by rw [Obj.data_mapFields hd]; simp [rawInt]⟩
 refine wpAny_bind (wpAny_holding (wpAny_bind (wpAny_isOneOf_keyiter (s:={ s with heap:=s.heap.update it (Obj.mapFields (·.setIfInBounds 1 (rawInt ((i:Int) + 1)))) }) st2.typeIs ?_)))
 change wpAny _ _ (pure es[i].key) _ _ _
 exact wpAny_pure (wpAny_pure ⟨_,rfl,wpAny_pure (q _ st2 (Heap.SameBut.update ..))⟩)
theorem Zjr {Q:Option Value -> Shared -> Prop} (hh:A.handled = none) (st:s.heap.IsKeyIter it d i es.size ep) (x:ZgH s.heap d es ep) (hi:es.size <= i)
  (q:∀ h',Heap.ExtBut it s.heap h' -> Q none { s with heap:=h' }):wpAny (model prog w) A (pyNext (.ref it)) Q E s:=by
 obtain ⟨o,ho,hc,hd⟩:=id st
 obtain ⟨od,hod,hxd,hdd⟩:=id x
 unfold pyNext; refine wpAny_bind (wpAny_attempt (wpAny_callSpecial?_slot (name:=Str.ofString "__next__") st.typeIs PySem.F.slot_dict_keyiterator_next (wpAny_call_entry PySem.F.slot_dict_keyiterator_next st.typeIs PySem.F.entry_dict_keyiterator_next ?_ (PySem.F.args_dict_keyiterator_next_1 _))))
 refine wpAny_bind (wpAny_pure (wpAny_bind (wpAny_bind ?_)))
 first | refine wpAny_bind (wpAny_typeNameOfWhole_keyiter st.typeIs (wpAny_pure (wpAny_bind (wpAny_fieldsOf ho hd ?_)))) | refine wpAny_bind (wpAny_typeNameOf_keyiter st.typeIs (wpAny_pure (wpAny_bind (wpAny_fieldsOf ho hd ?_))))
 have own:Builtin.Dict_items.ownsTuple "dict_keyiterator" = false:=by decide
 simp only [own,Bool.false_eq_true,if_false]; change wpAny _ _ (if (Value.ref d == Value.none) = true then _ else _) _ _ s
 rw [if_neg (fun z:(Value.ref d == Value.none) = true=>Bool.false_ne_true z)]
 refine wpAny_bind (wpAny_pure (wpAny_bind (wpAny_dictEntries hod hdd ?_)))
 rw [if_neg (by simp)]; refine wpAny_bind (wpAny_pure (wpAny_bind (wpAny_dictEpoch hod hdd ?_)))
 rw [if_neg (by simp)]; refine wpAny_pure ?_
 simp only [show ¬ ((i:Int) < 0) by lia,if_false,Int.toNat_natCast,Array.getElem?_eq_none hi]
 refine wpAny_bind ?_; first | refine wpAny_bind (wpAny_typeNameOfWhole_keyiter st.typeIs (wpAny_pure ?_)) | refine wpAny_bind (wpAny_typeNameOf_keyiter st.typeIs (wpAny_pure ?_))
 change wpAny _ _ (setField (.ref it) 0 .none >>= _) _ _ s
 refine wpAny_bind (wpAny_setField ho hd (by simp) ?_)
 change wpAny _ _ (newExc (.type "StopIteration") [] >>= _) _ _ _
 refine wpAny_bind ?_; simp only [newExc,newTuple]
 refine wpAny_bind (wpAny_newObj_type (wpAny_bind (m:=firstArgMember _ _) (wpAny_of_eq (a:=Value.none) (by first | rfl | (simp only [firstArgMember]; rfl)) (wpAny_newObj_type ?_ (by size_fits)))) (by size_fits))
 simp only [raiseNew]; refine wpAny_bind (wpAny_handled ?_)
 rw [show A.in1.handled = none from hh]; refine wpAny_bind (wpAny_pure (wpAny_throw ?_))
 refine wpAny_bind (wpAny_isInstance (T := "StopIteration") (b:=true) (v:=.ref _) (by exact ⟨_,Heap.get?_push_size _ rfl,rfl⟩) isSubtype_stop ?_)
 exact wpAny_pure (q _ (((Heap.SameBut.update ..).extBut.push _).push _))
theorem ZgO (hh:A.handled = none) (hne:d ≠ it):Walks prog w A it [it,d] [it] es.size (fun i v=>∃ e,es[i]? = some e /\ v = e.key) (fun i h=>h.IsKeyIter it d i es.size ep /\ ZgH h d es ep) where
 sub:=fun b hb=>List.mem_cons.mpr (.inl (List.mem_singleton.mp hb))
 frame:=fun _ _ _ st hk=>⟨st.1.at fun o e=>hk it (List.mem_cons_self ..) o e,st.2.to fun o e=>hk d (List.mem_cons_of_mem _ (List.mem_cons_self ..)) o e⟩
 item:=fun j s Q E hj st hQ=>Ziw st.1 st.2 hj fun h' st' sb=>hQ _ h' s.toks ⟨_,Array.getElem?_eq_getElem hj,rfl⟩ ⟨st',st.2.to fun o e=>sb.extBut d o hne e⟩ fun b o hb e=>sb.extBut b o (fun z=>hb (List.mem_singleton.mpr z)) e
 done:=fun s Q E st hQ=>Zjr hh st.1 st.2 (Nat.le_refl _) fun h' he=>hQ h' s.toks fun b o hb e=>he b o (fun z=>hb (List.mem_singleton.mpr z)) e
 self:=fun _ _ _ _ st hQ=>wpAny_pyIter_keyiter st.1 hQ
theorem ZjA (lo:(d == sysModules) = false):KdlSrc prog w "dict" d d es.size (fun i v=>∃ e,es[i]? = some e /\ v = e.key) (fun h=>ZgH h d es ep) where
 type:=fun _ x=>x.tyIs
 there:=fun _ ⟨o,ho,_⟩=>⟨Heap.lt_size ho,Heap.lt_size ho⟩
 keep:=fun _ _ x hk=>x.to fun o e=>hk d (.inl rfl) o e
 notList:=by decide
 notTuple:=by decide
 hint:=fun _ _ _ _ x hq=>kdl_hint_dict x.tyIs hq
 iter:=fun _ _ hh x=>⟨_,_,(fun _ _ hq=>Zip lo x hq),ZgO hh (let ⟨o,ho,_⟩:=x; Nat.ne_of_lt (Heap.lt_size ho)),⟨⟨_,Heap.get?_push_size _ rfl,rfl,rfl⟩,x.to fun _ e=>Heap.get?_push_of_some _ e⟩⟩
end
end L2
namespace L2
open PySem PySem.Spec PyProof.Rows PySem.W
section
variable {X:Cx}
end
end L2
namespace Srt
open PySem PyProof.Rows PySem.W
section
variable {prog:Program} {w:World} {A:Around} {s:Shared}
end
end Srt
namespace L2
open PySem PySem.Spec PyProof.Rows
section
variable {X:Cx}
end
end L2
namespace L2
open PySem PySem.Spec PyProof.Rows
section
variable {X:Cx} {tg:Expr}
end
end L2
namespace Sts
open PySem
def nx (m i:Nat):Nat:=(i * 5 + 1) % (m + 1)
def itn (m:Nat):Nat -> Nat -> Nat
 | 0,i=>i
 | n + 1,i=>itn m n (nx m i)
theorem Zdq (m:Nat):∀ a b i,itn m (a + b) i = itn m b (itn m a i)
 | 0,b,i=>by rw [Nat.zero_add]; rfl
 | a + 1,b,i=>by rw [Nat.add_right_comm]; exact Zdq m a b (nx m i)
def seen (m:Nat):Nat -> Nat -> Nat -> Nat
 | 0,_,acc=>acc
 | n + 1,i,acc=>seen m n (nx m i) (acc ||| (1 <<< i))
theorem ZeZ (m:Nat):∀ n i acc j,(seen m n i acc).testBit j = true -> acc.testBit j = true \/ ∃ k,k < n /\ itn m k i = j
 | 0,_,_,_,h=>.inl h
 | n + 1,i,acc,j,h=>by
  rcases ZeZ m n (nx m i) _ j h with h | ⟨k,hk,e⟩
  ·rw [Nat.testBit_or,Bool.or_eq_true] at h
   rcases h with h | h
   ·exact .inl h
   ·rw [Nat.testBit_shiftLeft] at h
    have h2:i <= j /\ (1:Nat).testBit (j - i) = true:=by simpa using h
    have h3:j - i = 0:=by
     have:=h2.2
     rw [Nat.testBit_one_eq_true_iff_self_eq_zero] at this
     exact this
    exact .inr ⟨0,Nat.succ_pos _,by show i = j; lia⟩
  ·exact .inr ⟨k + 1,Nat.succ_lt_succ hk,e⟩
def Good (m:Nat):Prop:=m = 7 \/ m = 15 \/ m = 31 \/ m = 63 \/ m = 127 \/ m = 255 \/ m = 511 \/ m = 1023 \/ m = 2047 \/ m = 4095
def ZkF (m:Nat):Bool:=seen m (m + 1) 0 0 == 2 ^ (m + 1) - 1 && itn m (m + 1) 0 == 0
theorem Zho {m:Nat} (h:Good m):ZkF m = true:=by
 rcases h with h | h | h | h | h | h | h | h | h | h <;> subst h <;> decide +kernel
theorem from0 {m j:Nat} (h:Good m) (hj:j <= m):∃ n,n <= m /\ itn m n 0 = j:=by
 have hc:=Zho h
 unfold ZkF at hc
 rw [Bool.and_eq_true] at hc
 have h1:=eq_of_beq hc.1
 have hb:(seen m (m + 1) 0 0).testBit j = true:=by
  rw [h1,Nat.testBit_two_pow_sub_one]
  exact decide_eq_true (by lia)
 rcases ZeZ m (m + 1) 0 0 j hb with h | ⟨k,hk,e⟩
 ·simp at h
 ·exact ⟨k,by lia,e⟩
theorem ZkA {m:Nat} (h:Good m):itn m (m + 1) 0 = 0:=by
 have hc:=Zho h
 unfold ZkF at hc
 rw [Bool.and_eq_true] at hc
 exact eq_of_beq hc.2
theorem reach {m i j:Nat} (h:Good m) (hi:i <= m) (hj:j <= m):∃ n,n <= m /\ itn m n i = j:=by
 obtain ⟨a,ha,ea⟩:=from0 h hi
 obtain ⟨b,hb,eb⟩:=from0 h hj
 by_cases hab:a <= b
 ·refine ⟨b - a,by lia,?_⟩
  rw [<- ea,<- Zdq,Nat.add_sub_cancel' hab]
  exact eb
 ·refine ⟨m + 1 - a + b,by lia,?_⟩
  rw [<- ea,<- Zdq,show a + (m + 1 - a + b) = (m + 1) + b by lia,Zdq,ZkA h]
  exact eb
def ZaP (t:SetTable):Nat -> SetTable.Probe -> SetTable.Probe
 | 0,p=>p
 | n + 1,p=>ZaP t n (t.advance p)
theorem Za5 (t:SetTable):∀ a b p,ZaP t (a + b) p = ZaP t b (ZaP t a p)
 | 0,b,p=>by rw [Nat.zero_add]; rfl
 | a + 1,b,p=>by rw [Nat.add_right_comm]; exact Za5 t a b (t.advance p)
def lp (t:SetTable) (p:SetTable.Probe):SetTable.Probe:={ p with j:=(p.i * 5 + 1 + p.perturb / 32) % (t.mask + 1),more:=SetTable.runEnd t.mask ((p.i * 5 + 1 + p.perturb / 32) % (t.mask + 1)) - (p.i * 5 + 1 + p.perturb / 32) % (t.mask + 1),i:=(p.i * 5 + 1 + p.perturb / 32) % (t.mask + 1),perturb:=p.perturb / 32 }
theorem ZhQ (t:SetTable):∀ (n:Nat) (p:SetTable.Probe),p.more = n -> ZaP t (n + 1) p = lp t p
 | 0,p,h=>by
  show t.advance p = lp t p
  unfold SetTable.advance
  rw [if_neg (by lia)]
  rfl
 | n + 1,p,h=>by
  show ZaP t (n + 1) (t.advance p) = lp t p
  have e:t.advance p = { p with j:=p.j + 1,more:=p.more - 1 }:=by
   unfold SetTable.advance
   rw [if_pos (by lia)]
  rw [e,ZhQ t n { p with j:=p.j + 1,more:=p.more - 1 } (by show p.more - 1 = n; lia)]
  rfl
def lpn (t:SetTable):Nat -> SetTable.Probe -> SetTable.Probe
 | 0,p=>p
 | n + 1,p=>lpn t n (lp t p)
theorem Zjg (t:SetTable) (p:SetTable.Probe):(lp t p).more <= 9:=by
 show SetTable.runEnd t.mask _ - _ <= 9
 unfold SetTable.runEnd
 split <;> lia
theorem ZgP (t:SetTable):∀ (k:Nat) (p:SetTable.Probe),p.more <= 9 -> ∃ n,n <= 10 * k /\ ZaP t n p = lpn t k p
 | 0,p,_=>⟨0,Nat.le_refl _,rfl⟩
 | k + 1,p,h=>by
  obtain ⟨n,hn,e⟩:=ZgP t k (lp t p) (Zjg t p)
  refine ⟨p.more + 1 + n,by lia,?_⟩
  rw [Za5,ZhQ t p.more p rfl,e]
  rfl
theorem Zcp (t:SetTable):∀ (k:Nat) (p:SetTable.Probe),lpn t (k + 1) p = lp t (lpn t k p)
 | 0,_=>rfl
 | k + 1,p=>Zcp t k (lp t p)
theorem ZeL (t:SetTable):∀ (k:Nat) (p:SetTable.Probe),(lpn t k p).perturb = p.perturb / 32 ^ k
 | 0,p=>by simp [lpn]
 | k + 1,p=>by
  show (lpn t k (lp t p)).perturb = _
  rw [ZeL t k (lp t p)]
  show p.perturb / 32 / 32 ^ k = _
  rw [Nat.div_div_eq_div_mul,Nat.pow_succ,Nat.mul_comm]
theorem Zdm (t:SetTable):∀ (n:Nat) (p:SetTable.Probe),p.perturb = 0 -> (lpn t n p).i = itn t.mask n p.i /\ (1 <= n -> (lpn t n p).j = (lpn t n p).i) /\ (lpn t n p).perturb = 0
 | 0,p,h=>⟨rfl,fun z=>absurd z (by decide),h⟩
 | n + 1,p,h=>by
  have h0:(lp t p).perturb = 0:=by show p.perturb / 32 = 0; rw [h]
  have hi:(lp t p).i = nx t.mask p.i:=by show (p.i * 5 + 1 + p.perturb / 32) % (t.mask + 1) = _; rw [h]; rfl
  obtain ⟨a,b,c⟩:=Zdm t n (lp t p) h0
  refine ⟨?_,fun _=>?_,c⟩
  ·show (lpn t n (lp t p)).i = _
   rw [a,hi]
   rfl
  ·cases n with
   | zero=>rfl
   | succ n=>exact b (by lia)
theorem meets {t:SetTable} {p:SetTable.Probe} (hg:Good t.mask) (hm:p.more <= 9) (hp:p.perturb < 2 ^ 64) {j:Nat} (hj:j <= t.mask):∃ n,n < 10 * SetTable.turns t.mask /\ (ZaP t n p).j = j:=by
 have h0:(lpn t 13 p).perturb = 0:=by
  rw [ZeL]
  exact Nat.div_eq_of_lt (Nat.lt_of_lt_of_le hp (by decide))
 have hi:(lpn t 13 p).i <= t.mask:=by
  rw [Zcp]
  exact Nat.le_of_lt_succ (Nat.mod_lt _ (Nat.succ_pos _))
 have hji:(lpn t 13 p).j = (lpn t 13 p).i:=by
  rw [Zcp]
  rfl
 obtain ⟨n,hn,e⟩:=reach hg hi hj
 obtain ⟨a,b,_⟩:=Zdm t n (lpn t 13 p) h0
 have hl:(lpn t n (lpn t 13 p)).j = j:=by
  cases n with
  | zero=>exact hji.trans e
  | succ n=>rw [b (by lia),a,e]
 have hcat:∀ (a b:Nat) (p:SetTable.Probe),lpn t (a + b) p = lpn t b (lpn t a p):=by
  intro a
  induction a with
  | zero=>intro b p; rw [Nat.zero_add]; rfl
  | succ a ih=>intro b p; rw [Nat.add_right_comm]; exact ih b (lp t p)
 obtain ⟨c,hc,ec⟩:=ZgP t (13 + n) p hm
 refine ⟨c,?_,?_⟩
 ·unfold SetTable.turns
  lia
 ·rw [ec,hcat]
  exact hl
theorem ZbQ (t:SetTable) (h:Int):(t.probeStart h).more <= 9 /\ (t.probeStart h).perturb < 2 ^ 64 /\ (t.probeStart h).dummy = none:=by
 refine ⟨?_,?_,rfl⟩
 ·show SetTable.runEnd t.mask _ - _ <= 9
  unfold SetTable.runEnd
  split <;> lia
 ·show SetTable.bits h < 2 ^ 64
  unfold SetTable.bits
  have h1:=Int.emod_nonneg h (by decide:((2:Int) ^ 64) ≠ 0)
  have h2:=Int.emod_lt_of_pos h (by decide:(0:Int) < 2 ^ 64)
  lia
theorem ZfR {t:SetTable} (hd:t.dummies = #[]) (hf:t.fill <= t.mask):∃ j,j <= t.mask /\ t.slot j = .empty:=by
 apply Classical.byContradiction
 intro hn
 have hall:∀ j,j <= t.mask -> j ∈ t.place.toList:=fun j hj=>by
  have h1:t.slot j ≠ .empty:=fun z=>hn ⟨j,hj,z⟩
  unfold SetTable.slot at h1
  dsimp only at h1
  split at h1
  ·rename_i h2
   have h3:=eq_of_beq h2
   rw [<- Array.getElem?_toList] at h3
   exact List.mem_of_getElem? h3
  ·exfalso
   rw [hd] at h1
   exact h1 rfl
 have hsub:(List.range (t.mask + 1)) ⊆ t.place.toList:=fun j hj=>hall j (by have:=List.mem_range.mp hj; lia)
 have hlen:=(List.nodup_range (n:=t.mask + 1)).length_le_of_subset hsub
 rw [List.length_range,Array.length_toList] at hlen
 unfold SetTable.fill at hf
 lia
end Sts
namespace Sts
open PySem
theorem ZdY {t:SetTable} {p:SetTable.Probe} (hg:Good t.mask) (hp:p.perturb < 2 ^ 64) {j:Nat} (hj:j <= t.mask):∃ k,k <= 13 + t.mask /\ (lpn t k p).i = j:=by
 have h0:(lpn t 13 p).perturb = 0:=by
  rw [ZeL]
  exact Nat.div_eq_of_lt (Nat.lt_of_lt_of_le hp (by decide))
 have hi:(lpn t 13 p).i <= t.mask:=by
  rw [Zcp]
  exact Nat.le_of_lt_succ (Nat.mod_lt _ (Nat.succ_pos _))
 obtain ⟨n,hn,e⟩:=reach hg hi hj
 obtain ⟨a,_,_⟩:=Zdm t n (lpn t 13 p) h0
 have hcat:∀ (a b:Nat) (p:SetTable.Probe),lpn t (a + b) p = lpn t b (lpn t a p):=by
  intro a
  induction a with
  | zero=>intro b p; rw [Nat.zero_add]; rfl
  | succ a ih=>intro b p; rw [Nat.add_right_comm]; exact ih b (lp t p)
 exact ⟨13 + n,by lia,by rw [hcat,a,e]⟩
theorem ZcO {t:SetTable} {owner:Array (Option Nat)} {j:Nat} (ho:owner.getD j (some 0) = none):∀ (k fuel:Nat) (p:SetTable.Probe),k < fuel -> (lpn t k p).i = j ->
  ∃ j',SetTable.layClean.free t.mask owner fuel p.i p.perturb = some j' /\ owner.getD j' (some 0) = none
 | k,0,_,h,_=>absurd h (Nat.not_lt_zero _)
 | k,fuel + 1,p,hk,e=>by
  unfold SetTable.layClean.free
  cases hf:(List.range (SetTable.runEnd t.mask p.i + 1 - p.i)).find? fun k=>(owner.getD (p.i + k) (some 0)).isNone with
  | some k' =>
   have h1:=List.find?_some hf
   exact ⟨p.i + k',rfl,Option.isNone_iff_eq_none.mp h1⟩
  | none =>
   cases k with
   | zero =>
    exfalso
    have e':p.i = j:=e
    have h1:=List.find?_eq_none.mp hf 0 (List.mem_range.mpr (by unfold SetTable.runEnd; split <;> lia))
    rw [Nat.add_zero,e',ho] at h1
    exact h1 rfl
   | succ k =>
    exact ZcO ho k fuel (lp t p) (by lia) e
theorem Zby {β : Type} {g g':Nat -> Option β}:∀ l:List Nat,(∀ k ∈ l,g' k = g k) -> l.filterMap g' = l.filterMap g
 | [],_=>rfl
 | y :: l,h=>by
  have ih:=Zby l fun k hk=>h k (List.mem_cons_of_mem _ hk)
  have hy:=h y (List.mem_cons_self ..)
  cases hg:g y with
  | none=>rw [List.filterMap_cons_none (by rw [hy,hg]),List.filterMap_cons_none hg,ih]
  | some z=>rw [List.filterMap_cons_some (by rw [hy,hg]),List.filterMap_cons_some hg,ih]
theorem Zcf {β : Type} {g g':Nat -> Option β} {j:Nat} {x : β} (h0:g j = none) (h1:g' j = some x) (h2:∀ k,k ≠ j -> g' k = g k):∀ l:List Nat,l.Nodup -> j ∈ l -> (l.filterMap g').Perm (x :: l.filterMap g)
 | y :: l,hn,hj=>by
  obtain ⟨hy,hl⟩:=List.nodup_cons.mp hn
  by_cases e:y = j
  ·subst e
   rw [List.filterMap_cons_some h1,List.filterMap_cons_none h0]
   have:l.filterMap g' = l.filterMap g:=Zby l fun k hk=>h2 k fun z=>hy (z ▸ hk)
   rw [this]
  ·have hj':j ∈ l:=(List.mem_cons.mp hj).resolve_left (Ne.symm e)
   have ih:=Zcf h0 h1 h2 l hl hj'
   cases hg:g y with
   | none =>
    rw [List.filterMap_cons_none (by rw [h2 y e,hg]),List.filterMap_cons_none hg]
    exact ih
   | some z =>
    rw [List.filterMap_cons_some (by rw [h2 y e,hg]),List.filterMap_cons_some hg]
    exact (ih.cons z).trans (List.Perm.swap ..)
def Z5 (m:Nat) (owner:Array (Option Nat)):List (Nat × Nat):=(List.range (m + 1)).filterMap fun j=>(owner.getD j none).map (j,·)
structure Own (m:Nat) (owner:Array (Option Nat)) (k:Nat):Prop where
 size:owner.size = m + 1
 perm:((Z5 m owner).map (·.2)).Perm (List.range k)
theorem Zg2 {m:Nat} {owner:Array (Option Nat)} {k:Nat} (h:Own m owner k):(Z5 m owner).length = k:=by
 have:=h.perm.length_eq
 rw [List.length_map,List.length_range] at this
 exact this
theorem Zfa {m:Nat} {owner:Array (Option Nat)} {k:Nat} (h:Own m owner k) (hk:k <= m):∃ j,j <= m /\ owner.getD j (some 0) = none:=by
 apply Classical.byContradiction
 intro hn
 have hall:∀ j ∈ List.range (m + 1),((owner.getD j none).map (Prod.mk j)).isSome = true:=fun j hj=>by
  have hj':=List.mem_range.mp hj
  cases ho:owner.getD j none with
  | some v=>rfl
  | none =>
   exfalso
   refine hn ⟨j,by lia,?_⟩
   have hs:j < owner.size:=by rw [h.size]; exact hj'
   simp only [Array.getD,hs,dif_pos] at ho ⊢
   exact ho
 have hl:(Z5 m owner).length = m + 1:=by
  unfold Z5
  have:∀ (l:List Nat) (g:Nat -> Option (Nat × Nat)),(∀ j ∈ l,(g j).isSome = true) -> (l.filterMap g).length = l.length:=by
   intro l g
   induction l with
   | nil=>exact fun _=>rfl
   | cons y l ih =>
    intro hg
    obtain ⟨z,hz⟩:=Option.isSome_iff_exists.mp (hg y (List.mem_cons_self ..))
    rw [List.filterMap_cons_some hz,List.length_cons,List.length_cons,ih fun j hj=>hg j (List.mem_cons_of_mem _ hj)]
  rw [this _ _ hall,List.length_range]
 have:=Zg2 h
 lia
theorem ZgN {m:Nat} {owner:Array (Option Nat)} {k j:Nat} (h:Own m owner k) (hj:owner.getD j (some 0) = none):Own m (owner.setIfInBounds j (some k)) (k + 1):=by
 have hs:j < owner.size:=by
  apply Classical.byContradiction
  intro hn
  rw [Array.getD,dif_neg hn] at hj
  cases hj
 refine ⟨by rw [Array.size_setIfInBounds]; exact h.size,?_⟩
 have hp:(Z5 m (owner.setIfInBounds j (some k))).Perm ((j,k) :: Z5 m owner):=by
  refine Zcf ?_ ?_ (fun y hy=>?_) _ List.nodup_range (List.mem_range.mpr (by rw [<- h.size]; exact hs))
  ·have:owner.getD j none = none:=by
    simp only [Array.getD,hs,dif_pos] at hj ⊢
    exact hj
   rw [this]
   rfl
  ·have:(owner.setIfInBounds j (some k)).getD j none = some k:=by
    simp [Array.getD,hs]
   rw [this]
   rfl
  ·have:(owner.setIfInBounds j (some k)).getD y none = owner.getD y none:=by
    simp only [Array.getD,Array.size_setIfInBounds]
    split
    ·rename_i hy2
     exact Array.getElem_setIfInBounds_ne (by simpa using hy2) (Ne.symm hy)
    ·rfl
   rw [this]
 refine (hp.map (·.2)).trans ?_
 rw [List.map_cons]
 refine ((h.perm.cons k)).trans ?_
 rw [List.range_succ]
 exact List.perm_append_comm (l₁ := [k]) (l₂ := List.range k)
theorem Zfn {m:Nat} (hg:Good m):∀ (hs:List Int) (owner:Array (Option Nat)) (k:Nat),Own m owner k -> k + hs.length <= m ->
  ∃ owner',hs.foldl (fun (acc:Option (Array (Option Nat) × Nat)) h=>do
   let (owner,k) <- acc
   let j <- SetTable.layClean.free m owner (SetTable.turns m) (SetTable.bits h % (m + 1)) (SetTable.bits h)
   pure (owner.setIfInBounds j (some k),k + 1)) (some (owner,k)) = some (owner',k + hs.length) /\ Own m owner' (k + hs.length)
 | [],owner,k,h,_=>⟨owner,rfl,h⟩
 | x :: hs,owner,k,h,hl=>by
  rw [List.length_cons] at hl
  obtain ⟨j,hj,ho⟩:=Zfa h (by lia)
  have t:SetTable:={ mask:=m,place := #[],dummies := #[],finger:=0,led:=true,moves:=0,plain:=true }
  have hb:SetTable.bits x < 2 ^ 64:=(ZbQ (SetTable.fresh 0 0 true) x).2.1
  obtain ⟨n,hn,e⟩:=ZdY (t:={ mask:=m,place := #[],dummies := #[],finger:=0,led:=true,moves:=0,plain:=true }) (p:={ j:=0,more:=0,i:=SetTable.bits x % (m + 1),perturb:=SetTable.bits x,dummy:=none }) hg hb hj
  obtain ⟨j',hf,ho'⟩:=ZcO ho n (SetTable.turns m) _ (by unfold SetTable.turns; have:n <= 13 + m:=hn; lia) e
  have hf':SetTable.layClean.free m owner (SetTable.turns m) (SetTable.bits x % (m + 1)) (SetTable.bits x) = some j':=hf
  obtain ⟨owner',h1,h2⟩:=Zfn hg hs _ (k + 1) (ZgN h ho') (by lia)
  refine ⟨owner',?_,by rw [List.length_cons,show k + (hs.length + 1) = k + 1 + hs.length by lia]; exact h2⟩
  rw [List.foldl_cons]
  simp only [Option.bind_eq_bind,Option.bind_some,hf',Option.pure_def]
  rw [List.length_cons,show k + (hs.length + 1) = k + 1 + hs.length by lia]
  exact h1
theorem ZhC {m:Nat} (hg:Good m) (fi mo:Nat) (led plain:Bool) (hs:Array Int) (hl:hs.size <= m):∃ t order,SetTable.laid m fi mo led plain hs = some (t,order) /\ t.mask = m /\ t.dummies = #[] /\ t.place.size = hs.size /\ order.toList.Perm (List.range hs.size) /\ t.led = led /\ t.plain = plain /\ t.moves = mo /\ t.place.toList.Pairwise (· < ·):=by
 have h0:Own m (Array.replicate (m + 1) none) 0:=by
  refine ⟨Array.size_replicate,?_⟩
  have:Z5 m (Array.replicate (m + 1) none) = []:=by
   unfold Z5
   rw [List.filterMap_eq_nil_iff]
   intro j hj
   have:(Array.replicate (m + 1) (none:Option Nat)).getD j none = none:=by
    simp [Array.getD]
   rw [this]
   rfl
  rw [this]
  exact List.Perm.refl _
 obtain ⟨owner,h1,h2⟩:=Zfn hg hs.toList _ 0 h0 (by rw [Array.length_toList]; lia)
 rw [Nat.zero_add,Array.length_toList] at h1 h2
 have hc:SetTable.layClean m hs = some owner:=by
  unfold SetTable.layClean
  rw [<- Array.foldl_toList]
  have:=congrArg (Option.map (·.1)) h1
  exact this
 refine ⟨{ mask:=m,place:=((Z5 m owner).map (·.1)).toArray,dummies := #[],finger:=fi,led:=led,moves:=mo,plain:=plain },((Z5 m owner).map (·.2)).toArray,?_,rfl,rfl,?_,?_,rfl,rfl,rfl,?_⟩
 ·unfold SetTable.laid
  rw [hc]
  rfl
 ·show ((Z5 m owner).map (·.1)).toArray.size = _
  rw [List.size_toArray,List.length_map,Zg2 h2]
 ·show ((Z5 m owner).map (·.2)).toArray.toList.Perm _
  exact h2.perm
 ·show ((Z5 m owner).map (·.1)).toArray.toList.Pairwise (· < ·)
  have hsub:((Z5 m owner).map (·.1)).Sublist (List.range (m + 1)):=by
   unfold Z5
   generalize List.range (m + 1) = l
   induction l with
   | nil=>exact List.Sublist.slnil
   | cons y l ih =>
    cases hy:owner.getD y none with
    | none =>
     rw [List.filterMap_cons_none (by rw [hy]; rfl)]
     exact ih.cons _
    | some v =>
     rw [List.filterMap_cons_some (b:=(y,v)) (by rw [hy]; rfl)]
     exact ih.cons_cons y
  exact List.Pairwise.sublist hsub List.pairwise_lt_range
end Sts
namespace Sts
open PySem
def Ris (xs:Array Nat):Prop:=xs.toList.Pairwise (· < ·)
theorem Zb5 {xs:Array Nat} (h:Ris xs) {i j:Nat} (hij:i < j) (hj:j < xs.size):xs[i]'(Nat.lt_trans hij hj) < xs[j]:=by
 have:=List.pairwise_iff_getElem.mp h i j (by rw [Array.length_toList]; lia) (by rw [Array.length_toList]; exact hj) hij
 simpa using this
theorem ZdC {xs:Array Nat} (h:Ris xs) (j:Nat):∀ (fuel lo hi:Nat),lo <= hi -> hi <= xs.size -> hi - lo <= fuel -> (∀ i (hi':i < xs.size),i < lo -> xs[i] < j) -> (∀ i (hi':i < xs.size),hi <= i -> ¬ xs[i] < j) ->
  ∀ r,SetTable.below.go xs j fuel lo hi = r -> r <= xs.size /\ (∀ i (hi':i < xs.size),i < r -> xs[i] < j) /\ (∀ i (hi':i < xs.size),r <= i -> ¬ xs[i] < j)
 | 0,lo,hi,h1,h2,h3,a,b,r,e=>by
  have e':lo = r:=e
  subst e'
  have:lo = hi:=by lia
  subst this
  exact ⟨h2,a,b⟩
 | fuel + 1,lo,hi,h1,h2,h3,a,b,r,e=>by
  unfold SetTable.below.go at e
  by_cases hl:lo < hi
  ·rw [if_pos hl] at e
   dsimp only at e
   have hm:(lo + hi) / 2 < xs.size:=by lia
   have hgd:xs.getD ((lo + hi) / 2) j = xs[(lo + hi) / 2]:=by simp [Array.getD,hm]
   rw [hgd] at e
   by_cases hx:xs[(lo + hi) / 2] < j
   ·rw [if_pos hx] at e
    refine ZdC h j fuel ((lo + hi) / 2 + 1) hi (by lia) h2 (by lia) (fun i hi' hlt=>?_) b r e
    by_cases e2:i = (lo + hi) / 2
    ·subst e2; exact hx
    ·exact Nat.lt_trans (Zb5 h (show i < (lo + hi) / 2 by lia) hm) hx
   ·rw [if_neg hx] at e
    refine ZdC h j fuel lo ((lo + hi) / 2) (by lia) (by lia) (by lia) a (fun i hi' hle=>?_) r e
    by_cases e2:i = (lo + hi) / 2
    ·subst e2; exact hx
    ·have:=Zb5 h (show (lo + hi) / 2 < i by lia) hi'
     lia
  ·rw [if_neg hl] at e
   subst e
   have:lo = hi:=by lia
   subst this
   exact ⟨h2,a,b⟩
theorem Za1 {xs:Array Nat} (h:Ris xs) (j:Nat):SetTable.below xs j <= xs.size /\ (∀ i (hi':i < xs.size),i < SetTable.below xs j -> xs[i] < j) /\ (∀ i (hi':i < xs.size),SetTable.below xs j <= i -> ¬ xs[i] < j) :=
 ZdC h j xs.size 0 xs.size (Nat.zero_le _) (Nat.le_refl _) (by lia) (fun _ _ z=>absurd z (Nat.not_lt_zero _)) (fun i hi' z=>by lia) _ rfl
theorem ZbT {α : Type} (xs:Array α) (p:Nat) (x : α):(SetTable.insertAt xs p x).toList = xs.toList.take p ++ x :: xs.toList.drop p:=by
 unfold SetTable.insertAt
 simp [Array.toList_extract,List.extract]
 rw [List.take_of_length_le]
 simp
theorem Zde {xs:Array Nat} (h:Ris xs) {j:Nat} (hj:j ∉ xs.toList):Ris (SetTable.insertAt xs (SetTable.below xs j) j):=by
 obtain ⟨h1,h2,h3⟩:=Za1 h j
 unfold Ris
 rw [ZbT,List.pairwise_append]
 refine ⟨List.Pairwise.sublist (List.take_sublist _ _) h,?_,?_⟩
 ·rw [List.pairwise_cons]
  refine ⟨fun y hy=>?_,List.Pairwise.sublist (List.drop_sublist _ _) h⟩
  obtain ⟨i,hi,e⟩:=List.mem_iff_getElem.mp hy
  rw [List.length_drop,Array.length_toList] at hi
  rw [List.getElem_drop] at e
  have:=h3 (SetTable.below xs j + i) (by lia) (by lia)
  have e2:y = xs[SetTable.below xs j + i]'(by lia):=by rw [<- e]; simp
  have hne:y ≠ j:=fun z=>hj (z ▸ List.mem_of_mem_drop hy)
  lia
 ·intro a ha b hb
  obtain ⟨i,hi,e⟩:=List.mem_iff_getElem.mp ha
  rw [List.length_take,Array.length_toList] at hi
  rw [List.getElem_take] at e
  have h4:=h2 i (by lia) (by lia)
  have e2:a = xs[i]'(by lia):=by rw [<- e]; simp
  rcases List.mem_cons.mp hb with rfl | hb
  ·lia
  ·obtain ⟨k,hk,ek⟩:=List.mem_iff_getElem.mp hb
   rw [List.length_drop,Array.length_toList] at hk
   rw [List.getElem_drop] at ek
   have h5:=h3 (SetTable.below xs j + k) (by lia) (by lia)
   have e3:b = xs[SetTable.below xs j + k]'(by lia):=by rw [<- ek]; simp
   lia
theorem ZfG {xs:Array Nat} (h:Ris xs) {i:Nat} (hi:i < xs.size):SetTable.below xs (xs[i] + 1) = i + 1:=by
 obtain ⟨h1,h2,h3⟩:=Za1 h (xs[i] + 1)
 rcases Nat.lt_trichotomy (SetTable.below xs (xs[i] + 1)) (i + 1) with z | z | z
 ·exact absurd (Nat.lt_succ_self xs[i]) (h3 i hi (by lia))
 ·exact z
 ·exfalso
  have h4:=h2 (i + 1) (by lia) (by lia)
  have h5:=Zb5 h (show i < i + 1 by lia) (show i + 1 < xs.size by lia)
  lia
theorem Zf7 {xs:Array Nat} (h:Ris xs):SetTable.below xs 0 = 0:=by
 obtain ⟨h1,h2,h3⟩:=Za1 h 0
 rcases Nat.eq_zero_or_pos (SetTable.below xs 0) with z | z
 ·exact z
 ·exact absurd (h2 0 (by lia) z) (Nat.not_lt_zero _)
theorem ZbO {t:SetTable} (h:Ris t.place) {j:Nat} (he:t.slot j = .empty):j ∉ t.place.toList:=fun hm=>by
 obtain ⟨i,hi,e⟩:=List.mem_iff_getElem.mp hm
 rw [Array.length_toList] at hi
 have e2:t.place[i] = j:=by rw [<- e]; simp
 obtain ⟨h1,h2,h3⟩:=Za1 h j
 have hb:SetTable.below t.place j = i:=by
  rcases Nat.lt_trichotomy (SetTable.below t.place j) i with z | z | z
  ·have h4:=Zb5 h z hi
   have h5:=h3 (SetTable.below t.place j) (by lia) (Nat.le_refl _)
   lia
  ·exact z
  ·have h4:=h2 i hi z
   lia
 unfold SetTable.slot at he
 dsimp only at he
 rw [hb,Array.getElem?_eq_getElem hi,e2] at he
 simp at he
end Sts
namespace Sts
open PySem
section
variable {prog:Program} {w:World} {K:Type} [DecidableEq K] {knd:KeyKind prog w K} {A:Around} {E:Value -> Shared -> Prop} {s:Shared}
theorem ZhY {n:Nat} {v:Value} (h:carriedByValue v = true):ofAClassStatement n v = pure false:=by
 cases v <;> first | (unfold ofAClassStatement; rfl) | (cases h)
theorem Zet {ks:List K} {a:Addr} {Q:Bool -> Shared -> Prop} (hk:IsTupleKey knd s.heap ks a) (h:Q false s):wpAny (model prog w) A (ofAClassStatement 8 (.ref a)) Q E s:=by
 have hT:=hk.typeIs
 obtain ⟨o,items,n,ho,hc,hd,hi⟩:=hk
 unfold ofAClassStatement
 refine wpAny_bind (wpAny_typeOf hT ?_)
 dsimp only
 rw [if_pos (by decide)]
 refine wpAny_bind (wpAny_pure ?_)
 rw [if_neg (by decide)]
 refine wpAny_bind (wpAny_seqItems ho hd ?_)
 dsimp only
 rw [<- Array.forIn_toList]
 refine wpAny_bind (wpAny_forIn_list _ (fun rest r s'=>r.1 = none /\ s' = s /\ ∀ v ∈ rest,carriedByValue v = true) _ ?_ ?_ _ _ ⟨rfl,rfl,hi.byValue⟩)
 ·rintro v rest r s' ⟨hr,rfl,hall⟩
  rw [ZhY (hall v List.mem_cons_self)]
  refine wpAny_bind (wpAny_pure ?_)
  rw [if_neg (by decide)]
  exact wpAny_pure ⟨rfl,rfl,fun u hu'=>hall u (List.mem_cons_of_mem _ hu')⟩
 ·rintro ⟨r1,r2⟩ s' ⟨hr,rfl,_⟩
  obtain rfl:r1 = none:=hr
  exact wpAny_pure h
theorem Zh4 {n:Nat} {v:Value} (h:carriedByValue v = true):∃ b,hashByValue n v = pure b:=by
 cases v <;> first | exact ⟨_,by unfold hashByValue; rfl⟩ | (cases h)
theorem ZhB {ks:List K} {a:Addr} {Q:Bool -> Shared -> Prop} (hk:IsTupleKey knd s.heap ks a) (h:∀ b,Q b s):wpAny (model prog w) A (hashByValue 8 (.ref a)) Q E s:=by
 have hT:=hk.typeIs
 obtain ⟨o,items,n,ho,hc,hd,hi⟩:=hk
 unfold hashByValue
 refine wpAny_bind (wpAny_specialOf hT F.slot_tuple_hash.lookup ?_)
 dsimp only
 refine wpAny_bind (wpAny_seqItems ho hd ?_)
 dsimp only [Option.getD_some]
 rw [<- Array.forIn_toList]
 refine wpAny_bind (wpAny_forIn_list _ (fun rest r s'=>r.1 = none /\ s' = s /\ ∀ v ∈ rest,carriedByValue v = true) _ ?_ ?_ _ _ ⟨rfl,rfl,hi.byValue⟩)
 ·rintro v rest r s' ⟨hr,rfl,hall⟩
  obtain ⟨b,hb⟩:=Zh4 (n:=7) (hall v List.mem_cons_self)
  rw [hb]
  refine wpAny_bind (wpAny_pure ?_)
  cases b with
  | true =>
   rw [if_neg (by decide)]
   exact wpAny_pure ⟨rfl,rfl,fun u hu'=>hall u (List.mem_cons_of_mem _ hu')⟩
  | false =>
   rw [if_pos (by decide)]
   exact wpAny_pure (wpAny_pure (h _))
 ·rintro ⟨r1,r2⟩ s' ⟨hr,rfl,_⟩
  obtain rfl:r1 = none:=hr
  exact wpAny_pure (h _)
theorem Zkd {ks:List K} {a:Addr} (hk:IsTupleKey knd s.heap ks a):∀ (stored:List Value) {Q:Bool -> Shared -> Prop},(∀ v ∈ stored,∃ ks b,v = .ref b /\ IsTupleKey knd s.heap ks b) -> Q false s -> wpAny (model prog w) A (searchCouldBeSeen (.ref a) stored) Q E s:=by
 intro stored Q hs h
 unfold searchCouldBeSeen
 refine wpAny_bind (wpAny_forIn_list _ (fun rest r s'=>r.1 = none /\ s' = s /\ ∀ v ∈ rest,∃ ks b,v = Value.ref b /\ IsTupleKey knd s.heap ks b) _ ?_ ?_ _ _ ⟨rfl,rfl,hs⟩)
 ·rintro v rest r s' ⟨hr,rfl,hall⟩
  obtain ⟨ks',b,rfl,hb⟩:=hall v List.mem_cons_self
  have hrest:∀ v ∈ rest,∃ ks b,v = Value.ref b /\ IsTupleKey knd s'.heap ks b:=fun v hv=>hall v (List.mem_cons_of_mem _ hv)
  dsimp only
  split
  ·exact wpAny_pure ⟨rfl,rfl,hrest⟩
  ·refine wpAny_bind (wpAny_eqIsQuiet_tuple hk ?_)
   rw [if_neg (by decide)]
   refine wpAny_bind (wpAny_eqIsQuiet_tuple hb ?_)
   rw [if_neg (by decide)]
   refine wpAny_bind (Zet hk ?_)
   rw [if_neg (by decide)]
   refine wpAny_bind (Zet hb ?_)
   rw [if_neg (by decide)]
   exact wpAny_pure ⟨rfl,rfl,hrest⟩
 ·rintro ⟨r1,r2⟩ s' ⟨hr,rfl,_⟩
  obtain rfl:r1 = none:=hr
  exact wpAny_pure h
def EK (knd:KeyKind prog w K):Bool -> Heap -> Int × Value -> Prop
 | true,_,e=>∃ i t,e.2 = Value.int i t /\ e.1 = (intKind prog w).hash i
 | false,h,e=>∃ ks b,e.2 = .ref b /\ IsTupleKey knd h ks b
def ZjN (knd:KeyKind prog w K) (b:Bool) (h:Heap) (es:Array (Int × Value)):Prop := ∀ e ∈ es.toList,EK knd b h e
structure Tab (es:Array (Int × Value)) (t:SetTable):Prop where
 size:t.place.size = es.size
 none:t.dummies = #[]
 good:Good t.mask
 room:t.fill * 5 < t.mask * 3
 ris:Ris t.place
theorem Tab.fill_eq {es:Array (Int × Value)} {t:SetTable} (h:Tab es t):t.fill = es.size:=by
 unfold SetTable.fill
 rw [h.size,h.none]
 rfl
theorem Tab.fits {es:Array (Int × Value)} {t:SetTable} (h:Tab es t):t.fits es.size = true:=by
 have:=h.room
 unfold SetTable.fits
 rw [h.size]
 simp
 lia
theorem Zio {m:Nat} (h:Good m):m % 2 = 1:=by
 rcases h with h | h | h | h | h | h | h | h | h | h <;> subst h <;> rfl
theorem Zc5 (t:SetTable):∀ (n:Nat) (p:SetTable.Probe),p.dummy = none -> (ZaP t n p).dummy = none
 | 0,_,h=>h
 | n + 1,p,h=>Zc5 t n (t.advance p) (by
  unfold SetTable.advance
  split
  ·exact h
  ·exact h)
theorem ZhN {t:SetTable} {j i:Nat} (h:t.slot j = .live i):i < t.place.size:=by
 unfold SetTable.slot at h
 dsimp only at h
 split at h
 ·rename_i h2
  cases h
  have h3:=eq_of_beq h2
  exact (Array.getElem?_eq_some_iff.mp h3).1
 ·split at h <;> cases h
end
end Sts
namespace Sts
open PySem
def ZiF (n:Nat):Bool:=(SetTable.sizeAbove n - 1 == 7 || SetTable.sizeAbove n - 1 == 15 || SetTable.sizeAbove n - 1 == 31 || SetTable.sizeAbove n - 1 == 63 || SetTable.sizeAbove n - 1 == 127 || SetTable.sizeAbove n - 1 == 255 || SetTable.sizeAbove n - 1 == 511 || SetTable.sizeAbove n - 1 == 1023 || SetTable.sizeAbove n - 1 == 2047 || SetTable.sizeAbove n - 1 == 4095) && decide (n < SetTable.sizeAbove n) && decide (SetTable.sizeAbove n <= 4096)
theorem Zgx:(List.range 4096).all ZiF = true:=by decide +kernel
theorem above {n:Nat} (h:n < 4096):Good (SetTable.sizeAbove n - 1) /\ n < SetTable.sizeAbove n /\ SetTable.sizeAbove n <= 4096:=by
 have:=List.all_eq_true.mp Zgx n (List.mem_range.mpr h)
 unfold ZiF at this
 simp only [Bool.and_eq_true,Bool.or_eq_true,beq_iff_eq,decide_eq_true_eq] at this
 obtain ⟨⟨h1,h2⟩,h3⟩:=this
 refine ⟨?_,h2,h3⟩
 unfold Good
 simpa only [or_assoc] using h1
section
variable {prog:Program} {w:World} {K:Type} [DecidableEq K] {knd:KeyKind prog w K} {A:Around} {E:Value -> Shared -> Prop} {s:Shared}
theorem stored {h:Heap} {S:Addr} {o:Obj} {es:Array (Int × Value)} {ep:Nat} {t:SetTable} (ho:h.get? S = some o) (hd:o.data = .set es ep t) (es':Array (Int × Value)) (t':SetTable) :
  (h.update S (Obj.putSet es' t')).get? S = some { o with data:=.set es' (ep + 1) t' }:=by
 have:=Heap.get?_update_self (Obj.putSet es' t') ho (by rw [putSet_of es' t' hd]; rfl)
 rw [putSet_of es' t' hd] at this
 exact this
theorem Zi4 {h h':Heap} {S a:Addr} {o:Obj} {es:Array (Int × Value)} {ep:Nat} {t:SetTable} {ks:List K} (ho:h.get? S = some o) (hd:o.data = .set es ep t) (sb:Heap.SameBut S h h') (hk:IsTupleKey knd h ks a):IsTupleKey knd h' ks a:=by
 obtain ⟨o2,items,n,h1,h2,h3,h4⟩:=hk
 have hne:a ≠ S:=fun z=>by
  rw [z,ho] at h1
  cases h1
  rw [hd] at h3
  cases h3
 exact ⟨o2,items,n,(sb.2 a hne).trans h1,h2,h3,h4⟩
end
end Sts
namespace Sts
open PySem
section
variable {prog:Program} {w:World} {K:Type} [DecidableEq K] {knd:KeyKind prog w K} {A:Around} {E:Value -> Shared -> Prop} {s:Shared}
theorem ZcS {es:Array (Int × Value)} {t:SetTable} (hT:Tab es t) (h:Int):∃ n,n < 10 * SetTable.turns t.mask /\ t.slot (ZaP t n (t.probeStart h)).j = .empty:=by
 obtain ⟨a,b,c⟩:=ZbQ t h
 have hr:=hT.room
 obtain ⟨j,hj,he⟩:=ZfR hT.none (by lia)
 obtain ⟨n,hn,e⟩:=meets hT.good a b hj
 exact ⟨n,hn,by rw [e]; exact he⟩
theorem ZeM {m:Nat} (h:Good m):10 * SetTable.turns m < 100000:=by
 unfold SetTable.turns
 rcases h with h | h | h | h | h | h | h | h | h | h <;> subst h <;> decide
theorem Zgw {t:SetTable} (hd:t.dummies = #[]) (ha:Nat -> Int) (h:Int) (hne:∀ i,(ha i == h) = false):∀ (n fuel:Nat) (p:SetTable.Probe),p.dummy = none -> n < fuel -> t.slot (ZaP t n p).j = .empty ->
  ∃ j,SetTable.probe.go t ha h fuel p = some (.empty j none) /\ t.slot j = .empty
 | n,0,_,_,hn,_=>absurd hn (Nat.not_lt_zero _)
 | n,fuel + 1,p,hp,hn,he=>by
  unfold SetTable.probe.go
  cases hs:t.slot p.j with
  | empty=>exact ⟨p.j,by rw [hp],hs⟩
  | dummy =>
   exfalso
   unfold SetTable.slot at hs
   dsimp only at hs
   split at hs
   ·cases hs
   ·rw [hd] at hs
    exact SetTable.Slot.noConfusion hs
  | live i =>
   dsimp only
   cases n with
   | zero =>
    rw [show (ZaP t 0 p).j = p.j from rfl,hs] at he
    cases he
   | succ n =>
    rw [if_neg (by rw [hne i]; decide)]
    have hdm:(t.advance p).dummy = none:=by
     unfold SetTable.advance
     split
     ·exact hp
     ·exact hp
    exact Zgw hd ha h hne n fuel (t.advance p) hdm (by lia) he
theorem Zha {es:Array (Int × Value)} {t:SetTable} (hT:Tab es t) (h:Int):∃ j,t.freeSlot h = some (j,false) /\ t.slot j = .empty:=by
 obtain ⟨n,hn,he⟩:=ZcS hT h
 obtain ⟨j,e,hj⟩:=Zgw hT.none (fun _=>h + 1) h (fun _=>by simp; lia) n (10 * SetTable.turns t.mask) (t.probeStart h) (ZbQ t h).2.2 hn he
 refine ⟨j,?_,hj⟩
 unfold SetTable.freeSlot SetTable.probe
 rw [e]
 rfl
theorem Zjq {es:Array (Int × Value)} {t:SetTable} (hT:Tab es t) (h:Int) (x:Value):∃ j,t.slot j = .empty /\ layNew t es h x = (SetTable.insertAt es (SetTable.below t.place j) (h,x),{ t with place:=SetTable.insertAt t.place (SetTable.below t.place j) j },false,false):=by
 obtain ⟨j,e,hj⟩:=Zha hT h
 refine ⟨j,hj,?_⟩
 have hhas:SetTable.has t.dummies j = false:=by rw [hT.none]; rfl
 have hput:t.put j = ({ t with place:=SetTable.insertAt t.place (SetTable.below t.place j) j },SetTable.below t.place j):=by
  unfold SetTable.put
  rw [hhas]
  rfl
 have hs1:(SetTable.insertAt es (SetTable.below t.place j) (h,x)).size = es.size + 1:=by
  rw [<- Array.length_toList,(SetTable.insertAt_perm es (SetTable.below t.place j) (h,x)).length_eq,Array.length_toList,Array.size_push]
 have hp1:(SetTable.insertAt t.place (SetTable.below t.place j) j).size = es.size + 1:=by
  rw [<- Array.length_toList,(SetTable.insertAt_perm t.place (SetTable.below t.place j) j).length_eq,Array.length_toList,Array.size_push,hT.size]
 have hr:=hT.room
 have hfe:=hT.fill_eq
 have hfits:({ t with place:=SetTable.insertAt t.place (SetTable.below t.place j) j }:SetTable).fits (SetTable.insertAt es (SetTable.below t.place j) (h,x)).size = true:=by
  unfold SetTable.fits SetTable.fill
  rw [hs1]
  dsimp only
  rw [hp1,hT.none]
  simp
  lia
 unfold layNew
 rw [e]
 dsimp only
 rw [hput]
 dsimp only
 unfold SetTable.orStandIn
 rw [hfits]
 rfl
theorem ZgZ {es:Array (Int × Value)} {t:SetTable} (h1:1 <= es.size) (hn:es.size <= 1000):∃ es' t' g,relayAll t es (SetTable.grown es.size) = (es',t',g) /\ es'.toList.Perm es.toList /\ Tab es' t' /\ t'.led = t.led:=by
 have hgr:SetTable.grown es.size = es.size * 4:=by unfold SetTable.grown; rw [if_neg (by lia)]
 rw [hgr]
 obtain ⟨g1,g2,g3⟩:=above (n:=es.size * 4) (by lia)
 obtain ⟨t',order,e,m1,m2,m3,m4,m5,m6,m7,m8⟩:=ZhC g1 t.finger (t.movedTo (SetTable.sizeAbove (es.size * 4) - 1)) t.led t.plain (es.map (·.1)) (by rw [Array.size_map]; lia)
 rw [Array.size_map] at m3 m4
 have e2:t.relaid (es.map (·.1)) (es.size * 4) = some (t',order):=e
 have hperm:(order.filterMap (es[·]?)).toList.Perm es.toList:=by
  rw [Array.toList_filterMap]
  exact (m4.filterMap _).trans (List.Perm.of_eq (filterMap_getElem?_range es))
 have hsz:(order.filterMap (es[·]?)).size = es.size:=by
  rw [<- Array.length_toList,hperm.length_eq,Array.length_toList]
 have hfill:t'.fill = es.size:=by
  unfold SetTable.fill
  rw [m2,m3]
  rfl
 have hfits:t'.fits (order.filterMap (es[·]?)).size = true:=by
  unfold SetTable.fits
  rw [hsz,m3,hfill,m1]
  simp
  lia
 have hcov:coversAll order es.size = true:=by
  unfold coversAll
  exact List.isPerm_iff.mpr m4
 refine ⟨order.filterMap (es[·]?),t',false,?_,hperm,⟨by rw [m3,hsz],m2,by rw [m1]; exact g1,?_,m8⟩,m5⟩
 ·unfold relayAll
  rw [e2]
  dsimp only
  rw [hcov,hfits]
  rfl
 ·rw [hfill,m1]
  lia
theorem Zdb {h:Heap} {es:Array (Int × Value)} (hE:ZjN knd true h es):ElemsOf (intKind prog w) es.toList:=fun e he=>by
 obtain ⟨i,t,e1,e2⟩:=hE e he
 refine ⟨⟨i,?_,e2⟩,?_⟩
 ·rw [e1]
  exact intKind_is _ _ _ _
 ·rw [e1]
  rfl
end
end Sts
namespace Sts
open PySem PyProof.Rows
section
variable {prog:Program} {w:World} {K:Type} [DecidableEq K] {knd:KeyKind prog w K} {A:Around} {R:Result -> Shared -> Prop}
end
end Sts
namespace Sts
open PySem PyProof.Rows
section
variable {prog:Program} {w:World} {K:Type} [DecidableEq K] {knd:KeyKind prog w K} {A:Around} {E:Value -> Shared -> Prop} {s:Shared}
abbrev ZfY (w:World):Bool := !w.params.followText "set-order"
abbrev Z9 (w:World):Obj:={ cls:=.type "set",dict:=none,data:=.set #[] 0 (.fresh 0 0 (ZfY w)) }
theorem Zis (a:Value) {Q₁ : Value -> Shared -> Prop} (h:Q₁ (.ref s.heap.objs.size) { s with heap:=s.heap.push (Z9 w) }) :
  codeAny (model prog w) A (.call (.builtin "set.__new__") ⟨[.type "set",a],[]⟩) (wants Q₁ E) s:=by
 refine codeAny_of_tree ?_
 change wpAny _ A.in1 (do checkBuiltinCall "set.__new__" ⟨[.type "set",a],[]⟩; again (.builtin "set.__new__" ⟨[.type "set",a],[]⟩)) _ _ s
 refine wpAny_bind (wpAny_of_eq (PySem.F.newCall_set_1 a) (wpAny_pure ⟨plainId_quiet PySem.F.plain_set_new _,codeAny_builtin PySem.F.entry_set_new ?_⟩))
 rw [Around.under_plainId PySem.F.plain_set_new _]
 unfold Builtin.«set.__new__» Builtin.Frozenset.newClass
 have isSelf:=sub_set_self
 obtain ⟨hp,g,d,tk,os⟩:=s
 dsimp only
 wp_walk
 refine wpAny_askSetting (wpAny_pure ?_)
 dsimp only
 simp only [newObj]
 exact wpAny_bind (wpAny_alloc (wpAny_pure (wpAny_pure h)))
end
end Sts
namespace Sts
open PySem PyProof.Rows
theorem Zad:Slot "set_iterator" "__next__" "set_iterator.__next__" :=
 .of (owner := "set_iterator") (n := "__next__") (by rw [typeLookup_type,builtinLookup_eq_fast]; kernel_rfl) (by decide +kernel) (by decide +kernel) (by decide +kernel) (by first | exact .inl (by decide +kernel) | exact .inr (by decide +kernel)) (by rw [isSubtype_type]; kernel_rfl)
theorem ZbU:entryFor table "set_iterator.__next__" = some Builtin.«set_iterator.__next__» := entryFor_of_tree (by kernel_rfl)
theorem Zfl:Manifest.owners.lookup (String.ofList ['r','o','t','a','r','e','t','i','_','t','e','s'].reverse) = some Manifest.sig_set_iterator:=by kernel_rfl
theorem Zcd (a:Value):argsOk "set_iterator.__next__" ⟨[a],[]⟩:=by
 unfold argsOk; rw [signature?_of (id := "set_iterator.__next__") (n:=['_','_','t','x','e','n','_','_']) (o:=['r','o','t','a','r','e','t','i','_','t','e','s']) (by kernel_rfl) Zfl]; kernel_rfl
theorem Zcg:Slot "set_iterator" "__iter__" "set_iterator.__iter__" :=
 .of (owner := "set_iterator") (n := "__iter__") (by rw [typeLookup_type,builtinLookup_eq_fast]; kernel_rfl) (by decide +kernel) (by decide +kernel) (by decide +kernel) (by first | exact .inl (by decide +kernel) | exact .inr (by decide +kernel)) (by rw [isSubtype_type]; kernel_rfl)
theorem Zdu:entryFor table "set_iterator.__iter__" = some Builtin.«dict_keyiterator.__iter__» := entryFor_alias (id' := "dict_keyiterator.__iter__") (by kernel_rfl) rfl (by decide +kernel) (by kernel_rfl)
theorem Zeg (a:Value):argsOk "set_iterator.__iter__" ⟨[a],[]⟩:=by
 unfold argsOk; rw [signature?_of (id := "set_iterator.__iter__") (n:=['_','_','r','e','t','i','_','_']) (o:=['r','o','t','a','r','e','t','i','_','t','e','s']) (by kernel_rfl) Zfl]; kernel_rfl
theorem Zd8:entryFor table "set.__iter__" = some Builtin.«frozenset.__iter__» := entryFor_alias (id' := "frozenset.__iter__") (by kernel_rfl) rfl (by decide +kernel) (by kernel_rfl)
theorem Zb3 {α : Type}:∀ {l:List α} {i:Nat} (hi:i < l.length),(l[i] :: l.eraseIdx i).Perm l
 | x :: l,0,_=>List.Perm.refl _
 | x :: l,i + 1,hi=>by
  have hi':i < l.length:=by simpa using hi
  show (l[i] :: x :: l.eraseIdx i).Perm (x :: l)
  exact (List.Perm.swap ..).trans ((Zb3 hi').cons x)
section
variable {prog:Program} {w:World} {A:Around} {E:Value -> Shared -> Prop} {s:Shared}
theorem wp_choose {src:Source} {n:Nat} {Q:Nat -> Shared -> Prop} (hn:n ≠ 0) (h:∀ i d,i < n -> Q i { s with drawn:=d }):wpAny (model prog w) A (choose src n) Q E s:=fun _ _ _=>⟨hn,h _ _ (Nat.mod_lt _ (Nat.pos_of_ne_zero hn))⟩
theorem Zgm {α : Type}:∀ (n:Nat) (xs:List α) (s:Shared) {Q:List α -> Shared -> Prop},xs.length = n -> (∀ ys d,ys.Perm xs -> Q ys { s with drawn:=d }) -> wpAny (model prog w) A (drawOrder n xs) Q E s
 | 0,xs,s,Q,hl,h=>by
  obtain rfl:=List.eq_nil_of_length_eq_zero hl
  unfold drawOrder
  exact wpAny_pure (h [] s.drawn (List.Perm.refl _))
 | n + 1,[],s,Q,hl,h=>by simp at hl
 | n + 1,x :: xs,s,Q,hl,h=>by
  unfold drawOrder
  refine wpAny_bind (wp_choose (by simp) fun i d hi=>?_)
  rw [List.getElem?_eq_getElem hi]
  dsimp only
  refine wpAny_bind (Zgm n ((x :: xs).eraseIdx i) { s with drawn:=d } (by rw [List.length_eraseIdx_of_lt hi,hl]; rfl) fun ys d' hp=>wpAny_pure (h _ d' ?_))
  refine (hp.cons _).trans ?_
  exact (Zb3 hi)
theorem Zd2 {α : Type} (next:Nat -> Nat):∀ (n k:Nat) (left:List α) (out:Array α),left.length = n -> (pickOrder.go next n k left out).toList.Perm (out.toList ++ left)
 | 0,k,left,out,hl=>by
  obtain rfl:=List.eq_nil_of_length_eq_zero hl
  unfold pickOrder.go
  rw [List.append_nil]
 | n + 1,k,left,out,hl=>by
  unfold pickOrder.go
  have hi:next k % left.length < left.length:=Nat.mod_lt _ (by lia)
  rw [List.getElem?_eq_getElem hi]
  dsimp only
  refine (Zd2 next n (k + 1) _ _ (by rw [List.length_eraseIdx_of_lt hi,hl]; rfl)).trans ?_
  rw [Array.toList_push,List.append_assoc]
  exact List.Perm.append_left _ (Zb3 hi)
structure SIt (w:World) (h:Heap) (I S T:Addr) (es:Array (Int × Value)) (ep:Nat) (t:SetTable) (ys:List Value) (i:Nat):Prop where
  set:∃ o,h.get? S = some o /\ o.data = .set es ep t
  tab:t.fits es.size = true
  at_:∃ first o,h.get? I = some o /\ o.cls = .type "set_iterator" /\ o.data = .fields #[first,.int i 0,.ref S,.int es.size 0,.int ep 0] /\
    ((∃ sl:Nat,first = Value.int sl 0 /\ w.params.followText "set-order" = true /\ ys = (pickOrder (w.params.setOrder S ep) es).toList.map (·.2)) \/
     (∃ sl:Nat,first = Value.int sl 0 /\ w.params.followText "set-order" = false /\ (!t.plain && decide (es.size > 1)) = false /\ t.led = true /\ SetTable.below t.place sl = i /\ Ris t.place /\ ys = es.toList.map (·.2)) \/
     (∃ places n oT,first = Value.ref T /\ h.get? T = some oT /\ oT.data = .seq places n /\ places.toList.length = es.size /\ ∀ (k:Nat) (v:Value),places[k]? = some v -> ∃ (j:Nat) (tk:Tok),v = Value.int (j:Nat) tk /\ (es[j]?).map (·.2) = ys[k]? /\ j < es.size))
end
end Sts
namespace Sts
open PySem PyProof.Rows
section
variable {prog:Program} {w:World} {A:Around} {E:Value -> Shared -> Prop} {s:Shared}
theorem SIt.ty {h:Heap} {I S T:Addr} {es:Array (Int × Value)} {ep:Nat} {t:SetTable} {ys:List Value} {i:Nat} {s:Shared} (x:SIt w s.heap I S T es ep t ys i):s.TypeIs (.ref I) "set_iterator" := let ⟨_,o,ho,hc,_⟩:=x.at_; ⟨o,ho,hc⟩
theorem Zew {S:Addr} {o:Obj} {es:Array (Int × Value)} {ep:Nat} {t:SetTable} {Q:Array (Int × Value) -> Shared -> Prop} (ho:s.heap.get? S = some o) (hd:o.data = .set es ep t) (hf:t.fits es.size = true) (h:Q es s):wpAny (model prog w) A (setEntries S) Q E s:=by
 unfold setEntries
 exact wpAny_bind (wpAny_setState_of ho hd hf (wpAny_pure h))
theorem byText {Q:Bool -> Shared -> Prop} (h:Q (w.params.followText "set-order") s):wpAny (model prog w) A setsByText Q E s:=by
 unfold setsByText
 exact wpAny_bind (wpAny_askSetting (wpAny_pure h))
theorem fld {I:Addr} {o:Obj} {fs:Array Value} {k:Nat} {v:Value} {Q:Unit -> Shared -> Prop} (ho:s.heap.get? I = some o) (hd:o.data = .fields fs) (hk:k < fs.size) (hc:o.cls = .type "set_iterator")
  (h:∀ h' o',h'.get? I = some o' -> o'.cls = .type "set_iterator" -> o'.data = .fields (fs.setIfInBounds k v) -> Heap.SameBut I s.heap h' -> Q () { s with heap:=h' }):wpAny (model prog w) A (setField (.ref I) k v) Q E s :=
 wpAny_setField ho hd hk (h _ _ (Heap.get?_update_self _ ho (Obj.isFreed_of_fields (Obj.data_mapFields hd _))) ((Obj.cls_mapFields ..).trans hc) (Obj.data_mapFields hd _) (Heap.SameBut.update ..))
theorem ZdZ {S:Addr} {o:Obj} {es:Array (Int × Value)} {ep:Nat} {t:SetTable} {sl i:Nat} {Q:Option (Value × Nat) -> Shared -> Prop} (hT:w.params.followText "set-order" = true) (ho:s.heap.get? S = some o) (hd:o.data = .set es ep t) (hf:t.fits es.size = true)
  (h:Q (((pickOrder (w.params.setOrder S ep) es)[i]?).map fun e=>(e.2,sl)) s):wpAny (model prog w) A (setNext S sl i ep) Q E s:=by
 unfold setNext
 refine wpAny_bind (wpAny_setState_of ho hd hf ?_)
 dsimp only
 refine wpAny_bind (byText ?_)
 rw [hT,if_pos rfl,if_neg (by simp)]
 unfold setWalk
 refine wpAny_bind (wpAny_bind (wpAny_setState_of ho hd hf ?_))
 dsimp only
 refine wpAny_bind (byText ?_)
 rw [hT,if_pos rfl]
 exact wpAny_bind (wpAny_askSetting (wpAny_pure (wpAny_pure h)))
theorem Zeh {S:Addr} {o:Obj} {es:Array (Int × Value)} {ep:Nat} {t:SetTable} {sl i:Nat} {Q:Option (Value × Nat) -> Shared -> Prop} (hT:w.params.followText "set-order" = false) (hp:(!t.plain && decide (es.size > 1)) = false) (hl:t.led = true) (ho:s.heap.get? S = some o) (hd:o.data = .set es ep t) (hf:t.fits es.size = true)
  (h:Q (match es[SetTable.below t.place sl]?,t.place[SetTable.below t.place sl]? with | some (_,x),some j=>some (x,j + 1) | _,_=>none) s):wpAny (model prog w) A (setNext S sl i ep) Q E s:=by
 unfold setNext
 refine wpAny_bind (wpAny_setState_of ho hd hf ?_)
 dsimp only
 refine wpAny_bind (byText ?_)
 rw [hT,if_neg (by decide)]
 change wpAny _ _ (if (!t.plain && decide (es.size > 1)) = true then _ else _) _ _ _
 rw [hp,if_neg (by decide)]
 refine wpAny_bind ?_
 change wpAny _ _ (if (!t.led && !es.isEmpty) = true then _ else _) _ _ _
 rw [hl,if_neg (by simp)]
 exact wpAny_pure (wpAny_pure h)
set_option maxHeartbeats 1000000 in
theorem Zja {I S T:Addr} {es:Array (Int × Value)} {ep:Nat} {t:SetTable} {ys:List Value} {i:Nat} {Q:Option Value -> Shared -> Prop} (x:SIt w s.heap I S T es ep t ys i) (hy:ys.length = es.size) (hi:i < ys.length)
  (q:∀ h',SIt w h' I S T es ep t ys (i + 1) -> Heap.SameBut I s.heap h' -> Q (some ys[i]) { s with heap:=h' }):wpAny (model prog w) A (pyNext (.ref I)) Q E s:=by
 have hT:=x.ty (h:=s.heap)
 obtain ⟨⟨oS,hoS,hdS⟩,hf,first,o,ho,hc,hd,hmode⟩:=id x
 have hIS:S ≠ I:=fun z=>by
  rw [z,ho] at hoS
  cases hoS
  rw [hd] at hdS
  cases hdS
 unfold pyNext; refine wpAny_bind (wpAny_attempt (wpAny_callSpecial?_slot (name:=Str.ofString "__next__") hT Zad (wpAny_call_entry Zad hT ZbU ?_ (Zcd _))))
 unfold Builtin.«set_iterator.__next__»
 refine wpAny_bind (wpAny_pure (wpAny_bind (wpAny_fieldsOf ho hd ?_)))
 dsimp only
 refine wpAny_bind (Zew hoS hdS hf ?_)
 rw [if_neg (by simp)]
 have key:∀ nx:Nat,(∀ h',(∃ o',h'.get? I = some o' /\ o'.cls = .type "set_iterator" /\ o'.data = .fields #[Value.int nx 0,.int (i + 1:Nat) 0,.ref S,.int es.size 0,.int ep 0]) -> Heap.SameBut I s.heap h' -> SIt w h' I S T es ep t ys (i + 1)) ->
   wpAny (model prog w) A.in1 (do
     setField (Value.ref I) 0 (rawInt nx)
     setField (Value.ref I) 1 (rawInt ((i:Int) + 1))
     ret ys[i]) (fun fin s'=>∃ v,fin = Fin.done (Flow.ret v) /\ wpAny (model prog w) A (pure (some v)) Q E s')
    (fun e s'=>wpAny (model prog w) A (do
     let __do_lift <- isInstance e (Value.type "StopIteration")
     if __do_lift = true then pure none else throw e) Q E s') s:=fun nx hS=>by
  refine wpAny_bind (fld ho hd (by simp) hc fun h1 o1 ho1 hc1 hd1 sb1=>wpAny_bind (fld (s:={ s with heap:=h1 }) ho1 hd1 (by simp) hc1 fun h2 o2 ho2 hc2 hd2 sb2=>wpAny_pure ⟨_,rfl,wpAny_pure (q h2 (hS h2 ⟨o2,ho2,hc2,?_⟩ (sb1.trans sb2)) (sb1.trans sb2))⟩))
  rw [hd2]
  rfl
 have hSk:∀ h',Heap.SameBut I s.heap h' -> ∃ o,h'.get? S = some o /\ o.data = .set es ep t:=fun h' sb=>⟨oS,(sb.2 S hIS).trans hoS,hdS⟩
 have hplace:t.place.size = es.size:=by
  unfold SetTable.fits at hf
  rw [Bool.and_eq_true] at hf
  exact eq_of_beq hf.1
 rcases hmode with ⟨sl,rfl,hT1,e⟩ | ⟨sl,rfl,hT1,hpl,hld,hbl,hr,e⟩ | ⟨places,n,oT,rfl,hoT,hdT,hpn,hpv⟩
 ·dsimp only
  rw [Int.toNat_natCast,Int.toNat_natCast,Int.toNat_natCast]
  refine wpAny_bind (ZdZ hT1 hoS hdS hf ?_)
  have hpi:((pickOrder (w.params.setOrder S ep) es)[i]?).map (fun e=>(e.2,sl)) = some (ys[i],sl):=by
   have h1:((pickOrder (w.params.setOrder S ep) es).toList.map (·.2))[i]? = some ys[i]:=by rw [<- e]; exact List.getElem?_eq_getElem hi
   rw [List.getElem?_map,Array.getElem?_toList] at h1
   obtain ⟨x,hx,hx2⟩:=Option.map_eq_some_iff.mp h1
   rw [hx]
   show some (x.2,sl) = _
   rw [hx2]
  rw [hpi]
  dsimp only
  exact key sl fun h' ⟨o',a1,a2,a3⟩ sb=>⟨hSk h' sb,hf,_,o',a1,a2,a3,.inl ⟨sl,rfl,hT1,e⟩⟩
 ·dsimp only
  rw [Int.toNat_natCast,Int.toNat_natCast,Int.toNat_natCast]
  refine wpAny_bind (Zeh hT1 hpl hld hoS hdS hf ?_)
  have hie:i < es.size:=by lia
  rw [hbl,Array.getElem?_eq_getElem hie,Array.getElem?_eq_getElem (show i < t.place.size by lia)]
  have hyi:ys[i] = es[i].2:=by
   have h1:ys[i]? = some es[i].2:=by rw [e,List.getElem?_map,Array.getElem?_toList,Array.getElem?_eq_getElem hie]; rfl
   rw [List.getElem?_eq_getElem hi] at h1
   exact Option.some.inj h1
  dsimp only
  rw [<- hyi]
  exact key (t.place[i] + 1) fun h' ⟨o',a1,a2,a3⟩ sb=>⟨hSk h' sb,hf,_,o',a1,a2,a3,.inr (.inl ⟨_,rfl,hT1,hpl,hld,ZfG hr _,hr,e⟩)⟩
 ·dsimp only
  refine wpAny_bind (wpAny_seqItems hoT hdT ?_)
  dsimp only
  rw [Int.toNat_natCast,Int.toNat_natCast]
  have hpi:i < places.size:=by rw [<- Array.length_toList]; lia
  obtain ⟨j,tk,hv,hj,hjs⟩:=hpv i _ (Array.getElem?_eq_getElem hpi)
  rw [Array.getElem?_eq_getElem hpi,hv]
  dsimp only
  rw [Int.toNat_natCast]
  rw [List.getElem?_eq_getElem hi,Array.getElem?_eq_getElem hjs] at hj
  have hyi:es[j].2 = ys[i]:=Option.some.inj hj
  unfold setNextDrawn
  refine wpAny_bind (wpAny_bind (wpAny_setState_of hoS hdS hf ?_))
  dsimp only
  rw [if_neg (by simp),Array.getElem?_eq_getElem hjs]
  refine wpAny_pure ?_
  rw [show (es.toList.get ⟨j,hjs⟩).snd = ys[i] from hyi]
  have hTI:T ≠ I:=fun z=>by
   rw [z,ho] at hoT
   cases hoT
   rw [hd] at hdT
   cases hdT
  refine wpAny_bind (fld ho hd (by simp) hc fun h2 o2 ho2 hc2 hd2 sb2=>wpAny_pure ⟨_,rfl,wpAny_pure (q h2 ⟨hSk h2 sb2,hf,_,o2,ho2,hc2,?_,.inr (.inr ⟨places,n,oT,rfl,(sb2.2 T hTI).trans hoT,hdT,hpn,hpv⟩)⟩ sb2)⟩)
  rw [hd2]
  rfl
theorem ZeN {I:Addr} {o:Obj} {fs:Array Value} {Q:Option Value -> Shared -> Prop} (hh:A.handled = none) (ho:s.heap.get? I = some o) (hd:o.data = .fields fs) (hk:2 < fs.size) (hc:o.cls = .type "set_iterator") (q:∀ h',Heap.ExtBut I s.heap h' -> Q none { s with heap:=h' }) :
  wpAny (model prog w) A.in1 (do
    setField (Value.ref I) 2 Value.none
    let __do_lift <- newExc (Value.type "StopIteration") []
    raiseNew __do_lift) (fun fin s'=>∃ v,fin = Fin.done (Flow.ret v) /\ wpAny (model prog w) A (pure (some v)) Q E s')
   (fun e s'=>wpAny (model prog w) A (do
    let __do_lift <- isInstance e (Value.type "StopIteration")
    if __do_lift = true then pure none else throw e) Q E s') s:=by
 refine wpAny_bind (fld ho hd hk hc fun h1 o1 ho1 hc1 hd1 sb1=>?_)
 refine wpAny_bind ?_; simp only [newExc,newTuple]
 refine wpAny_bind (wpAny_newObj_type (wpAny_bind (m:=firstArgMember _ _) (wpAny_of_eq (a:=Value.none) (by first | rfl | (simp only [firstArgMember]; rfl)) (wpAny_newObj_type ?_ (by size_fits)))) (by size_fits))
 simp only [raiseNew]; refine wpAny_bind (wpAny_handled ?_)
 rw [show A.in1.handled = none from hh]; refine wpAny_bind (wpAny_pure (wpAny_throw ?_))
 refine wpAny_bind (wpAny_isInstance (T := "StopIteration") (b:=true) (v:=.ref _) (by exact ⟨_,Heap.get?_push_size _ rfl,rfl⟩) isSubtype_stop ?_)
 exact wpAny_pure (q _ ((sb1.extBut.push _).push _))
set_option maxHeartbeats 1000000 in
theorem Zkm {I S T:Addr} {es:Array (Int × Value)} {ep:Nat} {t:SetTable} {ys:List Value} {Q:Option Value -> Shared -> Prop} (hh:A.handled = none) (x:SIt w s.heap I S T es ep t ys ys.length) (hy:ys.length = es.size)
  (q:∀ h',Heap.ExtBut I s.heap h' -> Q none { s with heap:=h' }):wpAny (model prog w) A (pyNext (.ref I)) Q E s:=by
 have hT:=x.ty (h:=s.heap)
 obtain ⟨⟨oS,hoS,hdS⟩,hf,first,o,ho,hc,hd,hmode⟩:=id x
 unfold pyNext; refine wpAny_bind (wpAny_attempt (wpAny_callSpecial?_slot (name:=Str.ofString "__next__") hT Zad (wpAny_call_entry Zad hT ZbU ?_ (Zcd _))))
 unfold Builtin.«set_iterator.__next__»
 refine wpAny_bind (wpAny_pure (wpAny_bind (wpAny_fieldsOf ho hd ?_)))
 dsimp only
 refine wpAny_bind (Zew hoS hdS hf ?_)
 rw [if_neg (by simp)]
 rcases hmode with ⟨sl,rfl,hT1,e⟩ | ⟨sl,rfl,hT1,hpl,hld,hbl,hr,e⟩ | ⟨places,n,oT,rfl,hoT,hdT,hpn,hpv⟩
 ·dsimp only
  rw [Int.toNat_natCast,Int.toNat_natCast,Int.toNat_natCast]
  refine wpAny_bind (ZdZ hT1 hoS hdS hf ?_)
  have hpi:(pickOrder (w.params.setOrder S ep) es)[ys.length]? = none:=by
   have h1:ys.length = (pickOrder (w.params.setOrder S ep) es).size:=by
    rw [e,List.length_map,Array.length_toList]
   exact Array.getElem?_eq_none (Nat.le_of_eq h1.symm)
  rw [hpi]
  exact ZeN hh ho hd (by simp) hc q
 ·dsimp only
  rw [Int.toNat_natCast,Int.toNat_natCast,Int.toNat_natCast]
  refine wpAny_bind (Zeh hT1 hpl hld hoS hdS hf ?_)
  rw [hbl,Array.getElem?_eq_none (show es.size <= ys.length by lia)]
  exact ZeN hh ho hd (by simp) hc q
 ·dsimp only
  refine wpAny_bind (wpAny_seqItems hoT hdT ?_)
  dsimp only
  rw [Int.toNat_natCast]
  have hpi:places.size <= ys.length:=by rw [<- Array.length_toList]; lia
  rw [Array.getElem?_eq_none hpi]
  dsimp only
  refine wpAny_bind (fld ho hd (by simp) hc fun h1 o1 ho1 hc1 hd1 sb1=>ZeN (s:={ s with heap:=h1 }) hh ho1 hd1 (by simp) hc1 fun h' eb=>q h' fun b o2 hb e2=>eb b o2 hb ((sb1.2 b hb).trans e2))
theorem ZiD {I S T:Addr} {es:Array (Int × Value)} {ep:Nat} {t:SetTable} {ys:List Value} (hh:A.handled = none) (hIS:S ≠ I) (hTI:T ≠ I) (hy:ys.length = es.size):Walks prog w A I [I,S,T] [I] ys.length (fun i v=>ys[i]? = some v) (fun i h=>SIt w h I S T es ep t ys i) where
 sub:=fun b hb=>List.mem_cons.mpr (.inl (List.mem_singleton.mp hb))
 frame:=fun i h h' x hk=>by
  obtain ⟨⟨oS,hoS,hdS⟩,hf,first,o,ho,hc,hd,hmode⟩:=x
  refine ⟨⟨oS,hk S (by simp) oS hoS,hdS⟩,hf,first,o,hk I (by simp) o ho,hc,hd,?_⟩
  rcases hmode with h1 | h1 | ⟨places,n,oT,e,hoT,r⟩
  ·exact .inl h1
  ·exact .inr (.inl h1)
  ·exact .inr (.inr ⟨places,n,oT,e,hk T (by simp) oT hoT,r⟩)
 item:=fun i s Q E hi x hQ=>Zja x hy hi fun h' x' sb=>hQ _ h' s.toks (List.getElem?_eq_getElem hi) x' fun b o hb e=>(sb.2 b (fun z=>hb (List.mem_singleton.mpr z))).trans e
 done:=fun s Q E x hQ=>Zkm hh x hy fun h' eb=>hQ h' s.toks fun b o hb e=>eb b o (fun z=>hb (List.mem_singleton.mpr z)) e
 self:=fun i s Q E x hQ=>by
  have hT:=x.ty (h:=s.heap)
  refine wpAny_pyIter_slot hT Zcg (wpAny_call_entry Zcg hT Zdu ?_ (Zeg _))
  change wpAny _ _ (ret (.ref I)) _ _ s
  exact wpAny_pure ⟨_,rfl,"set_iterator",_,hT,Zad.lookup,hQ⟩
end
end Sts
namespace Sts
open PySem PyProof.Rows
section
variable {prog:Program} {w:World} {K:Type} [DecidableEq K] {knd:KeyKind prog w K} {A:Around} {E:Value -> Shared -> Prop} {s:Shared}
theorem Zjc {S:Addr} {o:Obj} {es:Array (Int × Value)} {ep:Nat} {t:SetTable} {Q:Bool -> Shared -> Prop} (ho:s.heap.get? S = some o) (hd:o.data = .set es ep t) (hf:t.fits es.size = true) (h:Q (!w.params.followText "set-order" && (!t.plain && decide (es.size > 1))) s):wpAny (model prog w) A (setDrawn S) Q E s:=by
 unfold setDrawn
 refine wpAny_bind (wpAny_setState_of ho hd hf ?_)
 dsimp only
 exact wpAny_bind (byText (wpAny_pure h))
end
end Sts
namespace Sts
open PySem PyProof.Rows PySem.W
section
variable {prog:Program} {w:World} {K:Type} [DecidableEq K] {knd:KeyKind prog w K} {A:Around} {E:Value -> Shared -> Prop} {s:Shared}
theorem ZiE {r:Addr} {Q:Bool -> Shared -> Prop} (hT:s.TypeIs (.ref r) "set") (h:Q false s):wpAny (model prog w) A (Builtin.List.listLengthHint (.ref r)) Q E s:=by
 unfold Builtin.List.listLengthHint
 refine wpAny_bind (wpAny_specialOf hT PySem.F.slot_set_len.lookup ?_)
 generalize hid:("set.__len__" : String) = id0
 wp_delta
 rw [show splitId id0 = some ("set","__len__") from by subst hid; decide +kernel]
 subst hid
 refine wpAny_bind (wpAny_isInstance (T := "set") (b:=true) hT (by rw [isSubtype_type]; kernel_rfl) (wpAny_ite_split (fun hab=>absurd hab (by decide)) (fun _=>wpAny_ite_split (fun _=>?_) (fun hab=>absurd (by decide +kernel) hab))))
 exact wpAny_bind (wpAny_typeOf hT (wpAny_pure h))
end
end Sts
namespace Srt
open PySem PyProof.Rows PySem.W
section
variable {prog:Program} {w:World} {A:Around} {s:Shared}
end
end Srt
namespace Sts
open PySem PyProof.Rows PySem.W Srt
section
variable {prog:Program} {w:World} {K:Type} [DecidableEq K] {knd:KeyKind prog w K} {A:Around} {E:Value -> Shared -> Prop} {s:Shared}
end
end Sts
namespace L2
open PySem PySem.Spec PyProof.Rows PySem.W
section
variable {X:Cx} {e:Expr} {te:TE} {p p' pos pos':Pos}
theorem Inv.draws {pins:List (Addr × Obj)} {σ : St} {H:Hp} {s:Shared} {d:Drawn} (I:Inv X pins σ H s):Inv X pins σ H { s with drawn:=d } :=
 I.step (g':=s.gens) (d':=d) (t':=s.toks) (ch:=[]) (fun _ z=>nomatch z) (fun _ _ _ _ _ e _=>e) (fun _ o _ _ _ e _=>⟨o.slots,e⟩) (fun _ _ _ _ n=>n) (fun _ o _ e=>⟨o,e⟩) (fun _ _ h=>h) (fun _ _ _ h=>h) (fun _ ps h=>⟨#[],by simpa using h⟩) (fun _ h=>h) I.hok I.bare
theorem Zj6:bootBuiltins "set" = some (.type "set"):=by decide +kernel
theorem ZfE:bootBuiltins "sorted" = some (.builtin "sorted"):=by decide +kernel
theorem Ze3 {ns:List Int}:∀ zs:List V,(∀ z ∈ zs,z ∈ ns.map V.int) -> ∃ ms:List Int,zs = ms.map V.int /\ ∀ m ∈ ms,m ∈ ns
 | [],_=>⟨[],rfl,fun _ h=>nomatch h⟩
 | z :: zs,h=>by
  obtain ⟨m,hm,rfl⟩:=List.mem_map.mp (h z (List.mem_cons_self ..))
  obtain ⟨ms,rfl,hms⟩:=Ze3 zs fun x hx=>h x (List.mem_cons_of_mem _ hx)
  refine ⟨m :: ms,rfl,fun x hx=>?_⟩
  rcases List.mem_cons.mp hx with rfl | hx
  ·exact hm
  ·exact hms x hx
end
end L2
namespace Srd
open PySem PyProof.Rows Srt
structure Swo (lt:Keyed -> Keyed -> Bool):Prop where
 asym:∀ x y,lt x y = true -> lt y x = false
 neg:∀ x y z,lt x y = false -> lt y z = false -> lt x z = false
def Le (lt:Keyed -> Keyed -> Bool) (x y:Keyed):Prop:=lt y x = false
section
variable {lt:Keyed -> Keyed -> Bool} (o:Swo lt) {x y z:Keyed}
include o
theorem Swo.le_trans (h1:Le lt x y) (h2:Le lt y z):Le lt x z:=o.neg z y x h2 h1
theorem Swo.le_of (h:lt x y = true):Le lt x y:=o.asym x y h
theorem Swo.lt_le (h1:lt x y = true) (h2:Le lt y z):lt x z = true:=by
 cases h:lt x z with
 | true=>rfl
 | false=>rw [o.neg x z y h h2] at h1; cases h1
theorem Swo.le_lt (h1:Le lt x y) (h2:lt y z = true):lt x z = true:=by
 cases h:lt x z with
 | true=>rfl
 | false=>rw [o.neg y x z h1 h] at h2; cases h2
theorem Swo.le_refl (x:Keyed):Le lt x x:=by
 show lt x x = false
 cases h:lt x x with
 | false=>rfl
 | true=>have:=o.asym x x h; rw [h] at this; exact this
end
def ZfV (prog:Program) (w:World) (A:Around) (s:Shared) (κ : SortKind) (Ok:Keyed -> Prop) (lt:Keyed -> Keyed -> Bool):Prop :=
 ∀ x y,Ok x -> Ok y -> ∀ E:Value -> Shared -> Prop,wpAny (model prog w) A (keyLt' κ x.1 y.1) (fun b s'=>s' = s /\ b = lt x y) E s
def Up (lt:Keyed -> Keyed -> Bool) (arr:Array Keyed) (i j:Nat):Prop := ∀ x y p q,i <= x -> x < y -> y < j -> arr[x]? = some p -> arr[y]? = some q -> Le lt p q
def bv (lt:Keyed -> Keyed -> Bool) (l:Bool) (key p:Keyed):Bool:=if l = true then lt p key else !lt key p
def BV (lt:Keyed -> Keyed -> Bool) (l:Bool) (key:Keyed) (a:Array Keyed) (base i:Nat):Bool:=match a[base + i]? with | some p=>bv lt l key p | none=>false
theorem BV.anti {lt:Keyed -> Keyed -> Bool} (o:Swo lt) {l:Bool} {key:Keyed} {a:Array Keyed} {base n:Nat} (hb:base + n <= a.size) (hu:Up lt a base (base + n)) {i j:Nat} (hij:i <= j) (hj:j < n) (h:BV lt l key a base j = true):BV lt l key a base i = true:=by
 rcases Nat.eq_or_lt_of_le hij with rfl | hlt
 ·exact h
 have ei:a[base + i]? = some a[base + i]:=getElem?_pos a _ (by lia)
 have ej:a[base + j]? = some a[base + j]:=getElem?_pos a _ (by lia)
 have hle:=hu (base + i) (base + j) _ _ (by lia) (by lia) (by lia) ei ej
 unfold BV at h ⊢
 rw [ej] at h
 rw [ei]
 dsimp only at h ⊢
 unfold bv at h ⊢
 cases l with
 | true =>
  rw [if_pos rfl] at h ⊢
  exact o.le_lt hle h
 | false =>
  rw [if_neg (by decide)] at h ⊢
  have h1:lt key a[base + j] = false:=by simpa using h
  have:lt key a[base + i] = false:=o.le_trans (lt:=lt) hle h1
  rw [this]
  rfl
section
variable {prog:Program} {w:World} {A:Around} {E:Value -> Shared -> Prop} {s:Shared} {κ : SortKind} {Ok:Keyed -> Prop} {st:SortSt} {lt:Keyed -> Keyed -> Bool}
theorem ZcE {x y:Keyed} {Q:Option Bool -> SortSt -> Prop} (hc:ZfV prog w A s κ Ok lt) (hk:kindOf st = κ) (hx:Ok x) (hy:Ok y) (h:Q (some (lt x y)) st):wpS (model prog w) A E s (lt' x y) Q st:=by
 rw [lt'_eq]
 refine wpS_bind (wpS_get ?_)
 rw [hk]
 refine wpS_bind (wpS_lift (wpAny_attempt (wpAny_mono (hc x y hx hy _) (fun b s' e=>⟨e.1,?_⟩) fun _ _ z=>z)))
 rw [e.2]
 exact wpS_pure h
theorem Zlw {l:Bool} {key:Keyed} {a:Array Keyed} {base n i:Nat} {Q:Option Bool -> SortSt -> Prop} (hc:ZfV prog w A s κ Ok lt) (hk:kindOf st = κ) (hkey:Ok key) (ha:∀ p ∈ a.toList,Ok p) (hb:base + n <= a.size) (hi:i < n) (h:Q (some (BV lt l key a base i)) st) :
  wpS (model prog w) A E s (elem' a (base + i) >>= fun x=>if l = true then lt' x key else (lt' key x >>= fun r=>pure (Option.map (fun z=>!z) r))) Q st:=by
 refine wpS_bind (Zu (by lia) fun p hp e=>?_)
 unfold BV at h
 rw [e] at h
 dsimp only at h
 unfold bv at h
 cases l with
 | true =>
  rw [if_pos rfl] at h ⊢
  exact ZcE hc hk (ha p hp) hkey h
 | false =>
  rw [if_neg Bool.false_ne_true] at h ⊢
  exact wpS_bind (ZcE hc hk hkey (ha p hp) (wpS_pure h))
set_option maxHeartbeats 1000000 in
theorem Zaa {l:Bool} {key:Keyed} {a:Array Keyed} {base n hint:Nat} {Q:Option Nat -> SortSt -> Prop} (o:Swo lt) (hc:ZfV prog w A s κ Ok lt) (hk:kindOf st = κ) (hkey:Ok key) (ha:∀ p ∈ a.toList,Ok p) (hb:base + n <= a.size) (hh:hint < n) (hu:Up lt a base (base + n))
  (h:∀ k,k <= n -> (∀ i,i < k -> BV lt l key a base i = true) -> (∀ i,k <= i -> i < n -> BV lt l key a base i = false) -> Q (some k) st):wpS (model prog w) A E s (ZeE l key a base n hint) Q st:=by
 have up:∀ {i j},i <= j -> j < n -> BV lt l key a base j = true -> BV lt l key a base i = true:=fun hij hj h=>BV.anti o hb hu hij hj h
 have dn:∀ {i j},i <= j -> j < n -> BV lt l key a base i = false -> BV lt l key a base j = false:=fun {i j} hij hj h=>by
  cases e:BV lt l key a base j with
  | false=>rfl
  | true=>rw [up hij hj e] at h; cases h
 generalize hBB:BV lt l key a base = BB at up dn h
 have bey:∀ {st':SortSt} {i:Nat} {Q':Option Bool -> SortSt -> Prop},st' = st -> i < n -> Q' (some (BB i)) st' -> wpS (model prog w) A E s (elem' a (base + i) >>= fun x=>if l = true then lt' x key else (lt' key x >>= fun r=>pure (Option.map (fun z=>!z) r))) Q' st':=fun {st' i Q'} e hi hq=>by
  subst e
  exact Zlw hc hk hkey ha hb hi (by rw [hBB]; exact hq)
 refine wpS_bind (bey rfl hh ?_)
 cases hright:BB hint with
 | true =>
  dsimp only
  rw [if_pos rfl]
  refine wpS_bind (wpS_mono (wpS_forRange (I:=fun x c st'=>st' = st /\ ∃ lo of,c = (none,lo,of) /\ lo < n - hint /\ lo < of /\ BB (hint + lo) = true /\ x + 1 <= of) (Q:=fun c st'=>st' = st /\ ∃ lo of,c = (none,lo,of) /\ lo < n - hint /\ lo < of /\ BB (hint + lo) = true /\ (n - hint <= of \/ BB (hint + of) = false)) ?_ ?_ ⟨rfl,0,1,rfl,by lia,by lia,hright,by lia⟩) ?_)
  ·rintro i c st' _ _ ⟨rfl,lo,of,rfl,h1,h2,h3,h4⟩
   dsimp only
   by_cases hlt:of >= n - hint
   ·rw [if_pos hlt]
    exact wpS_pure ⟨rfl,lo,of,rfl,h1,h2,h3,.inl hlt⟩
   ·rw [if_neg hlt]
    refine wpS_bind (bey rfl (by lia) ?_)
    cases hb2:BB (hint + of) with
    | true=>exact wpS_pure ⟨rfl,_,_,rfl,by lia,by lia,hb2,by lia⟩
    | false=>exact wpS_pure ⟨rfl,lo,of,rfl,h1,h2,h3,.inr hb2⟩
  ·rintro c st' ⟨rfl,lo,of,rfl,h1,h2,h3,h4⟩
   exact ⟨rfl,lo,of,rfl,h1,h2,h3,.inl (by lia)⟩
  ·rintro c st'' ⟨rfl,lo,of,rfl,h1,h2,h3,h4⟩
   dsimp only
   have g1:hint + lo + 1 <= hint + min of (n - hint):=by lia
   have g2:hint + min of (n - hint) <= n:=by lia
   have g3:∀ i,i < hint + lo + 1 -> BB i = true:=fun i hi=>up (show i <= hint + lo by lia) (by lia) h3
   have g4:∀ i,hint + min of (n - hint) <= i -> i < n -> BB i = false:=fun i hi hin=>by
    rcases h4 with h4 | h4
    ·lia
    ·exact dn (show hint + of <= i by lia) hin h4
   generalize hint + lo + 1 = lo1 at g1 g3
   generalize hint + min of (n - hint) = hi1 at g1 g2 g4
   refine wpS_bind (wpS_mono (wpS_forRange (I:=fun x c st'=>st' = st'' /\ ∃ lo hi,c = (none,lo,hi) /\ lo <= hi /\ hi <= n /\ (∀ i,i < lo -> BB i = true) /\ (∀ i,hi <= i -> i < n -> BB i = false) /\ hi - lo + x <= n) (Q:=fun c st'=>st' = st'' /\ ∃ lo hi,c = (none,lo,hi) /\ lo = hi /\ hi <= n /\ (∀ i,i < lo -> BB i = true) /\ (∀ i,hi <= i -> i < n -> BB i = false)) ?_ ?_ ⟨rfl,lo1,hi1,rfl,g1,g2,g3,g4,by lia⟩) ?_)
   ·rintro i c st' _ _ ⟨rfl,lo,hi,rfl,h1,h2,h3,h4,h5⟩
    dsimp only
    by_cases hlt:lo >= hi
    ·rw [if_pos hlt]
     exact wpS_pure ⟨rfl,lo,hi,rfl,by lia,h2,h3,h4⟩
    ·rw [if_neg hlt]
     refine wpS_bind (bey rfl (by lia) ?_)
     cases hb2:BB (lo + (hi - lo) / 2) with
     | true=>exact wpS_pure ⟨rfl,_,_,rfl,by lia,by lia,fun i hi'=>up (show i <= lo + (hi - lo) / 2 by lia) (by lia) hb2,h4,by lia⟩
     | false=>exact wpS_pure ⟨rfl,_,_,rfl,by lia,by lia,h3,fun i hi' hin=>dn hi' hin hb2,by lia⟩
   ·rintro c st' ⟨rfl,lo,hi,rfl,h1,h2,h3,h4,h5⟩
    exact ⟨rfl,lo,hi,rfl,by lia,h2,h3,h4⟩
   ·rintro c st' ⟨rfl,lo,hi,rfl,h1,h2,h3,h4⟩
    exact wpS_pure (h hi h2 (fun i hi'=>h3 i (by lia)) h4)
 | false =>
  dsimp only
  rw [if_neg Bool.false_ne_true]
  refine wpS_bind (wpS_mono (wpS_forRange (I:=fun x c st'=>st' = st /\ ∃ lo of,c = (none,lo,of) /\ lo < hint + 1 /\ lo < of /\ BB (hint - lo) = false /\ x + 1 <= of) (Q:=fun c st'=>st' = st /\ ∃ lo of,c = (none,lo,of) /\ lo < hint + 1 /\ lo < of /\ BB (hint - lo) = false /\ (hint + 1 <= of \/ BB (hint - of) = true)) ?_ ?_ ⟨rfl,0,1,rfl,by lia,by lia,hright,by lia⟩) ?_)
  ·rintro i c st' _ _ ⟨rfl,lo,of,rfl,h1,h2,h3,h4⟩
   dsimp only
   by_cases hlt:of >= hint + 1
   ·rw [if_pos hlt]
    exact wpS_pure ⟨rfl,lo,of,rfl,h1,h2,h3,.inl hlt⟩
   ·rw [if_neg hlt]
    refine wpS_bind (bey rfl (by lia) ?_)
    cases hb2:BB (hint - of) with
    | true=>exact wpS_pure ⟨rfl,lo,of,rfl,h1,h2,h3,.inr hb2⟩
    | false=>exact wpS_pure ⟨rfl,_,_,rfl,by lia,by lia,hb2,by lia⟩
  ·rintro c st' ⟨rfl,lo,of,rfl,h1,h2,h3,h4⟩
   exact ⟨rfl,lo,of,rfl,h1,h2,h3,.inl (by lia)⟩
  ·rintro c st'' ⟨rfl,lo,of,rfl,h1,h2,h3,h4⟩
   dsimp only
   have g1:hint + 1 - min of (hint + 1) <= hint - lo:=by lia
   have g2:hint - lo <= n:=by lia
   have g3:∀ i,i < hint + 1 - min of (hint + 1) -> BB i = true:=fun i hi=>by
    rcases h4 with h4 | h4
    ·lia
    ·exact up (show i <= hint - of by lia) (by lia) h4
   have g4:∀ i,hint - lo <= i -> i < n -> BB i = false:=fun i hi hin=>dn hi hin h3
   generalize hint + 1 - min of (hint + 1) = lo1 at g1 g3
   generalize hint - lo = hi1 at g1 g2 g4
   refine wpS_bind (wpS_mono (wpS_forRange (I:=fun x c st'=>st' = st'' /\ ∃ lo hi,c = (none,lo,hi) /\ lo <= hi /\ hi <= n /\ (∀ i,i < lo -> BB i = true) /\ (∀ i,hi <= i -> i < n -> BB i = false) /\ hi - lo + x <= n) (Q:=fun c st'=>st' = st'' /\ ∃ lo hi,c = (none,lo,hi) /\ lo = hi /\ hi <= n /\ (∀ i,i < lo -> BB i = true) /\ (∀ i,hi <= i -> i < n -> BB i = false)) ?_ ?_ ⟨rfl,lo1,hi1,rfl,g1,g2,g3,g4,by lia⟩) ?_)
   ·rintro i c st' _ _ ⟨rfl,lo,hi,rfl,h1,h2,h3,h4,h5⟩
    dsimp only
    by_cases hlt:lo >= hi
    ·rw [if_pos hlt]
     exact wpS_pure ⟨rfl,lo,hi,rfl,by lia,h2,h3,h4⟩
    ·rw [if_neg hlt]
     refine wpS_bind (bey rfl (by lia) ?_)
     cases hb2:BB (lo + (hi - lo) / 2) with
     | true=>exact wpS_pure ⟨rfl,_,_,rfl,by lia,by lia,fun i hi'=>up (show i <= lo + (hi - lo) / 2 by lia) (by lia) hb2,h4,by lia⟩
     | false=>exact wpS_pure ⟨rfl,_,_,rfl,by lia,by lia,h3,fun i hi' hin=>dn hi' hin hb2,by lia⟩
   ·rintro c st' ⟨rfl,lo,hi,rfl,h1,h2,h3,h4,h5⟩
    exact ⟨rfl,lo,hi,rfl,by lia,h2,h3,h4⟩
   ·rintro c st' ⟨rfl,lo,hi,rfl,h1,h2,h3,h4⟩
    exact wpS_pure (h hi h2 (fun i hi'=>h3 i (by lia)) h4)
end
end Srd
namespace Srd
open PySem PyProof.Rows Srt
section
variable {lt:Keyed -> Keyed -> Bool} {a b out:Array Keyed} {ia ib k:Nat} {p q:Keyed}
abbrev So (lt:Keyed -> Keyed -> Bool) (l:List Keyed):Prop:=l.Pairwise (Le lt)
theorem Zh5 (h:a[ia]? = some p):a.toList[ia]? = some p:=by rw [<- h]; simp
theorem ZZ {i:Nat} {x y:Keyed} (h1:a[i]? = some x) (h2:a[i]? = some y):x = y:=by
 rw [h1] at h2
 exact Option.some.inj h2
theorem ZbK (h:a[ia]? = some p):a.toList.drop ia = p :: a.toList.drop (ia + 1):=by
 obtain ⟨hi,e⟩:=List.getElem?_eq_some_iff.mp (Zh5 h)
 rw [List.drop_eq_getElem_cons hi,e]
theorem So.drop {l:List Keyed} (h:So lt l) (n:Nat):So lt (l.drop n):=List.Pairwise.sublist (List.drop_sublist n l) h
theorem So.head (h:So lt a.toList) (hp:a[ia]? = some p):∀ y ∈ a.toList.drop (ia + 1),Le lt p y:=by
 have:=h.drop ia
 rw [ZbK hp] at this
 exact (List.pairwise_cons.mp this).1
theorem Zej (o:Swo lt) (h:So lt a.toList) (hp:a[ia]? = some p) {x:Keyed} (hx:Le lt x p):∀ y ∈ a.toList.drop ia,Le lt x y:=fun y hy=>by
 rw [ZbK hp] at hy
 rcases List.mem_cons.mp hy with rfl | hy
 ·exact hx
 ·exact o.le_trans hx (h.head hp y hy)
theorem Zey (h:So lt a.toList) (i j:Nat):Up lt a i j:=fun x y p q _ hxy _ ex ey=>by
 obtain ⟨hx,rfl⟩:=List.getElem?_eq_some_iff.mp (Zh5 ex)
 obtain ⟨hy,rfl⟩:=List.getElem?_eq_some_iff.mp (Zh5 ey)
 exact (List.pairwise_iff_getElem.mp h) x y hx hy hxy
theorem Zkc {n:Nat} (h:Up lt a 0 n) (hn:a.size <= n):So lt a.toList:=by
 refine List.pairwise_iff_getElem.mpr fun i j hi hj hij=>?_
 have hi':i < a.size:=by rw [<- Array.length_toList]; exact hi
 have hj':j < a.size:=by rw [<- Array.length_toList]; exact hj
 exact h i j _ _ (Nat.zero_le _) hij (by lia) (by rw [<- Array.getElem?_toList]; exact List.getElem?_eq_getElem hi) (by rw [<- Array.getElem?_toList]; exact List.getElem?_eq_getElem hj)
theorem ZcP {l:List Keyed} {n:Nat} {y:Keyed} (h:y ∈ l.drop n):∃ i,l[n + i]? = some y:=by
 obtain ⟨i,hi⟩:=List.mem_iff_getElem?.mp h
 rw [List.getElem?_drop] at hi
 exact ⟨i,hi⟩
theorem Zko (F:∀ i,k <= i -> i < a.size - ia -> BV lt false p a ia i = false) (o:Swo lt):∀ y ∈ a.toList.drop (ia + k),Le lt p y:=fun y hy=>by
 obtain ⟨i,hi⟩:=ZcP hy
 obtain ⟨hl,_⟩:=List.getElem?_eq_some_iff.mp hi
 rw [Array.length_toList] at hl
 have h1:=F (k + i) (by lia) (by lia)
 unfold BV at h1
 rw [show ia + (k + i) = ia + k + i by lia,<- Array.getElem?_toList,hi] at h1
 have h2:(!lt p y) = false:=h1
 exact o.le_of (by simpa using h2)
theorem ZjG (F:∀ i,i < k -> BV lt false p a ia i = true):∀ x ∈ (a.toList.drop ia).take k,Le lt x p:=fun x hx=>by
 obtain ⟨i,hi⟩:=List.mem_iff_getElem?.mp hx
 have hik:i < k:=by
  have:=(List.getElem?_eq_some_iff.mp hi).1
  rw [List.length_take] at this
  lia
 rw [List.getElem?_take_of_lt hik,List.getElem?_drop] at hi
 have h1:=F i hik
 unfold BV at h1
 rw [<- Array.getElem?_toList,hi] at h1
 have h2:(!lt p x) = true:=h1
 show lt p x = false
 simpa using h2
theorem Zlc (F:∀ i,k <= i -> i < b.size - ib -> BV lt true q b ib i = false):∀ y ∈ b.toList.drop (ib + k),Le lt q y:=fun y hy=>by
 obtain ⟨i,hi⟩:=ZcP hy
 obtain ⟨hl,_⟩:=List.getElem?_eq_some_iff.mp hi
 rw [Array.length_toList] at hl
 have h1:=F (k + i) (by lia) (by lia)
 unfold BV at h1
 rw [show ib + (k + i) = ib + k + i by lia,<- Array.getElem?_toList,hi] at h1
 exact h1
theorem ZkW (F:∀ i,i < k -> BV lt true q b ib i = true) (o:Swo lt):∀ x ∈ (b.toList.drop ib).take k,Le lt x q:=fun x hx=>by
 obtain ⟨i,hi⟩:=List.mem_iff_getElem?.mp hx
 have hik:i < k:=by
  have:=(List.getElem?_eq_some_iff.mp hi).1
  rw [List.length_take] at this
  lia
 rw [List.getElem?_take_of_lt hik,List.getElem?_drop] at hi
 have h1:=F i hik
 unfold BV at h1
 rw [<- Array.getElem?_toList,hi] at h1
 exact o.le_of h1
structure OutL (lt:Keyed -> Keyed -> Bool) (a b out:Array Keyed) (ia ib:Nat):Prop where
 perm:Out a b out ia ib
 sort:So lt out.toList
 lowA:∀ x ∈ out.toList,∀ y ∈ a.toList.drop ia,Le lt x y
 lowB:∀ x ∈ out.toList,∀ y ∈ b.toList.drop ib,Le lt x y
structure Rs (lt:Keyed -> Keyed -> Bool) (a b r:Array Keyed):Prop where
 perm:r.toList.Perm (a.toList ++ b.toList)
 sort:So lt r.toList
theorem mem_push {x:Keyed} (h:x ∈ (out.push p).toList):x ∈ out.toList \/ x = p:=by
 rw [Array.toList_push] at h
 rcases List.mem_append.mp h with h | h
 ·exact .inl h
 ·exact .inr (List.mem_singleton.mp h)
theorem Zgk (h:So lt out.toList) (hp:∀ x ∈ out.toList,Le lt x p):So lt (out.push p).toList:=by
 rw [Array.toList_push]
 refine List.pairwise_append.mpr ⟨h,List.pairwise_singleton _ _,fun x hx y hy=>?_⟩
 rw [List.mem_singleton.mp hy]
 exact hp x hx
theorem Zdy {l:List Keyed} {i j:Nat} (h:i <= j) {y:Keyed} (hy:y ∈ l.drop j):y ∈ l.drop i:=by
 rw [show j = i + (j - i) by lia,<- List.drop_drop] at hy
 exact List.mem_of_mem_drop hy
theorem OutL.pushA (h:OutL lt a b out ia ib) (SA:So lt a.toList) (hp:a[ia]? = some p) (hb:∀ y ∈ b.toList.drop ib,Le lt p y):OutL lt a b (out.push p) (ia + 1) ib:=by
 have hm:p ∈ a.toList.drop ia:=by rw [ZbK hp]; exact List.mem_cons_self ..
 refine ⟨h.perm.pushA hp,Zgk h.sort fun x hx=>h.lowA x hx p hm,fun x hx y hy=>?_,fun x hx y hy=>?_⟩
 ·rcases mem_push hx with hx | rfl
  ·exact h.lowA x hx y (Zdy (by lia) hy)
  ·exact SA.head hp y hy
 ·rcases mem_push hx with hx | rfl
  ·exact h.lowB x hx y hy
  ·exact hb y hy
theorem OutL.pushB (h:OutL lt a b out ia ib) (SB:So lt b.toList) (hp:b[ib]? = some p) (ha:∀ y ∈ a.toList.drop ia,Le lt p y):OutL lt a b (out.push p) ia (ib + 1):=by
 have hm:p ∈ b.toList.drop ib:=by rw [ZbK hp]; exact List.mem_cons_self ..
 refine ⟨h.perm.pushB hp,Zgk h.sort fun x hx=>h.lowB x hx p hm,fun x hx y hy=>?_,fun x hx y hy=>?_⟩
 ·rcases mem_push hx with hx | rfl
  ·exact h.lowA x hx y hy
  ·exact ha y hy
 ·rcases mem_push hx with hx | rfl
  ·exact h.lowB x hx y (Zdy (by lia) hy)
  ·exact SB.head hp y hy
theorem Zcl (a:Array Keyed) (i k:Nat):(a.extract i (i + k)).toList = (a.toList.drop i).take k:=by
 rw [Array.toList_extract,List.extract_eq_drop_take,show i + k - i = k by lia]
theorem Zb2 (a:Array Keyed) (i:Nat):(a.extract i a.size).toList = a.toList.drop i:=by
 rw [Array.toList_extract,List.extract_eq_drop_take]
 apply List.take_of_length_le
 rw [List.length_drop,Array.length_toList]
 exact Nat.le_refl _
theorem Zcb {l:List Keyed} {i k:Nat} (h:So lt l) {x y:Keyed} (hx:x ∈ (l.drop i).take k) (hy:y ∈ l.drop (i + k)):Le lt x y:=by
 have h1:=h.drop i
 rw [<- List.take_append_drop k (l.drop i),List.drop_drop] at h1
 exact (List.pairwise_append.mp h1).2.2 x hx y hy
theorem OutL.extA (h:OutL lt a b out ia ib) (SA:So lt a.toList) (hk:ia + k <= a.size) (hb:∀ x ∈ (a.toList.drop ia).take k,∀ y ∈ b.toList.drop ib,Le lt x y):OutL lt a b (out ++ a.extract ia (ia + k)) (ia + k) ib:=by
 have hm:∀ x,x ∈ (out ++ a.extract ia (ia + k)).toList -> x ∈ out.toList \/ x ∈ (a.toList.drop ia).take k:=fun x hx=>by
  rw [Array.toList_append,Zcl] at hx
  exact List.mem_append.mp hx
 refine ⟨h.perm.extA hk,?_,fun x hx y hy=>?_,fun x hx y hy=>?_⟩
 ·rw [Array.toList_append,Zcl]
  exact List.pairwise_append.mpr ⟨h.sort,List.Pairwise.sublist (List.take_sublist _ _) (SA.drop ia),fun x hx y hy=>h.lowA x hx y (List.mem_of_mem_take hy)⟩
 ·rcases hm x hx with hx | hx
  ·exact h.lowA x hx y (Zdy (by lia) hy)
  ·exact Zcb SA hx hy
 ·rcases hm x hx with hx | hx
  ·exact h.lowB x hx y hy
  ·exact hb x hx y hy
theorem OutL.extB (h:OutL lt a b out ia ib) (SB:So lt b.toList) (hk:ib + k <= b.size) (ha:∀ x ∈ (b.toList.drop ib).take k,∀ y ∈ a.toList.drop ia,Le lt x y):OutL lt a b (out ++ b.extract ib (ib + k)) ia (ib + k):=by
 have hm:∀ x,x ∈ (out ++ b.extract ib (ib + k)).toList -> x ∈ out.toList \/ x ∈ (b.toList.drop ib).take k:=fun x hx=>by
  rw [Array.toList_append,Zcl] at hx
  exact List.mem_append.mp hx
 refine ⟨h.perm.extB hk,?_,fun x hx y hy=>?_,fun x hx y hy=>?_⟩
 ·rw [Array.toList_append,Zcl]
  exact List.pairwise_append.mpr ⟨h.sort,List.Pairwise.sublist (List.take_sublist _ _) (SB.drop ib),fun x hx y hy=>h.lowB x hx y (List.mem_of_mem_take hy)⟩
 ·rcases hm x hx with hx | hx
  ·exact h.lowA x hx y hy
  ·exact ha x hx y hy
 ·rcases hm x hx with hx | hx
  ·exact h.lowB x hx y (Zdy (by lia) hy)
  ·exact Zcb SB hx hy
theorem OutL.doneB (h:OutL lt a b out ia ib) (SA:So lt a.toList) (e:(ib == b.size) = true):Rs lt a b (out ++ a.extract ia a.size ++ b.extract ib b.size):=by
 refine ⟨h.perm.done,?_⟩
 have e':b.toList.drop ib = []:=List.drop_eq_nil_of_le (by rw [Array.length_toList,eq_of_beq e]; exact Nat.le_refl _)
 rw [Array.toList_append,Array.toList_append,Zb2,Zb2,e',List.append_nil]
 exact List.pairwise_append.mpr ⟨h.sort,SA.drop ia,fun x hx y hy=>h.lowA x hx y hy⟩
theorem OutL.doneA (h:OutL lt a b out ia ib) (SB:So lt b.toList) (e:(ia == a.size) = true):Rs lt a b (out ++ a.extract ia a.size ++ b.extract ib b.size):=by
 refine ⟨h.perm.done,?_⟩
 have e':a.toList.drop ia = []:=List.drop_eq_nil_of_le (by rw [Array.length_toList,eq_of_beq e]; exact Nat.le_refl _)
 rw [Array.toList_append,Array.toList_append,Zb2,Zb2,e',List.append_nil]
 exact List.pairwise_append.mpr ⟨h.sort,SB.drop ib,fun x hx y hy=>h.lowB x hx y hy⟩
theorem OutL.lastL (h:OutL lt a b out ia ib) (SA:So lt a.toList) (SB:So lt b.toList) (LA:∀ x ∈ b.toList,∀ q,a[a.size - 1]? = some q -> Le lt x q) (e:(ia + 1 == a.size) = true):Rs lt a b (out ++ b.extract ib b.size ++ a.extract ia a.size):=by
 refine ⟨h.perm.last,?_⟩
 have e1:=eq_of_beq e
 rw [Array.toList_append,Array.toList_append,Zb2,Zb2]
 refine List.pairwise_append.mpr ⟨List.pairwise_append.mpr ⟨h.sort,SB.drop ib,fun x hx y hy=>h.lowB x hx y hy⟩,SA.drop ia,fun x hx y hy=>?_⟩
 rcases List.mem_append.mp hx with hx | hx
 ·exact h.lowA x hx y hy
 ·refine LA x (List.mem_of_mem_drop hx) y ?_
  obtain ⟨i,hi⟩:=ZcP hy
  have hl:=(List.getElem?_eq_some_iff.mp hi).1
  rw [Array.length_toList] at hl
  rw [show a.size - 1 = ia + i by lia,<- Array.getElem?_toList]
  exact hi
theorem ZkJ (SB:So lt b.toList) (hp:b[0]? = some p) (hb0:∀ p,b[0]? = some p -> ∀ y ∈ a.toList,Le lt p y):OutL lt a b #[p] 0 1:=by
 refine ⟨ZlB hp,List.pairwise_singleton _ _,fun x hx y hy=>?_,fun x hx y hy=>?_⟩
 ·obtain rfl:x = p:=by simpa using hx
  exact hb0 x hp y hy
 ·obtain rfl:x = p:=by simpa using hx
  exact SB.head hp y hy
end
end Srd
namespace Srd
open PySem PyProof.Rows Srt
section
variable {prog:Program} {w:World} {A:Around} {E:Value -> Shared -> Prop} {s:Shared} {κ : SortKind} {Ok:Keyed -> Prop} {st:SortSt} {lt:Keyed -> Keyed -> Bool}
abbrev LoT:=Option (Array Keyed) × Array Keyed × Nat × Nat × Nat × Nat × Nat
def lo3 (a b out:Array Keyed) (ia ib g ac bc:Nat):StateT SortSt Sem (ForInStep LoT) :=
 elem' a ia >>= fun p=>if (ia + 1 + 1 == a.size) = true then pure (.done (some (out.push p ++ b.extract ib b.size ++ a.extract (ia + 1) a.size),out.push p,ia + 1,ib,g,ac,bc))
  else if (decide (ac < 7) && decide (bc < 7)) = true then pure (.done (none,out.push p,ia + 1,ib,g,ac,bc)) else pure (.yield (none,out.push p,ia + 1,ib,g,ac,bc))
def LoP (lt:Keyed -> Keyed -> Bool) (a b:Array Keyed) (st:SortSt) (x:Nat):ForInStep LoT -> SortSt -> Prop:=fun r st'=>match r with
 | .done c=>Like st st' /\ ((∃ r out ia ib g ac bc,c = (some r,out,ia,ib,g,ac,bc) /\ Rs lt a b r) \/ ∃ out ia ib g ac bc,c = (none,out,ia,ib,g,ac,bc) /\ OutL lt a b out ia ib /\ ia + 1 < a.size /\ ib < b.size /\ x + 2 <= ia + ib)
 | .yield c=>Like st st' /\ ∃ out ia ib g ac bc,c = (none,out,ia,ib,g,ac,bc) /\ OutL lt a b out ia ib /\ ia + 1 < a.size /\ ib < b.size /\ x + 2 <= ia + ib
structure LoQ (lt:Keyed -> Keyed -> Bool) (a b:Array Keyed) (st:SortSt) (N:Nat) (Q:ForInStep LoT -> SortSt -> Prop):Prop where
 R:∀ r out ia ib g ac bc,Rs lt a b r -> Q (.done (some r,out,ia,ib,g,ac,bc)) st
 N:∀ out ia ib g ac bc,OutL lt a b out ia ib -> ia + 1 < a.size -> ib < b.size -> N <= ia + ib -> Q (.done (none,out,ia,ib,g,ac,bc)) st /\ Q (.yield (none,out,ia,ib,g,ac,bc)) st
section
variable {a b out:Array Keyed} {ia ib g ac bc N:Nat} {Q:ForInStep LoT -> SortSt -> Prop}
theorem ZiJ (SA:So lt a.toList) (SB:So lt b.toList) (LA:∀ x ∈ b.toList,∀ q,a[a.size - 1]? = some q -> Le lt x q) (q:LoQ lt a b st N Q) (ho:OutL lt a b out ia ib) (h1:ia + 1 < a.size) (h2:ib < b.size) (hN:N <= ia + ib) (hp:∀ p,a[ia]? = some p -> ∀ y ∈ b.toList.drop ib,Le lt p y) :
  wpS (model prog w) A E s (lo3 a b out ia ib g ac bc) Q st:=by
 unfold lo3
 refine wpS_bind (Zu (by lia) fun p4 h4 e4=>?_)
 have o4:=ho.pushA SA e4 (hp p4 e4)
 by_cases f1:(ia + 1 + 1 == a.size) = true
 ·rw [if_pos f1]
  exact wpS_pure (q.R _ _ _ _ _ _ _ (o4.lastL SA SB LA f1))
 rw [if_neg f1]
 have n4:ia + 1 + 1 < a.size:=by
  have : ¬ ia + 1 + 1 = a.size:=fun e=>f1 (by simp [<- e])
  lia
 have z:=q.N _ _ _ g ac bc o4 n4 h2 (by lia)
 by_cases f2:(decide (ac < 7) && decide (bc < 7)) = true
 ·rw [if_pos f2]
  exact wpS_pure z.1
 ·rw [if_neg f2]
  exact wpS_pure z.2
theorem Zfo (o:Swo lt) (hc:ZfV prog w A s κ Ok lt) (hk:kindOf st = κ) (ha:∀ p ∈ a.toList,Ok p) (hb:∀ p ∈ b.toList,Ok p) (SA:So lt a.toList) (SB:So lt b.toList) (LA:∀ x ∈ b.toList,∀ q,a[a.size - 1]? = some q -> Le lt x q) (q:LoQ lt a b st N Q) (ho:OutL lt a b out ia ib) (h1:ia + 1 < a.size) (h2:ib < b.size) (hN:N <= ia + ib) (hp:∀ p,b[ib]? = some p -> ∀ y ∈ a.toList.drop ia,Le lt p y)
  {T:Keyed -> Option Nat -> StateT SortSt Sem (ForInStep LoT)} (hT:∀ p k,T p (some k) = if k > 0 then (if (ib + 1 + k == b.size) = true then pure (.done (some (out.push p ++ b.extract (ib + 1) (ib + 1 + k) ++ a.extract ia a.size ++ b.extract (ib + 1 + k) b.size),out.push p ++ b.extract (ib + 1) (ib + 1 + k),ia,ib + 1 + k,g,ac,k))
     else lo3 a b (out.push p ++ b.extract (ib + 1) (ib + 1 + k)) ia (ib + 1 + k) g ac k)
    else lo3 a b (out.push p) ia (ib + 1) g ac k) :
  wpS (model prog w) A E s (elem' b ib >>= fun p=>if (ib + 1 == b.size) = true then pure (.done (some (out.push p ++ a.extract ia a.size ++ b.extract (ib + 1) b.size),out.push p,ia,ib + 1,g,ac,bc))
   else elem' a ia >>= fun q=>ZeE true q b (ib + 1) (b.size - (ib + 1)) 0 >>= T p) Q st:=by
 refine wpS_bind (Zu (by lia) fun p3 h3 e3=>?_)
 have o2:=ho.pushB SB e3 (hp p3 e3)
 by_cases c3:(ib + 1 == b.size) = true
 ·rw [if_pos c3]
  exact wpS_pure (q.R _ _ _ _ _ _ _ (o2.doneB SA c3))
 rw [if_neg c3]
 have n3:ib + 1 < b.size:=by
  have : ¬ ib + 1 = b.size:=fun e=>c3 (by simp [<- e])
  lia
 refine wpS_bind (Zu (by lia) fun q3 g3 u3=>?_)
 refine wpS_bind (Zaa o hc hk (ha q3 g3) hb (by lia) (by lia) (Zey SB _ _) fun k2 hk2 G1 G2=>?_)
 rw [hT]
 by_cases k20:k2 > 0
 ·rw [if_pos k20]
  have o3:=o2.extB SB (k:=k2) (by lia) (fun x hx=>Zej o SA u3 (ZkW G1 o x hx))
  by_cases c4:(ib + 1 + k2 == b.size) = true
  ·rw [if_pos c4]
   exact wpS_pure (q.R _ _ _ _ _ _ _ (o3.doneB SA c4))
  rw [if_neg c4]
  have n5:ib + 1 + k2 < b.size:=by
   have : ¬ ib + 1 + k2 = b.size:=fun e=>c4 (by simp [<- e])
   lia
  exact ZiJ SA SB LA q o3 h1 n5 (by lia) fun p e=>by rw [ZZ e u3]; exact Zlc G2
 ·rw [if_neg k20]
  exact ZiJ SA SB LA q o2 h1 n3 (by lia) fun p e=>by rw [ZZ e u3]; exact Zlc (k:=0) (fun i _ hi=>G2 i (by lia) hi)
end
set_option maxHeartbeats 2000000 in
theorem Zd4 {a b:Array Keyed} {Q:Array Keyed -> SortSt -> Prop} (o:Swo lt) (hc:ZfV prog w A s κ Ok lt) (hk:kindOf st = κ) (ha:∀ p ∈ a.toList,Ok p) (hb:∀ p ∈ b.toList,Ok p) (ha1:1 <= a.size) (hb1:1 <= b.size) (SA:So lt a.toList) (SB:So lt b.toList) (hb0:∀ p,b[0]? = some p -> ∀ y ∈ a.toList,Le lt p y) (LA:∀ x ∈ b.toList,∀ q,a[a.size - 1]? = some q -> Le lt x q)
  (h:∀ r st',Like st st' -> Rs lt a b r -> Q r st'):wpS (model prog w) A E s (Ziv a b) Q st:=by
 refine wpS_bind (wpS_lift (wpAny_rule ⟨rfl,?_⟩))
 refine wpS_bind (Zu (by lia) fun p hp he=>?_)
 try dsimp -zeta only
 have o0:OutL lt a b #[p] 0 1:=ZkJ SB he hb0
 by_cases c1:(1 == b.size) = true
 ·rw [if_pos c1]
  exact wpS_pure (h _ _ (Like.refl _) (o0.doneB SA c1))
 rw [if_neg c1]
 by_cases c2:(0 + 1 == a.size) = true
 ·rw [if_pos c2]
  exact wpS_pure (h _ _ (Like.refl _) (o0.lastL SA SB LA c2))
 rw [if_neg c2]
 have n1:1 < b.size:=by
  have : ¬ 1 = b.size:=fun e=>c1 (by simp [<- e])
  lia
 have n2:1 < a.size:=by
  have : ¬ 1 = a.size:=fun e=>c2 (by simp [<- e])
  lia
 refine wpS_bind (wpS_get ?_)
 refine wpS_bind (wpS_mono (wpS_forRange (I:=fun x c st'=>Like st st' /\ ∃ out ia ib g,c = (none,out,ia,ib,g) /\ OutL lt a b out ia ib /\ ia + 1 < a.size /\ ib < b.size /\ x + 1 <= ia + ib)
  (Q:=fun c st'=>Like st st' /\ ∃ r out ia ib g,c = (some r,out,ia,ib,g) /\ Rs lt a b r) ?_ ?_ ⟨Like.refl _,_,0,1,_,rfl,o0,by lia,by lia,by lia⟩) ?_)
 ·rintro x c st1 _ hx ⟨lk,out,ia,ib,g,rfl,ho,hia,hib,hxx⟩
  try dsimp -zeta only
  refine wpS_bind (wpS_mono (wpS_forRange (I:=fun y c st'=>Like st st' /\ ∃ out ia ib ac bc,c = (none,out,ia,ib,ac,bc) /\ OutL lt a b out ia ib /\ ia + 1 < a.size /\ ib < b.size /\ x + 1 + (if y = 0 then 0 else 1) <= ia + ib)
   (Q:=fun c st'=>Like st st' /\ ((∃ r out ia ib ac bc,c = (some r,out,ia,ib,ac,bc) /\ Rs lt a b r) \/ ∃ out ia ib ac bc,c = (none,out,ia,ib,ac,bc) /\ OutL lt a b out ia ib /\ ia + 1 < a.size /\ ib < b.size /\ x + 2 <= ia + ib)) ?_ ?_ ⟨lk,out,ia,ib,0,0,rfl,ho,hia,hib,by simp; lia⟩) ?_)
  ·rintro y c st2 _ hy ⟨lk2,out,ia,ib,ac,bc,rfl,ho,hia,hib,hxx⟩
   dsimp only
   have hxx2:x + 1 <= ia + ib:=by split at hxx <;> lia
   refine wpS_bind (Zu (by lia) fun p hp ep=>?_)
   refine wpS_bind (Zu (by lia) fun q hq eq=>?_)
   refine wpS_bind (ZcE hc (lk2.kind.trans hk) (hb p hp) (ha q hq) ?_)
   cases hbw:lt p q with
   | true =>
    try dsimp -zeta only
    rw [if_pos rfl]
    refine wpS_bind (Zu (by lia) fun p2 hp2 ep2=>?_)
    have o1:=ho.pushB SB ep2 (by rw [ZZ ep2 ep]; exact Zej o SA eq (o.le_of hbw))
    by_cases d1:(ib + 1 == b.size) = true
    ·rw [if_pos d1]
     exact wpS_pure ⟨lk2,.inl ⟨_,_,_,_,_,_,rfl,(o1.doneB SA d1)⟩⟩
    rw [if_neg d1]
    have m1:ib + 1 < b.size:=by
     have : ¬ ib + 1 = b.size:=fun e=>d1 (by simp [<- e])
     lia
    by_cases d2:bc + 1 >= g
    ·rw [if_pos d2]
     exact wpS_pure ⟨lk2,.inr ⟨_,_,_,_,_,rfl,o1,hia,m1,by lia⟩⟩
    ·rw [if_neg d2]
     exact wpS_pure ⟨lk2,_,_,_,_,_,rfl,o1,hia,m1,by rw [if_neg (by lia)]; lia⟩
   | false =>
    try dsimp -zeta only
    rw [if_neg Bool.false_ne_true]
    refine wpS_bind (Zu (by lia) fun p2 hp2 ep2=>?_)
    have o1:=ho.pushA SA ep2 (by rw [ZZ ep2 eq]; exact Zej o SB ep hbw)
    by_cases d1:(ia + 1 + 1 == a.size) = true
    ·rw [if_pos d1]
     exact wpS_pure ⟨lk2,.inl ⟨_,_,_,_,_,_,rfl,(o1.lastL SA SB LA d1)⟩⟩
    rw [if_neg d1]
    have m1:ia + 1 + 1 < a.size:=by
     have : ¬ ia + 1 + 1 = a.size:=fun e=>d1 (by simp [<- e])
     lia
    by_cases d2:ac + 1 >= g
    ·rw [if_pos d2]
     exact wpS_pure ⟨lk2,.inr ⟨_,_,_,_,_,rfl,o1,m1,hib,by lia⟩⟩
    ·rw [if_neg d2]
     exact wpS_pure ⟨lk2,_,_,_,_,_,rfl,o1,m1,hib,by rw [if_neg (by lia)]; lia⟩
  ·rintro c st2 ⟨lk2,out,ia,ib,ac,bc,rfl,ho,hia,hib,hxx⟩
   refine ⟨lk2,.inr ⟨_,_,_,_,_,rfl,ho,hia,hib,?_⟩⟩
   rw [if_neg (by lia)] at hxx
   lia
  ·rintro c st2 ⟨lk2,⟨r,out,ia,ib,ac,bc,rfl,hr⟩ | ⟨out,ia,ib,ac,bc,rfl,ho,hia,hib,hxx⟩⟩
   ·exact wpS_pure ⟨lk2,_,_,_,_,_,rfl,hr⟩
   try dsimp -zeta only
   refine wpS_bind (wpS_lift (wpAny_rule ⟨rfl,?_⟩))
   try dsimp -zeta only
   refine wpS_bind (wpS_mono (wpS_forRange (I:=fun y c st'=>Like st st' /\ ∃ out ia ib g ac bc,c = (none,out,ia,ib,g,ac,bc) /\ OutL lt a b out ia ib /\ ia + 1 < a.size /\ ib < b.size /\ x + 2 <= ia + ib)
    (Q:=fun c st'=>Like st st' /\ ((∃ r out ia ib g ac bc,c = (some r,out,ia,ib,g,ac,bc) /\ Rs lt a b r) \/ ∃ out ia ib g ac bc,c = (none,out,ia,ib,g,ac,bc) /\ OutL lt a b out ia ib /\ ia + 1 < a.size /\ ib < b.size /\ x + 2 <= ia + ib)) ?_ ?_ ⟨lk2,out,ia,ib,_,_,_,rfl,ho,hia,hib,hxx⟩) ?_)
   ·rintro y c st3 _ hy ⟨lk3,out,ia,ib,g3,ac,bc,rfl,ho,hia,hib,hxx⟩
    dsimp only
    refine wpS_mono (Q:=LoP lt a b st x) ?_ (fun r st' h=>by cases r <;> exact h)
    have loq:∀ {st4},Like st st4 -> LoQ lt a b st4 (ia + ib) (LoP lt a b st x):=fun lk4=>⟨fun r out ia ib g ac bc hr=>⟨lk4,.inl ⟨r,out,ia,ib,g,ac,bc,rfl,hr⟩⟩,fun out ia ib g ac bc ho h1 h2 hN=>⟨⟨lk4,.inr ⟨out,ia,ib,g,ac,bc,rfl,ho,h1,h2,by lia⟩⟩,⟨lk4,out,ia,ib,g,ac,bc,rfl,ho,h1,h2,by lia⟩⟩⟩
    by_cases g1:g3 > 1
    ·rw [if_pos g1]
     refine wpS_bind (wpS_modify ?_)
     have lk4:=lk3.trans (Zav st3 (g3 - 1))
     refine wpS_bind (Zu (by lia) fun p0 h0 e0=>?_)
     refine wpS_bind (Zaa o hc (lk4.kind.trans hk) (hb p0 h0) ha (by lia) (by lia) (Zey SA _ _) fun k hk1 F1 F2=>?_)
     try dsimp -zeta only
     by_cases k0:k > 0
     ·rw [if_pos k0]
      have o1:=ho.extA SA (k:=k) (by lia) (fun x hx=>Zej o SB e0 (ZjG F1 x hx))
      by_cases c1:(ia + k + 1 == a.size) = true
      ·rw [if_pos c1]
       exact wpS_pure ⟨lk4,.inl ⟨_,_,_,_,_,_,_,rfl,(o1.lastL SA SB LA c1)⟩⟩
      rw [if_neg c1]
      by_cases c2:(ia + k == a.size) = true
      ·rw [if_pos c2]
       exact wpS_pure ⟨lk4,.inl ⟨_,_,_,_,_,_,_,rfl,(o1.doneA SB c2)⟩⟩
      rw [if_neg c2]
      have n1:ia + k + 1 < a.size:=by
       have h1 : ¬ ia + k + 1 = a.size:=fun e=>c1 (by simp [<- e])
       have h2 : ¬ ia + k = a.size:=fun e=>c2 (by simp [<- e])
       lia
      refine Zfo o hc (lk4.kind.trans hk) ha hb SA SB LA (N:=ia + ib) (loq lk4) o1 n1 hib (by lia) (fun p e=>by rw [ZZ e e0]; exact Zko F2 o) ?_
      exact fun _ _=>rfl
     ·rw [if_neg k0]
      refine Zfo o hc (lk4.kind.trans hk) ha hb SA SB LA (N:=ia + ib) (loq lk4) ho hia hib (Nat.le_refl _) (fun p e=>by rw [ZZ e e0]; exact Zko (k:=0) (fun i _ hi=>F2 i (by lia) hi) o) ?_
      exact fun _ _=>rfl
    ·rw [if_neg g1]
     refine wpS_bind (wpS_modify ?_)
     have lk4:=lk3.trans (Zav st3 g3)
     refine wpS_bind (Zu (by lia) fun p0 h0 e0=>?_)
     refine wpS_bind (Zaa o hc (lk4.kind.trans hk) (hb p0 h0) ha (by lia) (by lia) (Zey SA _ _) fun k hk1 F1 F2=>?_)
     try dsimp -zeta only
     by_cases k0:k > 0
     ·rw [if_pos k0]
      have o1:=ho.extA SA (k:=k) (by lia) (fun x hx=>Zej o SB e0 (ZjG F1 x hx))
      by_cases c1:(ia + k + 1 == a.size) = true
      ·rw [if_pos c1]
       exact wpS_pure ⟨lk4,.inl ⟨_,_,_,_,_,_,_,rfl,(o1.lastL SA SB LA c1)⟩⟩
      rw [if_neg c1]
      by_cases c2:(ia + k == a.size) = true
      ·rw [if_pos c2]
       exact wpS_pure ⟨lk4,.inl ⟨_,_,_,_,_,_,_,rfl,(o1.doneA SB c2)⟩⟩
      rw [if_neg c2]
      have n1:ia + k + 1 < a.size:=by
       have h1 : ¬ ia + k + 1 = a.size:=fun e=>c1 (by simp [<- e])
       have h2 : ¬ ia + k = a.size:=fun e=>c2 (by simp [<- e])
       lia
      refine Zfo o hc (lk4.kind.trans hk) ha hb SA SB LA (N:=ia + ib) (loq lk4) o1 n1 hib (by lia) (fun p e=>by rw [ZZ e e0]; exact Zko F2 o) ?_
      exact fun _ _=>rfl
     ·rw [if_neg k0]
      refine Zfo o hc (lk4.kind.trans hk) ha hb SA SB LA (N:=ia + ib) (loq lk4) ho hia hib (Nat.le_refl _) (fun p e=>by rw [ZZ e e0]; exact Zko (k:=0) (fun i _ hi=>F2 i (by lia) hi) o) ?_
      exact fun _ _=>rfl
   ·rintro c st3 ⟨lk3,out,ia,ib,g3,ac,bc,rfl,ho,hia,hib,hxx⟩
    exact ⟨lk3,.inr ⟨_,_,_,_,_,_,rfl,ho,hia,hib,hxx⟩⟩
   ·rintro c st3 ⟨lk3,⟨r,out,ia,ib,g3,ac,bc,rfl,hr⟩ | ⟨out,ia,ib,g3,ac,bc,rfl,ho,hia,hib,hxx⟩⟩
    ·exact wpS_pure ⟨lk3,_,_,_,_,_,rfl,hr⟩
    ·try dsimp -zeta only
     refine wpS_bind (wpS_modify ?_)
     exact wpS_pure ⟨lk3.trans (Zav _ _),_,_,_,_,rfl,ho,hia,hib,by lia⟩
 ·rintro c st1 ⟨lk,out,ia,ib,g,rfl,ho,hia,hib,hx⟩
  exfalso
  lia
 ·rintro c st1 ⟨lk,r,out,ia,ib,g,rfl,hr⟩
  exact wpS_pure (h r st1 lk hr)
end
end Srd
namespace Srd
open PySem PyProof.Rows Srt
section
variable {lt:Keyed -> Keyed -> Bool} {a b out:Array Keyed} {na nb k:Nat} {p q:Keyed}
structure OutHL (lt:Keyed -> Keyed -> Bool) (a b out:Array Keyed) (na nb:Nat):Prop where
 perm:Zcv a b out na nb
 sort:So lt out.toList.reverse
 hiA:∀ x ∈ out.toList,∀ y ∈ a.toList.take na,Le lt y x
 hiB:∀ x ∈ out.toList,∀ y ∈ b.toList.take nb,Le lt y x
theorem ZbX (h1:1 <= na) (hp:a[na - 1]? = some p):a.toList.take na = a.toList.take (na - 1) ++ [p]:=by
 have:=ZdH (Zh5 hp)
 rw [Nat.sub_add_cancel h1] at this
 exact this
theorem So.take {l:List Keyed} (h:So lt l) (n:Nat):So lt (l.take n):=List.Pairwise.sublist (List.take_sublist n l) h
theorem So.last (h:So lt a.toList) (h1:1 <= na) (hp:a[na - 1]? = some p):∀ y ∈ a.toList.take (na - 1),Le lt y p:=fun y hy=>by
 have:=h.take na
 rw [ZbX h1 hp] at this
 exact (List.pairwise_append.mp this).2.2 y hy p (List.mem_singleton.mpr rfl)
theorem ZdO (o:Swo lt) (h:So lt a.toList) (h1:1 <= na) (hp:a[na - 1]? = some p) {x:Keyed} (hx:Le lt p x):∀ y ∈ a.toList.take na,Le lt y x:=fun y hy=>by
 rw [ZbX h1 hp] at hy
 rcases List.mem_append.mp hy with hy | hy
 ·exact o.le_trans (h.last h1 hp y hy) hx
 ·rw [List.mem_singleton.mp hy]
  exact hx
theorem ZdK {l:List Keyed} {i j:Nat} (h:i <= j) {y:Keyed} (hy:y ∈ l.take i):y ∈ l.take j:=by
 rw [show i = min i j by lia,<- List.take_take] at hy
 exact List.mem_of_mem_take hy
theorem Zbi {l:List Keyed} {n:Nat} {y:Keyed} (h:y ∈ l.take n):∃ i,i < n /\ l[i]? = some y:=by
 obtain ⟨i,hi⟩:=List.mem_iff_getElem?.mp h
 have hik:i < n:=by
  have:=(List.getElem?_eq_some_iff.mp hi).1
  rw [List.length_take] at this
  lia
 rw [List.getElem?_take_of_lt hik] at hi
 exact ⟨i,hik,hi⟩
theorem Zbj {i j:Nat} {x:Keyed} (h:x ∈ (a.extract i j).toList):∃ m,i <= m /\ m < j /\ a[m]? = some x:=by
 rw [Array.toList_extract,List.extract_eq_drop_take] at h
 obtain ⟨m,hm,e⟩:=Zbi h
 rw [List.getElem?_drop] at e
 exact ⟨i + m,by lia,by lia,by rw [<- Array.getElem?_toList]; exact e⟩
theorem ZjX (F:∀ i,k <= i -> i < na -> BV lt false p a 0 i = false) (o:Swo lt):∀ x ∈ (a.extract k na).toList,Le lt p x:=fun x hx=>by
 obtain ⟨m,h1,h2,e⟩:=Zbj hx
 have h3:=F m h1 h2
 unfold BV at h3
 rw [Nat.zero_add,e] at h3
 have h4:(!lt p x) = false:=h3
 exact o.le_of (by simpa using h4)
theorem Ze1 (F:∀ i,i < k -> BV lt false p a 0 i = true):∀ y ∈ a.toList.take k,Le lt y p:=fun y hy=>by
 obtain ⟨i,hi,e⟩:=Zbi hy
 have h3:=F i hi
 unfold BV at h3
 rw [Nat.zero_add,<- Array.getElem?_toList,e] at h3
 have h4:(!lt p y) = true:=h3
 show lt p y = false
 simpa using h4
theorem ZkR (F:∀ i,k <= i -> i < nb -> BV lt true q b 0 i = false):∀ x ∈ (b.extract k nb).toList,Le lt q x:=fun x hx=>by
 obtain ⟨m,h1,h2,e⟩:=Zbj hx
 have h3:=F m h1 h2
 unfold BV at h3
 rw [Nat.zero_add,e] at h3
 exact h3
theorem Zi1 (F:∀ i,i < k -> BV lt true q b 0 i = true) (o:Swo lt):∀ y ∈ b.toList.take k,Le lt y q:=fun y hy=>by
 obtain ⟨i,hi,e⟩:=Zbi hy
 have h3:=F i hi
 unfold BV at h3
 rw [Nat.zero_add,<- Array.getElem?_toList,e] at h3
 exact o.le_of h3
theorem Zfu (h:So lt out.toList.reverse) (hp:∀ x ∈ out.toList,Le lt p x):So lt (out.push p).toList.reverse:=by
 rw [Array.toList_push,List.reverse_append]
 exact List.pairwise_cons.mpr ⟨fun x hx=>hp x (List.mem_reverse.mp hx),h⟩
theorem OutHL.pushA (h:OutHL lt a b out na nb) (SA:So lt a.toList) (h1:1 <= na) (hp:a[na - 1]? = some p) (hb:∀ y ∈ b.toList.take nb,Le lt y p):OutHL lt a b (out.push p) (na - 1) nb:=by
 have hm:p ∈ a.toList.take na:=by rw [ZbX h1 hp]; exact List.mem_append_right _ (List.mem_singleton.mpr rfl)
 refine ⟨h.perm.pushA h1 hp,Zfu h.sort fun x hx=>h.hiA x hx p hm,fun x hx y hy=>?_,fun x hx y hy=>?_⟩
 ·rcases mem_push hx with hx | rfl
  ·exact h.hiA x hx y (ZdK (by lia) hy)
  ·exact SA.last h1 hp y hy
 ·rcases mem_push hx with hx | rfl
  ·exact h.hiB x hx y hy
  ·exact hb y hy
theorem OutHL.pushB (h:OutHL lt a b out na nb) (SB:So lt b.toList) (h1:1 <= nb) (hp:b[nb - 1]? = some p) (ha:∀ y ∈ a.toList.take na,Le lt y p):OutHL lt a b (out.push p) na (nb - 1):=by
 have hm:p ∈ b.toList.take nb:=by rw [ZbX h1 hp]; exact List.mem_append_right _ (List.mem_singleton.mpr rfl)
 refine ⟨h.perm.pushB h1 hp,Zfu h.sort fun x hx=>h.hiB x hx p hm,fun x hx y hy=>?_,fun x hx y hy=>?_⟩
 ·rcases mem_push hx with hx | rfl
  ·exact h.hiA x hx y hy
  ·exact ha y hy
 ·rcases mem_push hx with hx | rfl
  ·exact h.hiB x hx y (ZdK (by lia) hy)
  ·exact SB.last h1 hp y hy
theorem ZiT (h:So lt a.toList) (i j:Nat):So lt (a.extract i j).toList:=by
 rw [Array.toList_extract,List.extract_eq_drop_take]
 exact (h.drop i).take _
theorem ZhF {i j:Nat} {x:Keyed} (h:x ∈ (a.extract i j).toList):x ∈ a.toList.take j:=by
 obtain ⟨m,h1,h2,e⟩:=Zbj h
 rw [<- Array.getElem?_toList] at e
 refine List.mem_iff_getElem?.mpr ⟨m,?_⟩
 rw [List.getElem?_take_of_lt h2]
 exact e
theorem Zda (h:So lt a.toList) {i j:Nat} {x y:Keyed} (hy:y ∈ a.toList.take i) (hx:x ∈ (a.extract i j).toList):Le lt y x:=by
 obtain ⟨m,h1,h2,e⟩:=Zbj hx
 obtain ⟨l,hl,e2⟩:=Zbi hy
 rw [Array.getElem?_toList] at e2
 exact Zey h 0 (m + 1) l m _ _ (Nat.zero_le _) (by lia) (by lia) e2 e
theorem OutHL.extA (h:OutHL lt a b out na nb) (SA:So lt a.toList) (hk:k <= na) (hb:∀ x ∈ (a.extract k na).toList,∀ y ∈ b.toList.take nb,Le lt y x):OutHL lt a b (out ++ (a.extract k na).reverse) k nb:=by
 have hm:∀ x,x ∈ (out ++ (a.extract k na).reverse).toList -> x ∈ out.toList \/ x ∈ (a.extract k na).toList:=fun x hx=>by
  rw [Array.toList_append,Array.toList_reverse] at hx
  rcases List.mem_append.mp hx with hx | hx
  ·exact .inl hx
  ·exact .inr (List.mem_reverse.mp hx)
 refine ⟨h.perm.extA hk,?_,fun x hx y hy=>?_,fun x hx y hy=>?_⟩
 ·rw [Array.toList_append,Array.toList_reverse,List.reverse_append,List.reverse_reverse]
  exact List.pairwise_append.mpr ⟨ZiT SA _ _,h.sort,fun x hx y hy=>h.hiA y (List.mem_reverse.mp hy) x (ZhF hx)⟩
 ·rcases hm x hx with hx | hx
  ·exact h.hiA x hx y (ZdK (by lia) hy)
  ·exact Zda SA hy hx
 ·rcases hm x hx with hx | hx
  ·exact h.hiB x hx y hy
  ·exact hb x hx y hy
theorem OutHL.extB (h:OutHL lt a b out na nb) (SB:So lt b.toList) (hk:k <= nb) (ha:∀ x ∈ (b.extract k nb).toList,∀ y ∈ a.toList.take na,Le lt y x):OutHL lt a b (out ++ (b.extract k nb).reverse) na k:=by
 have hm:∀ x,x ∈ (out ++ (b.extract k nb).reverse).toList -> x ∈ out.toList \/ x ∈ (b.extract k nb).toList:=fun x hx=>by
  rw [Array.toList_append,Array.toList_reverse] at hx
  rcases List.mem_append.mp hx with hx | hx
  ·exact .inl hx
  ·exact .inr (List.mem_reverse.mp hx)
 refine ⟨h.perm.extB hk,?_,fun x hx y hy=>?_,fun x hx y hy=>?_⟩
 ·rw [Array.toList_append,Array.toList_reverse,List.reverse_append,List.reverse_reverse]
  exact List.pairwise_append.mpr ⟨ZiT SB _ _,h.sort,fun x hx y hy=>h.hiB y (List.mem_reverse.mp hy) x (ZhF hx)⟩
 ·rcases hm x hx with hx | hx
  ·exact h.hiA x hx y hy
  ·exact ha x hx y hy
 ·rcases hm x hx with hx | hx
  ·exact h.hiB x hx y (ZdK (by lia) hy)
  ·exact Zda SB hy hx
theorem OutHL.doneA (h:OutHL lt a b out na nb) (SB:So lt b.toList) (e:(na == 0) = true):Rs lt a b (a.extract 0 na ++ b.extract 0 nb ++ out.reverse):=by
 refine ⟨h.perm.done,?_⟩
 rw [Array.toList_append,Array.toList_append,ex0,ex0,Array.toList_reverse,eq_of_beq e,List.take_zero,List.nil_append]
 exact List.pairwise_append.mpr ⟨SB.take nb,h.sort,fun x hx y hy=>h.hiB y (List.mem_reverse.mp hy) x hx⟩
theorem OutHL.doneB (h:OutHL lt a b out na nb) (SA:So lt a.toList) (e:(nb == 0) = true):Rs lt a b (a.extract 0 na ++ b.extract 0 nb ++ out.reverse):=by
 refine ⟨h.perm.done,?_⟩
 rw [Array.toList_append,Array.toList_append,ex0,ex0,Array.toList_reverse,eq_of_beq e,List.take_zero,List.append_nil]
 exact List.pairwise_append.mpr ⟨SA.take na,h.sort,fun x hx y hy=>h.hiA y (List.mem_reverse.mp hy) x hx⟩
theorem OutHL.firstL (h:OutHL lt a b out na nb) (SA:So lt a.toList) (SB:So lt b.toList) (hb0:∀ p,b[0]? = some p -> ∀ y ∈ a.toList,Le lt p y) (e:(nb == 1) = true):Rs lt a b (b.extract 0 nb ++ a.extract 0 na ++ out.reverse):=by
 refine ⟨h.perm.first,?_⟩
 rw [Array.toList_append,Array.toList_append,ex0,ex0,Array.toList_reverse]
 refine List.pairwise_append.mpr ⟨List.pairwise_append.mpr ⟨SB.take nb,SA.take na,fun x hx y hy=>?_⟩,h.sort,fun x hx y hy=>?_⟩
 ·obtain ⟨i,hi,e2⟩:=Zbi hx
  rw [eq_of_beq e] at hi
  obtain rfl:i = 0:=by lia
  rw [Array.getElem?_toList] at e2
  exact hb0 x e2 y (List.mem_of_mem_take hy)
 ·rcases List.mem_append.mp hx with hx | hx
  ·exact h.hiB y (List.mem_reverse.mp hy) x hx
  ·exact h.hiA y (List.mem_reverse.mp hy) x hx
theorem Zj7 (SA:So lt a.toList) (h1:1 <= a.size) (hp:a[a.size - 1]? = some p) (LA:∀ x ∈ b.toList,∀ q,a[a.size - 1]? = some q -> Le lt x q):OutHL lt a b #[p] (a.size - 1) b.size:=by
 refine ⟨ZkP h1 hp,List.pairwise_singleton _ _,fun x hx y hy=>?_,fun x hx y hy=>?_⟩
 ·obtain rfl:x = p:=by simpa using hx
  exact SA.last h1 hp y hy
 ·obtain rfl:x = p:=by simpa using hx
  exact LA y (List.mem_of_mem_take hy) x hp
end
section
variable {prog:Program} {w:World} {A:Around} {E:Value -> Shared -> Prop} {s:Shared} {κ : SortKind} {Ok:Keyed -> Prop} {st:SortSt} {lt:Keyed -> Keyed -> Bool}
abbrev HiT:=Option (Array Keyed) × Nat × Nat × Array Keyed × Nat × Nat × Nat
def hi3 (a b:Array Keyed) (na nb:Nat) (out:Array Keyed) (g ac bc:Nat):StateT SortSt Sem (ForInStep HiT) :=
 elem' a (na - 1) >>= fun p=>if (na - 1 == 0) = true then pure (.done (some (a.extract 0 (na - 1) ++ b.extract 0 nb ++ (out.push p).reverse),na - 1,nb,out.push p,g,ac,bc))
  else if (decide (ac < 7) && decide (bc < 7)) = true then pure (.done (none,na - 1,nb,out.push p,g,ac,bc)) else pure (.yield (none,na - 1,nb,out.push p,g,ac,bc))
structure HiQ (lt:Keyed -> Keyed -> Bool) (a b:Array Keyed) (st:SortSt) (N:Nat) (Q:ForInStep HiT -> SortSt -> Prop):Prop where
 R:∀ r na nb out g ac bc,Rs lt a b r -> Q (.done (some r,na,nb,out,g,ac,bc)) st
 N:∀ na nb out g ac bc,OutHL lt a b out na nb -> 1 <= na -> na <= a.size -> 2 <= nb -> nb <= b.size -> na + nb <= N -> Q (.done (none,na,nb,out,g,ac,bc)) st /\ Q (.yield (none,na,nb,out,g,ac,bc)) st
def HiP (lt:Keyed -> Keyed -> Bool) (a b:Array Keyed) (st:SortSt) (x:Nat):ForInStep HiT -> SortSt -> Prop:=fun r st'=>match r with
 | .done c=>Like st st' /\ ((∃ r na nb out g ac bc,c = (some r,na,nb,out,g,ac,bc) /\ Rs lt a b r) \/ ∃ na nb out g ac bc,c = (none,na,nb,out,g,ac,bc) /\ OutHL lt a b out na nb /\ 1 <= na /\ na <= a.size /\ 2 <= nb /\ nb <= b.size /\ na + nb + x + 2 <= a.size + b.size)
 | .yield c=>Like st st' /\ ∃ na nb out g ac bc,c = (none,na,nb,out,g,ac,bc) /\ OutHL lt a b out na nb /\ 1 <= na /\ na <= a.size /\ 2 <= nb /\ nb <= b.size /\ na + nb + x + 2 <= a.size + b.size
section
variable {a b out:Array Keyed} {na nb g ac bc N:Nat} {Q:ForInStep HiT -> SortSt -> Prop}
theorem ZiV (SA:So lt a.toList) (SB:So lt b.toList) (q:HiQ lt a b st N Q) (ho:OutHL lt a b out na nb) (h1:1 <= na) (h2:na <= a.size) (h3:2 <= nb) (h4:nb <= b.size) (hN:na + nb <= N) (hp:∀ p,a[na - 1]? = some p -> ∀ y ∈ b.toList.take nb,Le lt y p) :
  wpS (model prog w) A E s (hi3 a b na nb out g ac bc) Q st:=by
 unfold hi3
 refine wpS_bind (Zu (by lia) fun p4 w4 e4=>?_)
 have o4:=ho.pushA SA h1 e4 (hp p4 e4)
 by_cases f1:(na - 1 == 0) = true
 ·rw [if_pos f1]
  exact wpS_pure (q.R _ _ _ _ _ _ _ (o4.doneA SB f1))
 rw [if_neg f1]
 have n4 : ¬ na - 1 = 0:=fun e=>f1 (by simp [e])
 have z:=q.N _ _ _ g ac bc o4 (by lia) (by lia) h3 h4 (by lia)
 by_cases f2:(decide (ac < 7) && decide (bc < 7)) = true
 ·rw [if_pos f2]
  exact wpS_pure z.1
 ·rw [if_neg f2]
  exact wpS_pure z.2
theorem Zfe (o:Swo lt) (hc:ZfV prog w A s κ Ok lt) (hk:kindOf st = κ) (ha:∀ p ∈ a.toList,Ok p) (hb:∀ p ∈ b.toList,Ok p) (hb0:∀ p,b[0]? = some p -> ∀ y ∈ a.toList,Le lt p y) (SA:So lt a.toList) (SB:So lt b.toList) (q:HiQ lt a b st N Q) (ho:OutHL lt a b out na nb) (h1:1 <= na) (h2:na <= a.size) (h3:2 <= nb) (h4:nb <= b.size) (hN:na + nb <= N) (hp:∀ p,b[nb - 1]? = some p -> ∀ y ∈ a.toList.take na,Le lt y p)
  {T:Keyed -> Option Nat -> StateT SortSt Sem (ForInStep HiT)} (hT:∀ p k,T p (some k) = if nb - 1 - k > 0 then (if (k == 1) = true then pure (.done (some (b.extract 0 k ++ a.extract 0 na ++ (out.push p ++ (b.extract k (nb - 1)).reverse).reverse),na,k,out.push p ++ (b.extract k (nb - 1)).reverse,g,ac,nb - 1 - k))
     else if (k == 0) = true then pure (.done (some (a.extract 0 na ++ b.extract 0 k ++ (out.push p ++ (b.extract k (nb - 1)).reverse).reverse),na,k,out.push p ++ (b.extract k (nb - 1)).reverse,g,ac,nb - 1 - k))
     else hi3 a b na k (out.push p ++ (b.extract k (nb - 1)).reverse) g ac (nb - 1 - k))
    else hi3 a b na (nb - 1) (out.push p) g ac (nb - 1 - k)) :
  wpS (model prog w) A E s (elem' b (nb - 1) >>= fun p=>if (nb - 1 == 1) = true then pure (.done (some (b.extract 0 (nb - 1) ++ a.extract 0 na ++ (out.push p).reverse),na,nb - 1,out.push p,g,ac,bc))
   else elem' a (na - 1) >>= fun q=>ZeE true q b 0 (nb - 1) (nb - 1 - 1) >>= T p) Q st:=by
 refine wpS_bind (Zu (by lia) fun p3 w3 e3=>?_)
 have o2:=ho.pushB SB (by lia) e3 (hp p3 e3)
 by_cases c3:(nb - 1 == 1) = true
 ·rw [if_pos c3]
  exact wpS_pure (q.R _ _ _ _ _ _ _ (o2.firstL SA SB hb0 c3))
 rw [if_neg c3]
 have n3 : ¬ nb - 1 = 1:=fun e=>c3 (by simp [e])
 refine wpS_bind (Zu (by lia) fun q3 v3 u3=>?_)
 refine wpS_bind (Zaa o hc hk (ha q3 v3) hb (by lia) (by lia) (Zey SB _ _) fun k2 hk2 G1 G2=>?_)
 rw [hT]
 by_cases k20:nb - 1 - k2 > 0
 ·rw [if_pos k20]
  have o3:=o2.extB SB (k:=k2) (by lia) (fun x hx=>ZdO o SA (by lia) u3 (ZkR G2 x hx))
  by_cases c4:(k2 == 1) = true
  ·rw [if_pos c4]
   exact wpS_pure (q.R _ _ _ _ _ _ _ (o3.firstL SA SB hb0 c4))
  rw [if_neg c4]
  by_cases c5:(k2 == 0) = true
  ·rw [if_pos c5]
   exact wpS_pure (q.R _ _ _ _ _ _ _ (o3.doneB SA c5))
  rw [if_neg c5]
  have n5 : ¬ k2 = 1:=fun e=>c4 (by simp [e])
  have n6 : ¬ k2 = 0:=fun e=>c5 (by simp [e])
  exact ZiV SA SB q o3 h1 h2 (by lia) (by lia) (by lia) fun p e=>by rw [ZZ e u3]; exact Zi1 G1 o
 ·rw [if_neg k20]
  exact ZiV SA SB q o2 h1 h2 (by lia) (by lia) (by lia) fun p e=>by rw [ZZ e u3]; exact Zi1 (fun i hi=>G1 i (by lia)) o
end
set_option maxHeartbeats 2000000 in
theorem Zd5 {a b:Array Keyed} {Q:Array Keyed -> SortSt -> Prop} (o:Swo lt) (hc:ZfV prog w A s κ Ok lt) (hk:kindOf st = κ) (ha:∀ p ∈ a.toList,Ok p) (hb:∀ p ∈ b.toList,Ok p) (ha1:1 <= a.size) (hb1:1 <= b.size) (SA:So lt a.toList) (SB:So lt b.toList) (hb0:∀ p,b[0]? = some p -> ∀ y ∈ a.toList,Le lt p y) (LA:∀ x ∈ b.toList,∀ q,a[a.size - 1]? = some q -> Le lt x q)
  (h:∀ r st',Like st st' -> Rs lt a b r -> Q r st'):wpS (model prog w) A E s (Zij a b) Q st:=by
 refine wpS_bind (wpS_lift (wpAny_rule ⟨rfl,?_⟩))
 refine wpS_bind (Zu (by lia) fun p hp he=>?_)
 try dsimp -zeta only
 have o0:OutHL lt a b #[p] (a.size - 1) b.size:=Zj7 SA ha1 he LA
 by_cases c1:(a.size - 1 == 0) = true
 ·rw [if_pos c1]
  exact wpS_pure (h _ _ (Like.refl _) (o0.doneA SB c1))
 rw [if_neg c1]
 by_cases c2:(b.size == 1) = true
 ·rw [if_pos c2]
  exact wpS_pure (h _ _ (Like.refl _) (o0.firstL SA SB hb0 c2))
 rw [if_neg c2]
 have n1:1 < b.size:=by
  have : ¬ b.size = 1:=fun e=>c2 (by simp [e])
  lia
 have n2:1 < a.size:=by
  have : ¬ a.size - 1 = 0:=fun e=>c1 (by simp [e])
  lia
 refine wpS_bind (wpS_get ?_)
 refine wpS_bind (wpS_mono (wpS_forRange (I:=fun x c st'=>Like st st' /\ ∃ na nb out g,c = (none,na,nb,out,g) /\ OutHL lt a b out na nb /\ 1 <= na /\ na <= a.size /\ 2 <= nb /\ nb <= b.size /\ na + nb + x + 1 <= a.size + b.size)
  (Q:=fun c st'=>Like st st' /\ ∃ r na nb out g,c = (some r,na,nb,out,g) /\ Rs lt a b r) ?_ ?_ ⟨Like.refl _,_,_,_,_,rfl,o0,by lia,by lia,by lia,by lia,by lia⟩) ?_)
 ·rintro x c st1 _ hx ⟨lk,na,nb,out,g,rfl,ho,h1,h2,h3,h4,hxx⟩
  try dsimp -zeta only
  refine wpS_bind (wpS_mono (wpS_forRange (I:=fun y c st'=>Like st st' /\ ∃ na nb out ac bc,c = (none,na,nb,out,ac,bc) /\ OutHL lt a b out na nb /\ 1 <= na /\ na <= a.size /\ 2 <= nb /\ nb <= b.size /\ na + nb + x + 1 + (if y = 0 then 0 else 1) <= a.size + b.size)
   (Q:=fun c st'=>Like st st' /\ ((∃ r na nb out ac bc,c = (some r,na,nb,out,ac,bc) /\ Rs lt a b r) \/ ∃ na nb out ac bc,c = (none,na,nb,out,ac,bc) /\ OutHL lt a b out na nb /\ 1 <= na /\ na <= a.size /\ 2 <= nb /\ nb <= b.size /\ na + nb + x + 2 <= a.size + b.size)) ?_ ?_ ⟨lk,na,nb,out,0,0,rfl,ho,h1,h2,h3,h4,by simp; lia⟩) ?_)
  ·rintro y c st2 _ hy ⟨lk2,na,nb,out,ac,bc,rfl,ho,h1,h2,h3,h4,hxx⟩
   have hxx2:na + nb + x + 1 <= a.size + b.size:=by split at hxx <;> lia
   try dsimp only
   refine wpS_bind (Zu (by lia) fun p hp ep=>?_)
   refine wpS_bind (Zu (by lia) fun q hq eq=>?_)
   refine wpS_bind (ZcE hc (lk2.kind.trans hk) (hb p hp) (ha q hq) ?_)
   cases hbw:lt p q with
   | true =>
    try dsimp only
    rw [if_pos rfl]
    refine wpS_bind (Zu (by lia) fun p2 hp2 ep2=>?_)
    have o1:=ho.pushA SA h1 ep2 (by rw [ZZ ep2 eq]; exact ZdO o SB (by lia) ep (o.le_of hbw))
    by_cases d1:(na - 1 == 0) = true
    ·rw [if_pos d1]
     exact wpS_pure ⟨lk2,.inl ⟨_,_,_,_,_,_,rfl,(o1.doneA SB d1)⟩⟩
    rw [if_neg d1]
    have m1 : ¬ na - 1 = 0:=fun e=>d1 (by simp [e])
    by_cases d2:ac + 1 >= g
    ·rw [if_pos d2]
     exact wpS_pure ⟨lk2,.inr ⟨_,_,_,_,_,rfl,o1,by lia,by lia,h3,h4,by lia⟩⟩
    ·rw [if_neg d2]
     exact wpS_pure ⟨lk2,_,_,_,_,_,rfl,o1,by lia,by lia,h3,h4,by rw [if_neg (by lia)]; lia⟩
   | false =>
    try dsimp only
    rw [if_neg Bool.false_ne_true]
    refine wpS_bind (Zu (by lia) fun p2 hp2 ep2=>?_)
    have o1:=ho.pushB SB (by lia) ep2 (by rw [ZZ ep2 ep]; exact ZdO o SA h1 eq hbw)
    by_cases d1:(nb - 1 == 1) = true
    ·rw [if_pos d1]
     exact wpS_pure ⟨lk2,.inl ⟨_,_,_,_,_,_,rfl,(o1.firstL SA SB hb0 d1)⟩⟩
    rw [if_neg d1]
    have m1 : ¬ nb - 1 = 1:=fun e=>d1 (by simp [e])
    by_cases d2:bc + 1 >= g
    ·rw [if_pos d2]
     exact wpS_pure ⟨lk2,.inr ⟨_,_,_,_,_,rfl,o1,h1,h2,by lia,by lia,by lia⟩⟩
    ·rw [if_neg d2]
     exact wpS_pure ⟨lk2,_,_,_,_,_,rfl,o1,h1,h2,by lia,by lia,by rw [if_neg (by lia)]; lia⟩
  ·rintro c st2 ⟨lk2,na,nb,out,ac,bc,rfl,ho,h1,h2,h3,h4,hxx⟩
   refine ⟨lk2,.inr ⟨_,_,_,_,_,rfl,ho,h1,h2,h3,h4,?_⟩⟩
   rw [if_neg (by lia)] at hxx
   lia
  ·rintro c st2 ⟨lk2,⟨r,na,nb,out,ac,bc,rfl,hr⟩ | ⟨na,nb,out,ac,bc,rfl,ho,h1,h2,h3,h4,hxx⟩⟩
   ·exact wpS_pure ⟨lk2,_,_,_,_,_,rfl,hr⟩
   try dsimp -zeta only
   refine wpS_bind (wpS_lift (wpAny_rule ⟨rfl,?_⟩))
   try dsimp -zeta only
   refine wpS_bind (wpS_mono (wpS_forRange (I:=fun y c st'=>Like st st' /\ ∃ na nb out g ac bc,c = (none,na,nb,out,g,ac,bc) /\ OutHL lt a b out na nb /\ 1 <= na /\ na <= a.size /\ 2 <= nb /\ nb <= b.size /\ na + nb + x + 2 <= a.size + b.size)
    (Q:=fun c st'=>Like st st' /\ ((∃ r na nb out g ac bc,c = (some r,na,nb,out,g,ac,bc) /\ Rs lt a b r) \/ ∃ na nb out g ac bc,c = (none,na,nb,out,g,ac,bc) /\ OutHL lt a b out na nb /\ 1 <= na /\ na <= a.size /\ 2 <= nb /\ nb <= b.size /\ na + nb + x + 2 <= a.size + b.size)) ?_ ?_ ⟨lk2,na,nb,out,_,_,_,rfl,ho,h1,h2,h3,h4,hxx⟩) ?_)
   ·rintro y c st3 _ hy ⟨lk3,na,nb,out,g3,ac,bc,rfl,ho,h1,h2,h3,h4,hxx⟩
    try dsimp only
    refine wpS_mono (Q:=HiP lt a b st x) ?_ (fun r st' h=>by cases r <;> exact h)
    have hiq:∀ {st4},Like st st4 -> HiQ lt a b st4 (na + nb) (HiP lt a b st x):=fun lk4=>⟨fun r na nb out g ac bc hr=>⟨lk4,.inl ⟨r,na,nb,out,g,ac,bc,rfl,hr⟩⟩,fun na nb out g ac bc ho h1 h2 h3 h4 hN=>⟨⟨lk4,.inr ⟨na,nb,out,g,ac,bc,rfl,ho,h1,h2,h3,h4,by lia⟩⟩,⟨lk4,na,nb,out,g,ac,bc,rfl,ho,h1,h2,h3,h4,by lia⟩⟩⟩
    by_cases g1:g3 > 1
    ·rw [if_pos g1]
     refine wpS_bind (wpS_modify ?_)
     have lk4:=lk3.trans (Zav st3 (g3 - 1))
     refine wpS_bind (Zu (by lia) fun p0 w0 e0=>?_)
     refine wpS_bind (Zaa o hc (lk4.kind.trans hk) (hb p0 w0) ha (by lia) (by lia) (Zey SA _ _) fun k hk1 F1 F2=>?_)
     dsimp only
     by_cases k0:na - k > 0
     ·rw [if_pos k0]
      have o1:=ho.extA SA (k:=k) (by lia) (fun x hx=>ZdO o SB (by lia) e0 (ZjX F2 o x hx))
      by_cases c1:(k == 0) = true
      ·rw [if_pos c1]
       exact wpS_pure ⟨lk4,.inl ⟨_,_,_,_,_,_,_,rfl,(o1.doneA SB c1)⟩⟩
      rw [if_neg c1]
      have n1 : ¬ k = 0:=fun e=>c1 (by simp [e])
      refine Zfe o hc (lk4.kind.trans hk) ha hb hb0 SA SB (N:=na + nb) (hiq lk4) o1 (by lia) (by lia) h3 h4 (by lia) (fun p e=>by rw [ZZ e e0]; exact Ze1 F1) ?_
      exact fun _ _=>rfl
     ·rw [if_neg k0]
      refine Zfe o hc (lk4.kind.trans hk) ha hb hb0 SA SB (N:=na + nb) (hiq lk4) ho h1 h2 h3 h4 (Nat.le_refl _) (fun p e=>by rw [ZZ e e0]; exact Ze1 fun i hi=>F1 i (by lia)) ?_
      exact fun _ _=>rfl
    ·rw [if_neg g1]
     refine wpS_bind (wpS_modify ?_)
     have lk4:=lk3.trans (Zav st3 g3)
     refine wpS_bind (Zu (by lia) fun p0 w0 e0=>?_)
     refine wpS_bind (Zaa o hc (lk4.kind.trans hk) (hb p0 w0) ha (by lia) (by lia) (Zey SA _ _) fun k hk1 F1 F2=>?_)
     dsimp only
     by_cases k0:na - k > 0
     ·rw [if_pos k0]
      have o1:=ho.extA SA (k:=k) (by lia) (fun x hx=>ZdO o SB (by lia) e0 (ZjX F2 o x hx))
      by_cases c1:(k == 0) = true
      ·rw [if_pos c1]
       exact wpS_pure ⟨lk4,.inl ⟨_,_,_,_,_,_,_,rfl,(o1.doneA SB c1)⟩⟩
      rw [if_neg c1]
      have n1 : ¬ k = 0:=fun e=>c1 (by simp [e])
      refine Zfe o hc (lk4.kind.trans hk) ha hb hb0 SA SB (N:=na + nb) (hiq lk4) o1 (by lia) (by lia) h3 h4 (by lia) (fun p e=>by rw [ZZ e e0]; exact Ze1 F1) ?_
      exact fun _ _=>rfl
     ·rw [if_neg k0]
      refine Zfe o hc (lk4.kind.trans hk) ha hb hb0 SA SB (N:=na + nb) (hiq lk4) ho h1 h2 h3 h4 (Nat.le_refl _) (fun p e=>by rw [ZZ e e0]; exact Ze1 fun i hi=>F1 i (by lia)) ?_
      exact fun _ _=>rfl
   ·rintro c st3 ⟨lk3,na,nb,out,g3,ac,bc,rfl,ho,h1,h2,h3,h4,hxx⟩
    exact ⟨lk3,.inr ⟨_,_,_,_,_,_,rfl,ho,h1,h2,h3,h4,hxx⟩⟩
   ·rintro c st3 ⟨lk3,⟨r,na,nb,out,g3,ac,bc,rfl,hr⟩ | ⟨na,nb,out,g3,ac,bc,rfl,ho,h1,h2,h3,h4,hxx⟩⟩
    ·exact wpS_pure ⟨lk3,_,_,_,_,_,rfl,hr⟩
    ·try dsimp only
     refine wpS_bind (wpS_modify ?_)
     exact wpS_pure ⟨lk3.trans (Zav _ _),_,_,_,_,rfl,ho,h1,h2,h3,h4,by lia⟩
 ·rintro c st1 ⟨lk,na,nb,out,g,rfl,ho,h1,h2,h3,h4,hx⟩
  exfalso
  lia
 ·rintro c st1 ⟨lk,r,na,nb,out,g,rfl,hr⟩
  exact wpS_pure (h r st1 lk hr)
end
end Srd
namespace Srd
open PySem PyProof.Rows Srt
structure Pl (lo hi:Nat) (st st':SortSt):Prop where
 pm:Pm st st'
 out:∀ i,i < lo \/ hi <= i -> (arrOf st')[i]? = (arrOf st)[i]?
theorem Pl.refl (lo hi:Nat) (st:SortSt):Pl lo hi st st:=⟨Pm.refl _,fun _ _=>rfl⟩
theorem Pl.trans {lo hi:Nat} {a b c:SortSt} (x:Pl lo hi a b) (y:Pl lo hi b c):Pl lo hi a c:=⟨x.pm.trans y.pm,fun i h=>(y.out i h).trans (x.out i h)⟩
theorem Pl.mirror {lo hi i j:Nat} (st:SortSt) (h1:lo <= i) (h2:j <= hi) (hj:j <= (arrOf st).size):Pl lo hi st (setArr st (mirror (arrOf st) i j ((j - i) / 2))):=⟨Pm.mirror st i j,fun k hk=>by
 show (PyProof.Rows.mirror (arrOf st) i j ((j - i) / 2))[k]? = _
 rw [getElem?_mirror_all hj,if_neg (by lia)]⟩
theorem Pl.bubble {lo hi src dst:Nat} (st:SortSt) (h1:lo <= dst) (h2:dst <= src) (h3:src < hi) (hs:src < (arrOf st).size):Pl lo hi st (setArr st (bubble (arrOf st) src (src - dst))):=⟨Pm.bubble st src dst,fun k hk=>by
 show (PyProof.Rows.bubble (arrOf st) src (src - dst))[k]? = _
 rw [getElem?_bubble hs _ (by lia),if_neg (by lia),if_neg (by lia)]⟩
section
variable {lt:Keyed -> Keyed -> Bool} {arr:Array Keyed} {lo hi m:Nat} {p q:Keyed}
def Dn (lt:Keyed -> Keyed -> Bool) (arr:Array Keyed) (i j:Nat):Prop := ∀ x y p q,i <= x -> x < y -> y < j -> arr[x]? = some p -> arr[y]? = some q -> Le lt q p
def Eqv (lt:Keyed -> Keyed -> Bool) (arr:Array Keyed) (i j:Nat):Prop := ∀ x y p q,i <= x -> x < j -> i <= y -> y < j -> arr[x]? = some p -> arr[y]? = some q -> Le lt p q
theorem Zi2:Up lt arr lo (lo + 1):=fun x y _ _ h1 h2 h3=>by lia
theorem ZjZ:Dn lt arr lo (lo + 1):=fun x y _ _ h1 h2 h3=>by lia
theorem Up.ext (o:Swo lt) (h:Up lt arr lo m) (hm:lo < m) (hp:arr[m - 1]? = some p) (hq:arr[m]? = some q) (hle:Le lt p q):Up lt arr lo (m + 1):=fun x y u v h1 h2 h3 eu ev=>by
 by_cases hy:y < m
 ·exact h x y u v h1 h2 hy eu ev
 obtain rfl:y = m:=by lia
 rw [hq] at ev
 cases ev
 by_cases hx:x = y - 1
 ·rw [hx,hp] at eu
  cases eu
  exact hle
 ·exact o.le_trans (h x (y - 1) u p h1 (by lia) (by lia) eu hp) hle
theorem Dn.ext (o:Swo lt) (h:Dn lt arr lo m) (hm:lo < m) (hp:arr[m - 1]? = some p) (hq:arr[m]? = some q) (hle:Le lt q p):Dn lt arr lo (m + 1):=fun x y u v h1 h2 h3 eu ev=>by
 by_cases hy:y < m
 ·exact h x y u v h1 h2 hy eu ev
 obtain rfl:y = m:=by lia
 rw [hq] at ev
 cases ev
 by_cases hx:x = y - 1
 ·rw [hx,hp] at eu
  cases eu
  exact hle
 ·exact o.le_trans hle (h x (y - 1) u p h1 (by lia) (by lia) eu hp)
theorem Dn.mirror (h:Dn lt arr lo hi) (hs:hi <= arr.size):Up lt (mirror arr lo hi ((hi - lo) / 2)) lo hi:=fun x y u v h1 h2 h3 eu ev=>by
 rw [getElem?_mirror_all hs,if_pos (by lia)] at eu ev
 exact h (lo + hi - 1 - y) (lo + hi - 1 - x) v u (by lia) (by lia) (by lia) ev eu
theorem Up.mirror (h:Up lt arr lo hi) (hs:hi <= arr.size):Dn lt (mirror arr lo hi ((hi - lo) / 2)) lo hi:=fun x y u v h1 h2 h3 eu ev=>by
 rw [getElem?_mirror_all hs,if_pos (by lia)] at eu ev
 exact h (lo + hi - 1 - y) (lo + hi - 1 - x) v u (by lia) (by lia) (by lia) ev eu
theorem Dn.turn (h:Dn lt arr lo hi) (he:Eqv lt arr m hi) (hm:lo <= m) (hs:hi <= arr.size):Dn lt (PyProof.Rows.mirror arr m hi ((hi - m) / 2)) lo hi:=fun x y u v h1 h2 h3 eu ev=>by
 rw [getElem?_mirror_all hs] at eu ev
 by_cases hy:m <= y /\ y < hi
 ·rw [if_pos hy] at ev
  by_cases hx:m <= x /\ x < hi
  ·rw [if_pos hx] at eu
   exact he _ _ _ _ (by lia) (by lia) (by lia) (by lia) ev eu
  ·rw [if_neg hx] at eu
   exact h x (m + hi - 1 - y) u v h1 (by lia) (by lia) eu ev
 ·rw [if_neg hy] at ev
  rw [if_neg (by lia)] at eu
  exact h x y u v h1 h2 h3 eu ev
end
section
variable {prog:Program} {w:World} {A:Around} {E:Value -> Shared -> Prop} {s:Shared} {κ : SortKind} {Ok:Keyed -> Prop} {st:SortSt} {lt:Keyed -> Keyed -> Bool}
theorem Zac {i j:Nat} {Q:Option Bool -> SortSt -> Prop} (hc:ZfV prog w A s κ Ok lt) (hk:kindOf st = κ) (ho:∀ p ∈ (arrOf st).toList,Ok p) (hi:i < (arrOf st).size) (hj:j < (arrOf st).size) (h:∀ p q,(arrOf st)[i]? = some p -> (arrOf st)[j]? = some q -> Q (some (lt p q)) st):wpS (model prog w) A E s (ltAt' i j) Q st:=by
 rw [ltAt'_eq]
 refine wpS_bind (wpS_get ?_)
 refine wpS_bind (Zu hi fun p hp e1=>wpS_bind (Zu hj fun q hq e2=>?_))
 exact ZcE hc hk (ho p hp) (ho q hq) (h p q e1 e2)
theorem ZaE {i j:Nat} {Q:PUnit -> SortSt -> Prop} (h:Q ⟨⟩ (setArr st (mirror (arrOf st) i j ((j - i) / 2)))):wpS (model prog w) A E s (reverseSlice' i j) Q st:=by
 rw [reverseSlice'_eq]
 exact wpS_modify h
theorem Zhp {i j:Nat} {Q:PUnit -> SortSt -> Prop} (h:Q ⟨⟩ (setArr st (bubble (arrOf st) i (i - j)))):wpS (model prog w) A E s (moveDown' i j) Q st:=by
 rw [moveDown'_eq]
 exact wpS_modify h
theorem Zka (o:Swo lt) {arr:Array Keyed} {lo k l:Nat} {pv:Keyed} (h:Up lt arr lo (lo + k)) (hs:lo + k < arr.size) (hl:l <= k) (ep:arr[lo + k]? = some pv) (h1:∀ i p,i < l -> arr[lo + i]? = some p -> Le lt p pv) (h2:∀ i p,l <= i -> i < k -> arr[lo + i]? = some p -> lt pv p = true) :
  Up lt (bubble arr (lo + k) (lo + k - (lo + l))) lo (lo + k + 1):=fun x y u v a1 a2 a3 eu ev=>by
 rw [getElem?_bubble hs _ (by lia)] at eu ev
 rw [show lo + k - (lo + k - (lo + l)) = lo + l by lia] at eu ev
 by_cases hy:y = lo + l
 ·rw [if_pos hy,ep] at ev
  cases ev
  rw [if_neg (by lia),if_neg (by lia)] at eu
  exact h1 (x - lo) u (by lia) (by rw [show lo + (x - lo) = x by lia]; exact eu)
 rw [if_neg hy] at ev
 by_cases hx:x = lo + l
 ·rw [if_pos hx,ep] at eu
  cases eu
  rw [if_pos (by lia)] at ev
  exact o.le_of (h2 (y - 1 - lo) v (by lia) (by lia) (by rw [show lo + (y - 1 - lo) = y - 1 by lia]; exact ev))
 rw [if_neg hx] at eu
 by_cases hy2:lo + l < y /\ y <= lo + k
 ·rw [if_pos hy2] at ev
  by_cases hx2:lo + l < x /\ x <= lo + k
  ·rw [if_pos hx2] at eu
   exact h (x - 1) (y - 1) u v (by lia) (by lia) (by lia) eu ev
  ·rw [if_neg hx2] at eu
   exact h x (y - 1) u v (by lia) (by lia) (by lia) eu ev
 ·rw [if_neg hy2] at ev
  rw [if_neg (by lia)] at eu
  exact h x y u v (by lia) (by lia) (by lia) eu ev
set_option maxHeartbeats 1000000 in
theorem ZeV {lo n ok:Nat} {Q:Bool -> SortSt -> Prop} (o:Swo lt) (hc:ZfV prog w A s κ Ok lt) (hk:kindOf st = κ) (ho:∀ p ∈ (arrOf st).toList,Ok p) (hn:lo + n <= (arrOf st).size) (hok:ok <= n) (hn1:1 <= n) (hu:Up lt (arrOf st) lo (lo + ok)) (h:∀ st',Pl lo (lo + n) st st' -> Up lt (arrOf st') lo (lo + n) -> Q true st'):wpS (model prog w) A E s (binarySort' lo n ok) Q st:=by
 have hu0:Up lt (arrOf st) lo (lo + max ok 1):=by
  by_cases h0:ok = 0
  ·rw [h0]
   exact Zi2
  ·rw [show max ok 1 = ok by lia]
   exact hu
 refine wpS_bind (wpS_mono (wpS_forRange (I:=fun x c st'=>c = (none,()) /\ Pl lo (lo + n) st st' /\ Up lt (arrOf st') lo (lo + x)) (Q:=fun c st'=>c = (none,()) /\ Pl lo (lo + n) st st' /\ Up lt (arrOf st') lo (lo + n)) ?_ ?_ ⟨rfl,Pl.refl _ _ _,hu0⟩) ?_)
 ·rintro k c st1 hk1 hkn ⟨rfl,pl,u1⟩
  try dsimp only
  have hsz:=pl.pm.size
  obtain ⟨pv,epv⟩:∃ pv,(arrOf st1)[lo + k]? = some pv:=⟨_,getElem?_pos _ (lo + k) (by lia)⟩
  refine wpS_bind (wpS_mono (wpS_forRange (I:=fun y c st'=>st' = st1 /\ ∃ l r,c = (none,l,r) /\ l <= r /\ r <= k /\ (∀ i p,i < l -> (arrOf st1)[lo + i]? = some p -> Le lt p pv) /\ (∀ i p,r <= i -> i < k -> (arrOf st1)[lo + i]? = some p -> lt pv p = true) /\ r - l + y <= k)
   (Q:=fun c st'=>st' = st1 /\ ∃ l r,c = (none,l,r) /\ l = r /\ r <= k /\ (∀ i p,i < l -> (arrOf st1)[lo + i]? = some p -> Le lt p pv) /\ (∀ i p,r <= i -> i < k -> (arrOf st1)[lo + i]? = some p -> lt pv p = true)) ?_ ?_ ⟨rfl,0,k,rfl,by lia,by lia,fun i p hi=>by lia,fun i p h1 h2=>by lia,by lia⟩) ?_)
  ·rintro y c st2 _ _ ⟨rfl,l,r,rfl,h1,h2,h3,h4,h5⟩
   try dsimp only
   by_cases hlr:l >= r
   ·rw [if_pos hlr]
    exact wpS_pure ⟨rfl,l,r,rfl,by lia,h2,h3,h4⟩
   rw [if_neg hlr]
   refine wpS_bind (Zac hc (pl.pm.kind.trans hk) (pl.pm.ok ho) (by lia) (by lia) fun p q e1 e2=>?_)
   rw [epv] at e1
   cases e1
   cases hb:lt pv q with
   | true =>
    refine wpS_pure ⟨rfl,_,_,rfl,by lia,by lia,h3,fun i p hi1 hi2 ei=>?_,by lia⟩
    by_cases e:i = (l + r) / 2
    ·rw [e,e2] at ei
     cases ei
     exact hb
    ·exact o.lt_le hb (u1 _ _ q p (by lia) (show lo + (l + r) / 2 < lo + i by lia) (by lia) e2 ei)
   | false =>
    refine wpS_pure ⟨rfl,_,_,rfl,by lia,by lia,fun i p hi1 ei=>?_,h4,by lia⟩
    by_cases e:i = (l + r) / 2
    ·rw [e,e2] at ei
     cases ei
     exact hb
    ·exact o.le_trans (u1 _ _ p q (by lia) (show lo + i < lo + (l + r) / 2 by lia) (by lia) ei e2) hb
  ·rintro c st2 ⟨rfl,l,r,rfl,h1,h2,h3,h4,h5⟩
   exact ⟨rfl,l,r,rfl,by lia,h2,h3,h4⟩
  ·rintro c st2 ⟨rfl,l,r,rfl,rfl,h2,h3,h4⟩
   try dsimp only
   refine wpS_bind (Zhp ?_)
   exact wpS_pure ⟨rfl,pl.trans (Pl.bubble st2 (by lia) (by lia) (by lia) (by lia)),Zka o u1 (by lia) h2 epv h3 h4⟩
 ·rintro c st1 ⟨rfl,pl,u1⟩
  rw [show max (max ok 1) n = n by lia] at u1
  exact ⟨rfl,pl,u1⟩
 ·rintro c st1 ⟨rfl,pl,u1⟩
  exact wpS_pure (h st1 pl u1)
set_option maxHeartbeats 4000000 in
theorem Zgf {lo nrem:Nat} {Q:Option Nat -> SortSt -> Prop} (o:Swo lt) (hc:ZfV prog w A s κ Ok lt) (hk:kindOf st = κ) (ho:∀ p ∈ (arrOf st).toList,Ok p) (h1:1 <= nrem) (hn:lo + nrem <= (arrOf st).size) (h:∀ n st',1 <= n -> n <= nrem -> Pl lo (lo + nrem) st st' -> Up lt (arrOf st') lo (lo + n) -> Q (some n) st'):wpS (model prog w) A E s (countRun' lo nrem) Q st:=by
 refine wpS_bind (wpS_mono (wpS_forRange (I:=fun x c st'=>st' = st /\ ∃ n,c = (none,n) /\ n = x /\ Up lt (arrOf st) lo (lo + n)) (Q:=fun c st'=>st' = st /\ ∃ n,c = (none,n) /\ 1 <= n /\ n <= nrem /\ Up lt (arrOf st) lo (lo + n) /\ (n = nrem \/ ∀ p q,(arrOf st)[lo + n]? = some p -> (arrOf st)[lo + n - 1]? = some q -> lt p q = true)) ?_ ?_ ⟨rfl,1,rfl,rfl,Zi2⟩) ?_)
 ·rintro x c st1 hx1 hx ⟨rfl,n,rfl,rfl,u1⟩
  try dsimp only
  refine wpS_bind (Zac hc hk ho (by lia) (by lia) fun p q e1 e2=>?_)
  cases hb:lt p q with
  | true=>exact wpS_pure ⟨rfl,n,rfl,by lia,by lia,u1,.inr fun p' q' f1 f2=>by rw [e1] at f1; rw [e2] at f2; cases f1; cases f2; exact hb⟩
  | false=>exact wpS_pure ⟨rfl,n + 1,rfl,rfl,u1.ext (m:=lo + n) o (by lia) e2 e1 hb⟩
 ·rintro c st1 ⟨rfl,n,rfl,rfl,u1⟩
  exact ⟨rfl,_,rfl,by lia,by lia,u1,.inl (by lia)⟩
 ·rintro c st1 ⟨rfl,n,rfl,n1,n2,u1,hstop⟩
  try dsimp only
  by_cases e1:(n == nrem) = true
  ·rw [if_pos e1]
   exact wpS_pure (h n st1 n1 n2 (Pl.refl _ _ _) u1)
  rw [if_neg e1]
  have n3:n < nrem:=by
   have : ¬ n = nrem:=fun e=>e1 (by simp [e])
   lia
  have hstop2:=hstop.resolve_left (by lia)
  obtain ⟨pn,epn⟩:∃ p,(arrOf st1)[lo + n]? = some p:=⟨_,getElem?_pos _ (lo + n) (by lia)⟩
  obtain ⟨pm,epm⟩:∃ p,(arrOf st1)[lo + n - 1]? = some p:=⟨_,getElem?_pos _ (lo + n - 1) (by lia)⟩
  have hless:=hstop2 pn pm epn epm
  by_cases e2:n > 1
  ·rw [if_pos e2]
   refine wpS_bind (Zac hc hk ho (by lia) (by lia) fun p q f1 f2=>?_)
   cases hb:lt p q with
   | true =>
    try dsimp only
    rw [if_pos rfl]
    exact wpS_pure (h n st1 n1 n2 (Pl.refl _ _ _) u1)
   | false =>
    try dsimp only
    rw [if_neg Bool.false_ne_true]
    refine wpS_bind (ZaE ?_)
    have p2:=Pl.mirror (lo:=lo) (hi:=lo + nrem) (i:=lo) (j:=lo + n) st1 (by lia) (by lia) (by lia)
    have d2:Dn lt (arrOf (setArr st1 (mirror (arrOf st1) lo (lo + n) ((lo + n - lo) / 2)))) lo (lo + n):=u1.mirror (by lia)
    have d3:Dn lt (arrOf (setArr st1 (mirror (arrOf st1) lo (lo + n) ((lo + n - lo) / 2)))) lo (lo + (n + 1)):=by
     refine d2.ext (m:=lo + n) o (by lia) (p:=p) (q:=pn) ?_ ?_ ?_
     ·show (mirror (arrOf st1) lo (lo + n) ((lo + n - lo) / 2))[lo + n - 1]? = some p
      rw [getElem?_mirror_all (by lia),if_pos (by lia),show lo + (lo + n) - 1 - (lo + n - 1) = lo by lia]
      exact f1
     ·show (mirror (arrOf st1) lo (lo + n) ((lo + n - lo) / 2))[lo + n]? = some pn
      rw [getElem?_mirror_all (by lia),if_neg (by lia)]
      exact epn
     ·rw [epm] at f2
      cases f2
      exact o.le_trans (o.le_of hless) hb
    generalize setArr st1 (mirror (arrOf st1) lo (lo + n) ((lo + n - lo) / 2)) = st2 at p2 d3
    refine wpS_bind (wpS_lift (wpAny_rule ⟨rfl,?_⟩))
    refine wpS_bind (wpS_mono (wpS_forRange (I:=fun x c st'=>Pl lo (lo + nrem) st1 st' /\ ∃ n q,c = (none,n,q) /\ n = x /\ 1 <= n /\ q + 1 <= n /\ Dn lt (arrOf st') lo (lo + n) /\ Eqv lt (arrOf st') (lo + n - (q + 1)) (lo + n)) (Q:=fun c st'=>Pl lo (lo + nrem) st1 st' /\ ∃ n q,c = (none,n,q) /\ 1 <= n /\ n <= nrem /\ q + 1 <= n /\ Dn lt (arrOf st') lo (lo + n) /\ Eqv lt (arrOf st') (lo + n - (q + 1)) (lo + n)) ?_ ?_ ⟨p2,n + 1,0,rfl,rfl,by lia,by lia,d3,fun x y u v a1 a2 a3 a4 eu ev=>by obtain rfl:x = y:=(by lia); rw [eu] at ev; cases ev; exact o.le_refl _⟩) ?_)
    ·rintro x c st3 hx1 hx ⟨p3,n,q,rfl,rfl,m1,m2,d3,q3⟩
     have z3:=p3.pm.size
     try dsimp only
     refine wpS_bind (Zac hc (p3.pm.kind.trans hk) (p3.pm.ok ho) (by lia) (by lia) fun p1 p0 e1 e0=>?_)
     cases hb:lt p1 p0 with
     | true =>
      try dsimp only
      rw [if_pos rfl]
      by_cases q0:q > 0
      ·rw [if_pos q0]
       refine wpS_bind (ZaE ?_)
       have p4:=Pl.mirror (lo:=lo) (hi:=lo + nrem) (i:=lo + n - (q + 1)) (j:=lo + n) st3 (by lia) (by lia) (by lia)
       have d4:=d3.turn q3 (by lia) (by lia)
       refine wpS_pure ⟨p3.trans p4,n + 1,0,rfl,rfl,by lia,by lia,?_,fun x y u v a1 a2 a3 a4 eu ev=>by obtain rfl:x = y:=(by lia); rw [eu] at ev; cases ev; exact o.le_refl _⟩
       obtain ⟨p5,e5⟩:∃ p5,(arrOf (setArr st3 (mirror (arrOf st3) (lo + n - (q + 1)) (lo + n) ((lo + n - (lo + n - (q + 1))) / 2))))[lo + n - 1]? = some p5:=⟨_,getElem?_pos _ (lo + n - 1) (by show _ < (mirror _ _ _ _).size; rw [mirror_size]; lia)⟩
       refine d4.ext (m:=lo + n) o (by lia) e5 (q:=p1) ?_ ?_
       ·show (mirror (arrOf st3) (lo + n - (q + 1)) (lo + n) ((lo + n - (lo + n - (q + 1))) / 2))[lo + n]? = some p1
        rw [getElem?_mirror_all (by lia),if_neg (by lia)]
        exact e1
       ·have e6:(mirror (arrOf st3) (lo + n - (q + 1)) (lo + n) ((lo + n - (lo + n - (q + 1))) / 2))[lo + n - 1]? = some p5:=e5
        rw [getElem?_mirror_all (by lia),if_pos (by lia)] at e6
        exact o.le_trans (o.le_of hb) (q3 _ _ p0 p5 (show lo + n - (q + 1) <= lo + n - 1 by lia) (by lia) (by lia) (by lia) e0 e6)
      ·rw [if_neg q0]
       exact wpS_pure ⟨p3,n + 1,0,rfl,rfl,by lia,by lia,d3.ext (m:=lo + n) o (by lia) e0 e1 (o.le_of hb),fun x y u v a1 a2 a3 a4 eu ev=>by obtain rfl:x = y:=(by lia); rw [eu] at ev; cases ev; exact o.le_refl _⟩
     | false =>
      try dsimp only
      rw [if_neg Bool.false_ne_true]
      refine wpS_bind (Zac hc (p3.pm.kind.trans hk) (p3.pm.ok ho) (by lia) (by lia) fun p0' p1' e0' e1'=>?_)
      rw [e0] at e0'
      rw [e1] at e1'
      cases e0'
      cases e1'
      cases hb2:lt p0 p1 with
      | true=>exact wpS_pure ⟨p3,n,q,rfl,m1,by lia,m2,d3,q3⟩
      | false =>
       refine wpS_pure ⟨p3,n + 1,q + 1,rfl,rfl,by lia,by lia,d3.ext (m:=lo + n) o (by lia) e0 e1 hb2,fun x y u v a1 a2 a3 a4 eu ev=>?_⟩
       have one:∀ x u,lo + (n + 1) - (q + 1 + 1) <= x -> x < lo + (n + 1) -> (arrOf st3)[x]? = some u -> Le lt u p0 /\ Le lt p0 u:=fun x u a1 a2 eu=>by
        by_cases hx:x = lo + n
        ·rw [hx,e1] at eu
         cases eu
         exact ⟨hb2,hb⟩
        ·exact ⟨q3 x (lo + n - 1) u p0 (by lia) (by lia) (by lia) (by lia) eu e0,q3 (lo + n - 1) x p0 u (by lia) (by lia) (by lia) (by lia) e0 eu⟩
       exact o.le_trans (one x u a1 a2 eu).1 (one y v a3 a4 ev).2
    ·rintro c st3 ⟨p3,n',q,rfl,rfl,m1,m2,d3,q3⟩
     exact ⟨p3,_,q,rfl,m1,by lia,m2,d3,q3⟩
    ·rintro c st3 ⟨p3,n,q,rfl,m1,mn,m2,d3,q3⟩
     have z3:=p3.pm.size
     try dsimp only
     by_cases q0:q > 0
     ·rw [if_pos q0]
      refine wpS_bind (ZaE ?_)
      have p4:=Pl.mirror (lo:=lo) (hi:=lo + nrem) (i:=lo + n - (q + 1)) (j:=lo + n) st3 (by lia) (by lia) (by lia)
      have d4:=d3.turn q3 (by lia) (by lia)
      have z4:=p4.pm.size
      generalize hst4:setArr st3 (mirror (arrOf st3) (lo + n - (q + 1)) (lo + n) ((lo + n - (lo + n - (q + 1))) / 2)) = st4 at p4 z4
      have d5:Dn lt (arrOf st4) lo (lo + n):=by rw [<- hst4]; exact d4
      refine wpS_bind (ZaE ?_)
      have p6:=(p3.trans p4).trans (Pl.mirror (lo:=lo) (hi:=lo + nrem) (i:=lo) (j:=lo + n) st4 (by lia) (by lia) (by lia))
      have u6:Up lt (arrOf (setArr st4 (mirror (arrOf st4) lo (lo + n) ((lo + n - lo) / 2)))) lo (lo + n):=d5.mirror (by lia)
      have z6:=p6.pm.size
      generalize setArr st4 (mirror (arrOf st4) lo (lo + n) ((lo + n - lo) / 2)) = st5 at p6 u6 z6
      refine wpS_bind (wpS_mono (wpS_forRange (I:=fun x c st'=>st' = st5 /\ ∃ k,c = (none,k) /\ k = x /\ Up lt (arrOf st5) lo (lo + k)) (Q:=fun c st'=>st' = st5 /\ ∃ k,c = (none,k) /\ n <= k /\ k <= nrem /\ Up lt (arrOf st5) lo (lo + k)) ?_ ?_ ⟨rfl,n,rfl,rfl,u6⟩) ?_)
      ·rintro x c st7 hx1 hx2 ⟨rfl,k,rfl,rfl,u7⟩
       try dsimp only
       refine wpS_bind (Zac hc (p6.pm.kind.trans hk) (p6.pm.ok ho) (by lia) (by lia) fun p q e1 e2=>?_)
       cases hb:lt p q with
       | true=>exact wpS_pure ⟨rfl,k,rfl,by lia,by lia,u7⟩
       | false=>exact wpS_pure ⟨rfl,k + 1,rfl,rfl,u7.ext (m:=lo + k) o (by lia) e2 e1 hb⟩
      ·rintro c st7 ⟨rfl,k,rfl,rfl,u7⟩
       exact ⟨rfl,max n nrem,rfl,by lia,by lia,u7⟩
      ·rintro c st7 ⟨rfl,k,rfl,k1,k2,u7⟩
       exact wpS_pure (h k _ (by lia) k2 p6 u7)
     ·rw [if_neg q0]
      refine wpS_bind (ZaE ?_)
      have p6:=p3.trans (Pl.mirror (lo:=lo) (hi:=lo + nrem) (i:=lo) (j:=lo + n) st3 (by lia) (by lia) (by lia))
      have u6:Up lt (arrOf (setArr st3 (mirror (arrOf st3) lo (lo + n) ((lo + n - lo) / 2)))) lo (lo + n):=d3.mirror (by lia)
      have z6:=p6.pm.size
      generalize setArr st3 (mirror (arrOf st3) lo (lo + n) ((lo + n - lo) / 2)) = st5 at p6 u6 z6
      refine wpS_bind (wpS_mono (wpS_forRange (I:=fun x c st'=>st' = st5 /\ ∃ k,c = (none,k) /\ k = x /\ Up lt (arrOf st5) lo (lo + k)) (Q:=fun c st'=>st' = st5 /\ ∃ k,c = (none,k) /\ n <= k /\ k <= nrem /\ Up lt (arrOf st5) lo (lo + k)) ?_ ?_ ⟨rfl,n,rfl,rfl,u6⟩) ?_)
      ·rintro x c st7 hx1 hx2 ⟨rfl,k,rfl,rfl,u7⟩
       try dsimp only
       refine wpS_bind (Zac hc (p6.pm.kind.trans hk) (p6.pm.ok ho) (by lia) (by lia) fun p q e1 e2=>?_)
       cases hb:lt p q with
       | true=>exact wpS_pure ⟨rfl,k,rfl,by lia,by lia,u7⟩
       | false=>exact wpS_pure ⟨rfl,k + 1,rfl,rfl,u7.ext (m:=lo + k) o (by lia) e2 e1 hb⟩
      ·rintro c st7 ⟨rfl,k,rfl,rfl,u7⟩
       exact ⟨rfl,max n nrem,rfl,by lia,by lia,u7⟩
      ·rintro c st7 ⟨rfl,k,rfl,k1,k2,u7⟩
       exact wpS_pure (h k _ (by lia) k2 p6 u7)
  ·rw [if_neg e2]
   have p2:=Pl.refl lo (lo + nrem) st1
   have d3:Dn lt (arrOf st1) lo (lo + (n + 1)):=by
    obtain rfl:n = 1:=by lia
    exact ZjZ.ext (m:=lo + 1) o (by lia) epm epn (o.le_of hless)
   refine wpS_bind (wpS_lift (wpAny_rule ⟨rfl,?_⟩))
   refine wpS_bind (wpS_mono (wpS_forRange (I:=fun x c st'=>Pl lo (lo + nrem) st1 st' /\ ∃ n q,c = (none,n,q) /\ n = x /\ 1 <= n /\ q + 1 <= n /\ Dn lt (arrOf st') lo (lo + n) /\ Eqv lt (arrOf st') (lo + n - (q + 1)) (lo + n)) (Q:=fun c st'=>Pl lo (lo + nrem) st1 st' /\ ∃ n q,c = (none,n,q) /\ 1 <= n /\ n <= nrem /\ q + 1 <= n /\ Dn lt (arrOf st') lo (lo + n) /\ Eqv lt (arrOf st') (lo + n - (q + 1)) (lo + n)) ?_ ?_ ⟨p2,n + 1,0,rfl,rfl,by lia,by lia,d3,fun x y u v a1 a2 a3 a4 eu ev=>by obtain rfl:x = y:=(by lia); rw [eu] at ev; cases ev; exact o.le_refl _⟩) ?_)
   ·rintro x c st3 hx1 hx ⟨p3,n,q,rfl,rfl,m1,m2,d3,q3⟩
    have z3:=p3.pm.size
    try dsimp only
    refine wpS_bind (Zac hc (p3.pm.kind.trans hk) (p3.pm.ok ho) (by lia) (by lia) fun p1 p0 e1 e0=>?_)
    cases hb:lt p1 p0 with
    | true =>
     try dsimp only
     rw [if_pos rfl]
     by_cases q0:q > 0
     ·rw [if_pos q0]
      refine wpS_bind (ZaE ?_)
      have p4:=Pl.mirror (lo:=lo) (hi:=lo + nrem) (i:=lo + n - (q + 1)) (j:=lo + n) st3 (by lia) (by lia) (by lia)
      have d4:=d3.turn q3 (by lia) (by lia)
      refine wpS_pure ⟨p3.trans p4,n + 1,0,rfl,rfl,by lia,by lia,?_,fun x y u v a1 a2 a3 a4 eu ev=>by obtain rfl:x = y:=(by lia); rw [eu] at ev; cases ev; exact o.le_refl _⟩
      obtain ⟨p5,e5⟩:∃ p5,(arrOf (setArr st3 (mirror (arrOf st3) (lo + n - (q + 1)) (lo + n) ((lo + n - (lo + n - (q + 1))) / 2))))[lo + n - 1]? = some p5:=⟨_,getElem?_pos _ (lo + n - 1) (by show _ < (mirror _ _ _ _).size; rw [mirror_size]; lia)⟩
      refine d4.ext (m:=lo + n) o (by lia) e5 (q:=p1) ?_ ?_
      ·show (mirror (arrOf st3) (lo + n - (q + 1)) (lo + n) ((lo + n - (lo + n - (q + 1))) / 2))[lo + n]? = some p1
       rw [getElem?_mirror_all (by lia),if_neg (by lia)]
       exact e1
      ·have e6:(mirror (arrOf st3) (lo + n - (q + 1)) (lo + n) ((lo + n - (lo + n - (q + 1))) / 2))[lo + n - 1]? = some p5:=e5
       rw [getElem?_mirror_all (by lia),if_pos (by lia)] at e6
       exact o.le_trans (o.le_of hb) (q3 _ _ p0 p5 (show lo + n - (q + 1) <= lo + n - 1 by lia) (by lia) (by lia) (by lia) e0 e6)
     ·rw [if_neg q0]
      exact wpS_pure ⟨p3,n + 1,0,rfl,rfl,by lia,by lia,d3.ext (m:=lo + n) o (by lia) e0 e1 (o.le_of hb),fun x y u v a1 a2 a3 a4 eu ev=>by obtain rfl:x = y:=(by lia); rw [eu] at ev; cases ev; exact o.le_refl _⟩
    | false =>
     try dsimp only
     rw [if_neg Bool.false_ne_true]
     refine wpS_bind (Zac hc (p3.pm.kind.trans hk) (p3.pm.ok ho) (by lia) (by lia) fun p0' p1' e0' e1'=>?_)
     rw [e0] at e0'
     rw [e1] at e1'
     cases e0'
     cases e1'
     cases hb2:lt p0 p1 with
     | true=>exact wpS_pure ⟨p3,n,q,rfl,m1,by lia,m2,d3,q3⟩
     | false =>
      refine wpS_pure ⟨p3,n + 1,q + 1,rfl,rfl,by lia,by lia,d3.ext (m:=lo + n) o (by lia) e0 e1 hb2,fun x y u v a1 a2 a3 a4 eu ev=>?_⟩
      have one:∀ x u,lo + (n + 1) - (q + 1 + 1) <= x -> x < lo + (n + 1) -> (arrOf st3)[x]? = some u -> Le lt u p0 /\ Le lt p0 u:=fun x u a1 a2 eu=>by
       by_cases hx:x = lo + n
       ·rw [hx,e1] at eu
        cases eu
        exact ⟨hb2,hb⟩
       ·exact ⟨q3 x (lo + n - 1) u p0 (by lia) (by lia) (by lia) (by lia) eu e0,q3 (lo + n - 1) x p0 u (by lia) (by lia) (by lia) (by lia) e0 eu⟩
      exact o.le_trans (one x u a1 a2 eu).1 (one y v a3 a4 ev).2
   ·rintro c st3 ⟨p3,n',q,rfl,rfl,m1,m2,d3,q3⟩
    exact ⟨p3,_,q,rfl,m1,by lia,m2,d3,q3⟩
   ·rintro c st3 ⟨p3,n,q,rfl,m1,mn,m2,d3,q3⟩
    have z3:=p3.pm.size
    try dsimp only
    by_cases q0:q > 0
    ·rw [if_pos q0]
     refine wpS_bind (ZaE ?_)
     have p4:=Pl.mirror (lo:=lo) (hi:=lo + nrem) (i:=lo + n - (q + 1)) (j:=lo + n) st3 (by lia) (by lia) (by lia)
     have d4:=d3.turn q3 (by lia) (by lia)
     have z4:=p4.pm.size
     generalize hst4:setArr st3 (mirror (arrOf st3) (lo + n - (q + 1)) (lo + n) ((lo + n - (lo + n - (q + 1))) / 2)) = st4 at p4 z4
     have d5:Dn lt (arrOf st4) lo (lo + n):=by rw [<- hst4]; exact d4
     refine wpS_bind (ZaE ?_)
     have p6:=(p3.trans p4).trans (Pl.mirror (lo:=lo) (hi:=lo + nrem) (i:=lo) (j:=lo + n) st4 (by lia) (by lia) (by lia))
     have u6:Up lt (arrOf (setArr st4 (mirror (arrOf st4) lo (lo + n) ((lo + n - lo) / 2)))) lo (lo + n):=d5.mirror (by lia)
     have z6:=p6.pm.size
     generalize setArr st4 (mirror (arrOf st4) lo (lo + n) ((lo + n - lo) / 2)) = st5 at p6 u6 z6
     refine wpS_bind (wpS_mono (wpS_forRange (I:=fun x c st'=>st' = st5 /\ ∃ k,c = (none,k) /\ k = x /\ Up lt (arrOf st5) lo (lo + k)) (Q:=fun c st'=>st' = st5 /\ ∃ k,c = (none,k) /\ n <= k /\ k <= nrem /\ Up lt (arrOf st5) lo (lo + k)) ?_ ?_ ⟨rfl,n,rfl,rfl,u6⟩) ?_)
     ·rintro x c st7 hx1 hx2 ⟨rfl,k,rfl,rfl,u7⟩
      try dsimp only
      refine wpS_bind (Zac hc (p6.pm.kind.trans hk) (p6.pm.ok ho) (by lia) (by lia) fun p q e1 e2=>?_)
      cases hb:lt p q with
      | true=>exact wpS_pure ⟨rfl,k,rfl,by lia,by lia,u7⟩
      | false=>exact wpS_pure ⟨rfl,k + 1,rfl,rfl,u7.ext (m:=lo + k) o (by lia) e2 e1 hb⟩
     ·rintro c st7 ⟨rfl,k,rfl,rfl,u7⟩
      exact ⟨rfl,max n nrem,rfl,by lia,by lia,u7⟩
     ·rintro c st7 ⟨rfl,k,rfl,k1,k2,u7⟩
      exact wpS_pure (h k _ (by lia) k2 p6 u7)
    ·rw [if_neg q0]
     refine wpS_bind (ZaE ?_)
     have p6:=p3.trans (Pl.mirror (lo:=lo) (hi:=lo + nrem) (i:=lo) (j:=lo + n) st3 (by lia) (by lia) (by lia))
     have u6:Up lt (arrOf (setArr st3 (mirror (arrOf st3) lo (lo + n) ((lo + n - lo) / 2)))) lo (lo + n):=d3.mirror (by lia)
     have z6:=p6.pm.size
     generalize setArr st3 (mirror (arrOf st3) lo (lo + n) ((lo + n - lo) / 2)) = st5 at p6 u6 z6
     refine wpS_bind (wpS_mono (wpS_forRange (I:=fun x c st'=>st' = st5 /\ ∃ k,c = (none,k) /\ k = x /\ Up lt (arrOf st5) lo (lo + k)) (Q:=fun c st'=>st' = st5 /\ ∃ k,c = (none,k) /\ n <= k /\ k <= nrem /\ Up lt (arrOf st5) lo (lo + k)) ?_ ?_ ⟨rfl,n,rfl,rfl,u6⟩) ?_)
     ·rintro x c st7 hx1 hx2 ⟨rfl,k,rfl,rfl,u7⟩
      try dsimp only
      refine wpS_bind (Zac hc (p6.pm.kind.trans hk) (p6.pm.ok ho) (by lia) (by lia) fun p q e1 e2=>?_)
      cases hb:lt p q with
      | true=>exact wpS_pure ⟨rfl,k,rfl,by lia,by lia,u7⟩
      | false=>exact wpS_pure ⟨rfl,k + 1,rfl,rfl,u7.ext (m:=lo + k) o (by lia) e2 e1 hb⟩
     ·rintro c st7 ⟨rfl,k,rfl,rfl,u7⟩
      exact ⟨rfl,max n nrem,rfl,by lia,by lia,u7⟩
     ·rintro c st7 ⟨rfl,k,rfl,k1,k2,u7⟩
      exact wpS_pure (h k _ (by lia) k2 p6 u7)
end
end Srd
namespace Srd
open PySem PyProof.Rows Srt
theorem ZhT:∀ {l:List (Nat × Nat × Nat)} {lo hi:Nat},Cov l lo hi -> ∀ z ∈ l,lo <= z.1
 | [],_,_,_,z,hz=>(nomatch hz)
 | x :: r,lo,hi,⟨a,b,c⟩,z,hz=>by
  rcases List.mem_cons.mp hz with rfl | hz
  ·lia
  ·have:=ZhT c z hz
   lia
theorem ZiW:∀ {l:List (Nat × Nat × Nat)} {lo hi:Nat},Cov l lo hi -> ∀ z ∈ l,z.1 + z.2.1 <= hi
 | [],_,_,_,z,hz=>(nomatch hz)
 | x :: r,lo,hi,⟨a,b,c⟩,z,hz=>by
  rcases List.mem_cons.mp hz with rfl | hz
  ·have:=c.le
   lia
  ·exact ZiW c z hz
theorem Zc4:∀ {l:List (Nat × Nat × Nat)} {i lo hi sa na p sb nb q:Nat},Cov l lo hi -> l[i]? = some (sa,na,p) -> l[i + 1]? = some (sb,nb,q) ->
  ∀ z ∈ (l.set i (sa,na + nb,p)).eraseIdx (i + 1),z = (sa,na + nb,p) \/ z ∈ l /\ (z.1 + z.2.1 <= sa \/ sb + nb <= z.1)
 | x :: y :: r,0,lo,hi,sa,na,p,sb,nb,q,⟨a,b,c1,c2,c3⟩,h1,h2,z,hz=>by
  have e1:x = (sa,na,p):=by simpa using h1
  have e2:y = (sb,nb,q):=by simpa using h2
  subst e1
  subst e2
  have hz':z ∈ (sa,na + nb,p) :: r:=hz
  rcases List.mem_cons.mp hz' with hz | hz
  ·exact .inl hz
  ·refine .inr ⟨List.mem_cons_of_mem _ (List.mem_cons_of_mem _ hz),.inr ?_⟩
   have:=ZhT c3 z hz
   have c1':sb = lo + na:=c1
   have this':lo + na + nb <= z.1:=this
   lia
 | x :: r,i + 1,lo,hi,sa,na,p,sb,nb,q,⟨a,b,c⟩,h1,h2,z,hz=>by
  have h1':r[i]? = some (sa,na,p):=by simpa using h1
  have hz':z ∈ x :: ((r.set i (sa,na + nb,p)).eraseIdx (i + 1)):=hz
  rcases List.mem_cons.mp hz' with rfl | hz
  ·refine .inr ⟨List.mem_cons_self ..,.inl ?_⟩
   have:=ZhT c _ (List.mem_of_getElem? h1')
   have this':lo + z.2.1 <= sa:=this
   lia
  ·rcases Zc4 (l:=r) (i:=i) c h1' (by simpa using h2) z hz with h | ⟨h,h'⟩
   ·exact .inl h
   ·exact .inr ⟨List.mem_cons_of_mem _ h,h'⟩
 | [x],0,_,_,_,_,_,_,_,_,_,_,h2,_,_=>by simp at h2
 | [],_,_,_,_,_,_,_,_,_,_,h1,_,_,_=>by simp at h1
theorem Zf8 {L r:List Keyed} {m:Nat} (h:m + r.length <= L.length) (x:Nat):(L.take m ++ r ++ L.drop (m + r.length))[x]? = if x < m then L[x]? else if x < m + r.length then r[x - m]? else L[x]? := by
 have hm:(L.take m).length = m:=by rw [List.length_take]; lia
 by_cases h1:x < m
 ·rw [if_pos h1,List.append_assoc,List.getElem?_append_left (by lia),List.getElem?_take_of_lt h1]
 rw [if_neg h1]
 by_cases h2:x < m + r.length
 ·rw [if_pos h2,List.getElem?_append_left (by rw [List.length_append]; lia),List.getElem?_append_right (by lia),hm]
 ·rw [if_neg h2,List.getElem?_append_right (by rw [List.length_append]; lia),List.getElem?_drop,List.length_append,hm]
  congr 1
  lia
section
variable {lt:Keyed -> Keyed -> Bool} {κ : SortKind}
structure SBL (lt:Keyed -> Keyed -> Bool) (a₀ : Array Keyed) (κ : SortKind) (hi:Nat) (st:SortSt):Prop where
 sb:SB a₀ κ hi st
 ups:∀ z ∈ (pendingOf st).toList,Up lt (arrOf st) z.1 (z.1 + z.2.1)
theorem Up.same {arr arr':Array Keyed} {i j:Nat} (h:Up lt arr i j) (e:∀ x,i <= x -> x < j -> arr'[x]? = arr[x]?):Up lt arr' i j:=fun x y p q h1 h2 h3 ep eq=>by
 rw [e x (by lia) (by lia)] at ep
 rw [e y (by lia) (by lia)] at eq
 exact h x y p q h1 h2 h3 ep eq
theorem SBL.pl {a₀ : Array Keyed} {hi hi':Nat} {st st':SortSt} (x:SBL lt a₀ κ hi st) (p:Pl hi hi' st st'):SBL lt a₀ κ hi st':=⟨x.sb.pm p.pm,fun z hz=>by
 rw [p.pm.pend] at hz
 have h1:=ZiW x.sb.cov z hz
 exact (x.ups z hz).same fun i _ h=>p.out i (.inl (by lia))⟩
end
end Srd
namespace Srd
open PySem PyProof.Rows Srt
section
variable {prog:Program} {w:World} {A:Around} {E:Value -> Shared -> Prop} {s:Shared} {κ : SortKind} {Ok:Keyed -> Prop} {st:SortSt} {lt:Keyed -> Keyed -> Bool}
set_option maxHeartbeats 4000000 in
theorem Zbe {a₀ : Array Keyed} {hi i:Nat} {Q:Bool -> SortSt -> Prop} (o:Swo lt) (hc:ZfV prog w A s κ Ok lt) (h0:∀ p ∈ a₀.toList,Ok p) (hL:SBL lt a₀ κ hi st) (hh:hi <= a₀.size) (hi1:i + 1 < (pendingOf st).size)
  (h:∀ st',SBL lt a₀ κ hi st' -> (∀ x,hi <= x -> (arrOf st')[x]? = (arrOf st)[x]?) -> (pendingOf st').size + 1 = (pendingOf st).size -> Q true st'):wpS (model prog w) A E s (mergeAt' i) Q st:=by
 have hB:=hL.sb
 refine wpS_bind (wpS_get ?_)
 obtain ⟨⟨sa,na,p⟩,e1⟩:∃ x,(pendingOf st)[i]? = some x:=⟨_,getElem?_pos _ i (by lia)⟩
 obtain ⟨⟨sb,nb,q⟩,e2⟩:∃ x,(pendingOf st)[i + 1]? = some x:=⟨_,getElem?_pos _ (i + 1) hi1⟩
 obtain ⟨k1,k2,k3,k4,k5⟩:=hB.cov.at (i:=i) (by rw [<- e1]; simp) (by rw [<- e2]; simp)
 have e3:((pendingOf st)[i]?,(pendingOf st)[i + 1]?) = (some (sa,na,p),some (sb,nb,q)):=by rw [e1,e2]
 have hsz:=hB.size
 have l1:(pendingOf st).toList[i]? = some (sa,na,p):=by rw [<- e1]; simp
 have l2:(pendingOf st).toList[i + 1]? = some (sb,nb,q):=by rw [<- e2]; simp
 have ua:Up lt (arrOf st) sa (sa + na):=hL.ups _ (List.mem_of_getElem? l1)
 have ub:Up lt (arrOf st) sb (sb + nb):=hL.ups _ (List.mem_of_getElem? l2)
 have oth:=Zc4 hB.cov l1 l2
 show wpS _ _ _ _ (match ((pendingOf st)[i]?,(pendingOf st)[i + 1]?) with | (some (sa,na,power),some (sb,nb,_))=>_ | _=>_) Q st
 rw [e1,e2]
 dsimp only
 have hpl:(((pendingOf st).setIfInBounds i (sa,na + nb,p)).eraseIdxIfInBounds (i + 1)).toList = ((pendingOf st).toList.set i (sa,na + nb,p)).eraseIdx (i + 1):=by
  simp
 have hps:((((pendingOf st).setIfInBounds i (sa,na + nb,p)).eraseIdxIfInBounds (i + 1)).size + 1 = (pendingOf st).size):=by
  have:=congrArg List.length hpl
  rw [Array.length_toList,List.length_eraseIdx,List.length_set,Array.length_toList,if_pos hi1] at this
  lia
 have hB1:SB a₀ κ hi (SortSt.mk' (kindOf st) (arrOf st) (((pendingOf st).setIfInBounds i (sa,na + nb,p)).eraseIdxIfInBounds (i + 1)) (gallopOf st) (failedOf st)):=⟨hB.arr,hB.kind,hB.fail,by
  show Cov (((pendingOf st).setIfInBounds i (sa,na + nb,p)).eraseIdxIfInBounds (i + 1)).toList 0 hi
  rw [hpl]
  exact k5⟩
 have hok:=hB.ok h0
 have fin:∀ st':SortSt,SB a₀ κ hi st' -> (pendingOf st').toList = ((pendingOf st).toList.set i (sa,na + nb,p)).eraseIdx (i + 1) -> (∀ x,x < sa \/ sb + nb <= x -> (arrOf st')[x]? = (arrOf st)[x]?) -> Up lt (arrOf st') sa (sa + (na + nb)) -> SBL lt a₀ κ hi st':=fun st' hB' hp he hu=>⟨hB',fun z hz=>by
  rw [hp] at hz
  rcases oth z hz with rfl | ⟨hz,hd⟩
  ·exact hu
  ·exact (hL.ups z hz).same fun x h1 h2=>he x (by lia)⟩
 have exm:∀ (arr:Array Keyed) (x y:Nat) {p:Keyed},p ∈ (arr.extract x y).toList -> p ∈ arr.toList:=fun arr x y p hp=>by
  rw [Array.toList_extract,List.extract_eq_drop_take] at hp
  exact List.mem_of_mem_drop (List.mem_of_mem_take hp)
 refine wpS_bind (Zjv ?_)
 refine wpS_bind (Zu (arr:=arrOf st) (by lia) fun p1 m1 ep1=>?_)
 refine wpS_bind (Zaa (a:=arrOf st) o hc hB1.kind (hok p1 m1) hok (by lia) (by lia) ua fun k hk F1 F2=>?_)
 dsimp only
 have low1:∀ i u,i < k -> (arrOf st)[sa + i]? = some u -> Le lt u p1:=fun i u hi eu=>by
  have h3:=F1 i hi
  unfold BV at h3
  rw [eu] at h3
  have h4:(!lt p1 u) = true:=h3
  show lt p1 u = false
  simpa using h4
 have hig1:∀ i u,k <= i -> i < na -> (arrOf st)[sa + i]? = some u -> Le lt p1 u:=fun i u h1 h2 eu=>by
  have h3:=F2 i h1 h2
  unfold BV at h3
  rw [eu] at h3
  have h4:(!lt p1 u) = false:=h3
  exact o.le_of (by simpa using h4)
 have p1le:∀ y v,sb <= y -> y < sb + nb -> (arrOf st)[y]? = some v -> Le lt p1 v:=fun y v h1 h2 ev=>by
  by_cases e:y = sb
  ·rw [e,ep1] at ev
   cases ev
   exact o.le_refl _
  ·exact ub sb y p1 v (by lia) (by lia) h2 ep1 ev
 by_cases c1:(na - k == 0) = true
 ·rw [if_pos c1]
  have ek:k = na:=by
   have:=eq_of_beq c1
   lia
  refine wpS_pure (h _ (fin _ hB1 hpl (fun _ _=>rfl) ?_) (fun _ _=>rfl) hps)
  intro x y u v a1 a2 a3 eu ev
  have eu':(arrOf st)[x]? = some u:=eu
  have ev':(arrOf st)[y]? = some v:=ev
  by_cases hy:y < sb
  ·exact ua x y u v a1 a2 (by lia) eu' ev'
  by_cases hx:sb <= x
  ·exact ub x y u v hx a2 (by lia) eu' ev'
  exact o.le_trans (low1 (x - sa) u (by lia) (by rw [show sa + (x - sa) = x by lia]; exact eu')) (p1le y v (by lia) (by lia) ev')
 rw [if_neg c1]
 have n1 : ¬ na - k = 0:=fun e=>c1 (by simp [e])
 refine wpS_bind (Zu (arr:=arrOf st) (by lia) fun p2 m2 ep2=>?_)
 refine wpS_bind (Zaa (a:=arrOf st) o hc hB1.kind (hok p2 m2) hok (by lia) (by lia) ub fun nb' hnb G1 G2=>?_)
 dsimp only
 have ep2':(arrOf st)[sb - 1]? = some p2:=by
  rw [<- ep2]
  congr 1
  lia
 have lep2:∀ x u,sa <= x -> x < sb -> (arrOf st)[x]? = some u -> Le lt u p2:=fun x u h1 h2 eu=>by
  by_cases e:x = sb - 1
  ·rw [e,ep2'] at eu
   cases eu
   exact o.le_refl _
  ·exact ua x (sb - 1) u p2 h1 (by lia) (by lia) eu ep2'
 have low2:∀ i u,i < nb' -> (arrOf st)[sb + i]? = some u -> Le lt u p2:=fun i u hi eu=>by
  have h3:=G1 i hi
  unfold BV at h3
  rw [eu] at h3
  exact o.le_of h3
 have hig2:∀ i u,nb' <= i -> i < nb -> (arrOf st)[sb + i]? = some u -> Le lt p2 u:=fun i u h1 h2 eu=>by
  have h3:=G2 i h1 h2
  unfold BV at h3
  rw [eu] at h3
  exact h3
 by_cases c2:(nb' == 0) = true
 ·rw [if_pos c2]
  have ek:nb' = 0:=eq_of_beq c2
  refine wpS_pure (h _ (fin _ hB1 hpl (fun _ _=>rfl) ?_) (fun _ _=>rfl) hps)
  intro x y u v a1 a2 a3 eu ev
  have eu':(arrOf st)[x]? = some u:=eu
  have ev':(arrOf st)[y]? = some v:=ev
  by_cases hy:y < sb
  ·exact ua x y u v a1 a2 (by lia) eu' ev'
  by_cases hx:sb <= x
  ·exact ub x y u v hx a2 (by lia) eu' ev'
  exact o.le_trans (lep2 x u a1 (by lia) eu') (hig2 (y - sb) v (by lia) (by lia) (by rw [show sb + (y - sb) = y by lia]; exact ev'))
 rw [if_neg c2]
 have n2 : ¬ nb' = 0:=fun e=>c2 (by simp [e])
 have xs:((arrOf st).extract (sa + k) sb).size = na - k:=by
  rw [Array.size_extract]
  lia
 have ys:((arrOf st).extract sb (sb + nb')).size = nb':=by
  rw [Array.size_extract]
  lia
 have SX:So lt ((arrOf st).extract (sa + k) sb).toList:=List.pairwise_iff_getElem.mpr fun x y hx hy hxy=>by
  rw [Array.length_toList] at hx hy
  have ex:((arrOf st).extract (sa + k) sb)[x]? = (arrOf st)[sa + k + x]? := by rw [Array.getElem?_extract,if_pos (by lia)]
  have ey:((arrOf st).extract (sa + k) sb)[y]? = (arrOf st)[sa + k + y]? := by rw [Array.getElem?_extract,if_pos (by lia)]
  rw [<- Array.getElem?_toList,List.getElem?_eq_getElem (by rw [Array.length_toList]; exact hx)] at ex
  rw [<- Array.getElem?_toList,List.getElem?_eq_getElem (by rw [Array.length_toList]; exact hy)] at ey
  exact ua _ _ _ _ (by lia) (show sa + k + x < sa + k + y by lia) (by lia) ex.symm ey.symm
 have SY:So lt ((arrOf st).extract sb (sb + nb')).toList:=List.pairwise_iff_getElem.mpr fun x y hx hy hxy=>by
  rw [Array.length_toList] at hx hy
  have ex:((arrOf st).extract sb (sb + nb'))[x]? = (arrOf st)[sb + x]? := by rw [Array.getElem?_extract,if_pos (by lia)]
  have ey:((arrOf st).extract sb (sb + nb'))[y]? = (arrOf st)[sb + y]? := by rw [Array.getElem?_extract,if_pos (by lia)]
  rw [<- Array.getElem?_toList,List.getElem?_eq_getElem (by rw [Array.length_toList]; exact hx)] at ex
  rw [<- Array.getElem?_toList,List.getElem?_eq_getElem (by rw [Array.length_toList]; exact hy)] at ey
  exact ub _ _ _ _ (by lia) (show sb + x < sb + y by lia) (by lia) ex.symm ey.symm
 have HB0:∀ p,((arrOf st).extract sb (sb + nb'))[0]? = some p -> ∀ y ∈ ((arrOf st).extract (sa + k) sb).toList,Le lt p y:=fun p ep y hy=>by
  rw [Array.getElem?_extract,if_pos (by lia),Nat.add_zero,ep1] at ep
  cases ep
  obtain ⟨m,h1,h2,e⟩:=Zbj hy
  exact hig1 (m - sa) y (by lia) (by lia) (by rw [show sa + (m - sa) = m by lia]; exact e)
 have HLA:∀ x ∈ ((arrOf st).extract sb (sb + nb')).toList,∀ q,((arrOf st).extract (sa + k) sb)[((arrOf st).extract (sa + k) sb).size - 1]? = some q -> Le lt x q:=fun x hx q eq=>by
  rw [xs,Array.getElem?_extract,if_pos (by lia),show sa + k + (na - k - 1) = sb - 1 by lia,ep2'] at eq
  cases eq
  obtain ⟨m,h1,h2,e⟩:=Zbj hx
  exact low2 (m - sb) x (by lia) (by rw [show sb + (m - sb) = m by lia]; exact e)
 have whole:∀ (r:Array Keyed) (arr':Array Keyed),Rs lt ((arrOf st).extract (sa + k) sb) ((arrOf st).extract sb (sb + nb')) r -> r.toList.length = (na - k) + nb' -> arr'.toList = (arrOf st).toList.take (sa + k) ++ r.toList ++ (arrOf st).toList.drop (sa + k + r.toList.length) ->
   (∀ x,x < sa \/ sb + nb <= x -> arr'[x]? = (arrOf st)[x]?) /\ Up lt arr' sa (sa + (na + nb)):=fun r arr' hr hrl ha=>by
  have get:∀ x,arr'[x]? = if x < sa + k then (arrOf st)[x]? else if x < sa + k + r.toList.length then r.toList[x - (sa + k)]? else (arrOf st)[x]? := fun x=>by
   rw [<- Array.getElem?_toList,ha,Zf8 (by have hll:(arrOf st).toList.length = (arrOf st).size:=Array.length_toList; lia),Array.getElem?_toList]
  have inr:∀ u,u ∈ r.toList -> (∃ m,sa + k <= m /\ m < sb /\ (arrOf st)[m]? = some u) \/ ∃ m,sb <= m /\ m < sb + nb' /\ (arrOf st)[m]? = some u:=fun u hu=>by
   rcases List.mem_append.mp (hr.perm.mem_iff.mp hu) with hu | hu
   ·exact .inl (Zbj hu)
   ·exact .inr (Zbj hu)
  refine ⟨fun x hx=>?_,fun x y u v a1 a2 a3 eu ev=>?_⟩
  ·rw [get]
   by_cases h1:x < sa + k
   ·rw [if_pos h1]
   ·rw [if_neg h1,if_neg (by lia)]
  rw [get] at eu ev
  by_cases hx1:x < sa + k
  ·rw [if_pos hx1] at eu
   have hu1:=low1 (x - sa) u (by lia) (by rw [show sa + (x - sa) = x by lia]; exact eu)
   by_cases hy1:y < sa + k
   ·rw [if_pos hy1] at ev
    exact ua x y u v a1 a2 (by lia) eu ev
   rw [if_neg hy1] at ev
   by_cases hy2:y < sa + k + r.toList.length
   ·rw [if_pos hy2] at ev
    rcases inr v (List.mem_of_getElem? ev) with ⟨m,b1,b2,e⟩ | ⟨m,b1,b2,e⟩
    ·exact ua x m u v a1 (by lia) (by lia) eu e
    ·exact o.le_trans hu1 (p1le m v b1 (by lia) e)
   ·rw [if_neg hy2] at ev
    exact o.le_trans hu1 (p1le y v (by lia) (by lia) ev)
  rw [if_neg hx1] at eu
  rw [if_neg (by lia)] at ev
  by_cases hx2:x < sa + k + r.toList.length
  ·rw [if_pos hx2] at eu
   by_cases hy2:y < sa + k + r.toList.length
   ·rw [if_pos hy2] at ev
    obtain ⟨hx3,rfl⟩:=List.getElem?_eq_some_iff.mp eu
    obtain ⟨hy3,rfl⟩:=List.getElem?_eq_some_iff.mp ev
    exact (List.pairwise_iff_getElem.mp hr.sort) _ _ hx3 hy3 (by lia)
   ·rw [if_neg hy2] at ev
    rcases inr u (List.mem_of_getElem? eu) with ⟨m,b1,b2,e⟩ | ⟨m,b1,b2,e⟩
    ·exact o.le_trans (lep2 m u (by lia) b2 e) (hig2 (y - sb) v (by lia) (by lia) (by rw [show sb + (y - sb) = y by lia]; exact ev))
    ·exact ub m y u v b1 (by lia) (by lia) e ev
  ·rw [if_neg hx2] at eu
   rw [if_neg (by lia)] at ev
   exact ub x y u v (by lia) a2 (by lia) eu ev
 by_cases c3:na - k <= nb'
 ·rw [if_pos c3]
  refine wpS_bind (Zd4 (a:=(arrOf st).extract (sa + k) sb) (b:=(arrOf st).extract sb (sb + nb')) o hc hB1.kind (fun p hp=>hok p (exm _ _ _ hp)) (fun p hp=>hok p (exm _ _ _ hp)) (by rw [xs]; lia) (by rw [ys]; lia) SX SY HB0 HLA fun r st2 lk hr=>?_)
  refine wpS_bind (wpS_modify ?_)
  refine wpS_bind (wpS_get ?_)
  have hf:failedOf st2 = none:=lk.fail.trans hB.fail
  have hr2:r.toList.Perm (((arrOf st).toList.drop (sa + k)).take ((na - k) + nb')):=by
   refine hr.perm.trans (List.Perm.of_eq ?_)
   rw [Array.toList_extract,Array.toList_extract,ZiG _ (by lia) (by lia)]
   congr 1
   lia
  have hrl:r.toList.length = (na - k) + nb':=by
   rw [hr2.length_eq,List.length_take,List.length_drop,Array.length_toList]
   lia
  show wpS _ _ _ _ (pure (failedOf st2).isNone) Q _
  rw [hf]
  have hnew:(List.foldl (fun (a:Array Keyed) (x:Keyed × Nat)=>a.setIfInBounds (sa + k + x.2) x.1) (arrOf st2) r.toList.zipIdx).toList = (arrOf st).toList.take (sa + k) ++ r.toList ++ (arrOf st).toList.drop (sa + k + r.toList.length):=by
   rw [lk.arr,Zg3 _ _ _ (by show sa + k + r.toList.length <= (arrOf st).size; lia)]
  obtain ⟨w1,w2⟩:=whole r _ hr hrl hnew
  refine wpS_pure (h _ (fin _ ⟨?_,lk.kind.trans hB.kind,hf,?_⟩ (by show (pendingOf st2).toList = _; rw [lk.pend]; exact hpl) w1 w2) (fun x hx=>w1 x (.inr (by lia))) ?_)
  ·show (List.foldl (fun (a:Array Keyed) (x:Keyed × Nat)=>a.setIfInBounds (sa + k + x.2) x.1) (arrOf st2) r.toList.zipIdx).toList.Perm a₀.toList
   rw [hnew]
   exact (Zfc hr2 hrl).trans hB.arr
  ·show Cov (pendingOf st2).toList 0 hi
   rw [lk.pend]
   exact hB1.cov
  ·show (pendingOf st2).size + 1 = _
   rw [lk.pend]
   exact hps
 ·rw [if_neg c3]
  refine wpS_bind (Zd5 (a:=(arrOf st).extract (sa + k) sb) (b:=(arrOf st).extract sb (sb + nb')) o hc hB1.kind (fun p hp=>hok p (exm _ _ _ hp)) (fun p hp=>hok p (exm _ _ _ hp)) (by rw [xs]; lia) (by rw [ys]; lia) SX SY HB0 HLA fun r st2 lk hr=>?_)
  refine wpS_bind (wpS_modify ?_)
  refine wpS_bind (wpS_get ?_)
  have hf:failedOf st2 = none:=lk.fail.trans hB.fail
  have hr2:r.toList.Perm (((arrOf st).toList.drop (sa + k)).take ((na - k) + nb')):=by
   refine hr.perm.trans (List.Perm.of_eq ?_)
   rw [Array.toList_extract,Array.toList_extract,ZiG _ (by lia) (by lia)]
   congr 1
   lia
  have hrl:r.toList.length = (na - k) + nb':=by
   rw [hr2.length_eq,List.length_take,List.length_drop,Array.length_toList]
   lia
  show wpS _ _ _ _ (pure (failedOf st2).isNone) Q _
  rw [hf]
  have hnew:(List.foldl (fun (a:Array Keyed) (x:Keyed × Nat)=>a.setIfInBounds (sa + k + x.2) x.1) (arrOf st2) r.toList.zipIdx).toList = (arrOf st).toList.take (sa + k) ++ r.toList ++ (arrOf st).toList.drop (sa + k + r.toList.length):=by
   rw [lk.arr,Zg3 _ _ _ (by show sa + k + r.toList.length <= (arrOf st).size; lia)]
  obtain ⟨w1,w2⟩:=whole r _ hr hrl hnew
  refine wpS_pure (h _ (fin _ ⟨?_,lk.kind.trans hB.kind,hf,?_⟩ (by show (pendingOf st2).toList = _; rw [lk.pend]; exact hpl) w1 w2) (fun x hx=>w1 x (.inr (by lia))) ?_)
  ·show (List.foldl (fun (a:Array Keyed) (x:Keyed × Nat)=>a.setIfInBounds (sa + k + x.2) x.1) (arrOf st2) r.toList.zipIdx).toList.Perm a₀.toList
   rw [hnew]
   exact (Zfc hr2 hrl).trans hB.arr
  ·show Cov (pendingOf st2).toList 0 hi
   rw [lk.pend]
   exact hB1.cov
  ·show (pendingOf st2).size + 1 = _
   rw [lk.pend]
   exact hps
end
end Srd
namespace Srd
open PySem PyProof.Rows Srt
section
variable {prog:Program} {w:World} {A:Around} {E:Value -> Shared -> Prop} {s:Shared} {κ : SortKind} {Ok:Keyed -> Prop} {st:SortSt} {lt:Keyed -> Keyed -> Bool}
set_option maxHeartbeats 4000000 in
theorem Zhf {a₀ : Array Keyed} {Q:Unit -> SortSt -> Prop} (o:Swo lt) (hc:ZfV prog w A s κ Ok lt) (h0:∀ p ∈ a₀.toList,Ok p) (hB:SBL lt a₀ κ 0 st) (h:∀ st',(arrOf st').toList.Perm a₀.toList -> So lt (arrOf st').toList -> failedOf st' = none -> Q () st'):wpS (model prog w) A E s sortRuns' Q st:=by
 refine wpS_bind (wpS_get ?_)
 have hsz:=hB.sb.size
 show wpS _ _ _ _ (forIn [:(arrOf st).size] _ _ >>= _) Q st
 rw [hsz]
 refine wpS_bind (wpS_mono (wpS_forRange (I:=fun x c st'=>∃ lo,c = (none,lo) /\ lo <= a₀.size /\ SBL lt a₀ κ lo st' /\ x <= lo) (Q:=fun c st'=>∃ lo,c = (none,lo) /\ lo = a₀.size /\ SBL lt a₀ κ lo st') ?_ (fun c st' ⟨lo,z1,z2,z3,z4⟩=>⟨lo,z1,by lia,z3⟩) ⟨0,rfl,Nat.zero_le _,hB,Nat.le_refl _⟩) ?_)
 ·rintro x c st1 _ hx ⟨lo,rfl,hlo,hB1,hxl⟩
  try dsimp only
  by_cases c1:lo >= a₀.size
  ·rw [if_pos c1]
   exact wpS_pure ⟨lo,rfl,by lia,hB1⟩
  rw [if_neg c1]
  have hs1:=hB1.sb.size
  refine wpS_bind (Zgf o hc hB1.sb.kind (hB1.sb.ok h0) (by lia) (by lia) fun n st2 n1 n2 p2 u2=>?_)
  have hB2:=hB1.pl p2
  have hs2:=hB2.sb.size
  try dsimp only
  show wpS _ _ _ _ (if n < minRun' a₀.size a₀.size 0 then _ else _) _ st2
  by_cases c2:n < minRun' a₀.size a₀.size 0
  ·rw [if_pos c2]
   refine wpS_bind (wpS_lift (wpAny_rule ⟨rfl,?_⟩))
   refine wpS_bind (ZeV o hc hB2.sb.kind (hB2.sb.ok h0) (by show lo + min (a₀.size - lo) (minRun' a₀.size a₀.size 0) <= _; lia) (by show n <= min (a₀.size - lo) (minRun' a₀.size a₀.size 0); lia) (by show 1 <= min (a₀.size - lo) (minRun' a₀.size a₀.size 0); lia) u2 fun st3 p3 u3=>?_)
   rw [if_neg (by decide)]
   have hB3:=hB2.pl p3
   have u3':Up lt (arrOf st3) lo (lo + min (a₀.size - lo) (minRun' a₀.size a₀.size 0)):=u3
   have hN:1 <= min (a₀.size - lo) (minRun' a₀.size a₀.size 0):=by lia
   refine wpS_bind (wpS_get ?_)
   cases hb:(pendingOf st3).back? with
   | none =>
    dsimp only
    refine wpS_bind (wpS_modify ?_)
    refine wpS_pure ⟨lo + min (a₀.size - lo) (minRun' a₀.size a₀.size 0),rfl,by lia,⟨⟨hB3.sb.arr,hB3.sb.kind,hB3.sb.fail,?_⟩,fun z hz=>?_⟩,by lia⟩
    ·show Cov ((pendingOf st3).push (lo,min (a₀.size - lo) (minRun' a₀.size a₀.size 0),0)).toList 0 (lo + min (a₀.size - lo) (minRun' a₀.size a₀.size 0))
     rw [Array.toList_push]
     exact hB3.sb.cov.push hN
    ·have hz':z ∈ ((pendingOf st3).push (lo,min (a₀.size - lo) (minRun' a₀.size a₀.size 0),0)).toList:=hz
     rw [Array.toList_push] at hz'
     rcases List.mem_append.mp hz' with hz' | hz'
     ·exact hB3.ups z hz'
     ·rw [List.mem_singleton.mp hz']
      exact u3'
   | some t =>
    obtain ⟨s1,n1,q⟩:=t
    dsimp only
    refine wpS_bind (wpS_mono (wpS_forRange (I:=fun _ c st'=>c = (none,()) /\ SBL lt a₀ κ lo st' /\ ∀ x,lo <= x -> (arrOf st')[x]? = (arrOf st3)[x]?) (Q:=fun c st'=>c = (none,()) /\ SBL lt a₀ κ lo st' /\ ∀ x,lo <= x -> (arrOf st')[x]? = (arrOf st3)[x]?) ?_ (fun _ _ z=>z) ⟨rfl,hB3,fun _ _=>rfl⟩) ?_)
    ·rintro y c st4 _ _ ⟨rfl,hB4,hO4⟩
     refine wpS_bind (wpS_get ?_)
     by_cases g1:(pendingOf st4).size > 1
     ·rw [if_pos g1]
      obtain ⟨⟨a1,a2,older⟩,e⟩:∃ x,(pendingOf st4)[(pendingOf st4).size - 2]? = some x:=⟨_,getElem?_pos _ _ (by lia)⟩
      rw [e]
      dsimp only
      split
      ·exact wpS_pure ⟨rfl,hB4,hO4⟩
      ·refine wpS_bind (Zbe o hc h0 hB4 hlo (by show (pendingOf st4).size - 2 + 1 < (pendingOf st4).size; lia) fun st5 hB5 hO5 _=>?_)
       rw [if_neg (by decide)]
       exact wpS_pure ⟨rfl,hB5,fun x hx=>(hO5 x hx).trans (hO4 x hx)⟩
     ·rw [if_neg g1]
      exact wpS_pure ⟨rfl,hB4,hO4⟩
    ·rintro c st4 ⟨rfl,hB4,hO4⟩
     dsimp only
     refine wpS_bind (wpS_modify ?_)
     refine wpS_bind (wpS_modify ?_)
     refine wpS_pure ⟨lo + min (a₀.size - lo) (minRun' a₀.size a₀.size 0),rfl,by lia,⟨⟨hB4.sb.arr,hB4.sb.kind,hB4.sb.fail,?_⟩,fun z hz=>?_⟩,by lia⟩
     ·show Cov (Array.push ((pendingOf st4).modify _ _) (lo,min (a₀.size - lo) (minRun' a₀.size a₀.size 0),0)).toList 0 (lo + min (a₀.size - lo) (minRun' a₀.size a₀.size 0))
      rw [Array.toList_push,Array.toList_modify]
      refine Cov.push ?_ hN
      refine Cov.last _ (fun x=>?_) _ hB4.sb.cov
      exact ⟨rfl,rfl⟩
     ·change z ∈ (Array.push ((pendingOf st4).modify _ _) (lo,min (a₀.size - lo) (minRun' a₀.size a₀.size 0),0)).toList at hz
      rw [Array.toList_push,Array.toList_modify] at hz
      rcases List.mem_append.mp hz with hz | hz
      ·obtain ⟨i,hi⟩:=List.mem_iff_getElem?.mp hz
       rw [List.getElem?_modify] at hi
       obtain ⟨z0,hz0,rfl⟩:=Option.map_eq_some_iff.mp hi
       have h1:=hB4.ups z0 (List.mem_of_getElem? hz0)
       split
       ·exact h1
       ·exact h1
      ·rw [List.mem_singleton.mp hz]
       exact u3'.same fun x h1 _=>hO4 x h1
  ·rw [if_neg c2]
   have hB3:=hB2
   have hN:=n1
   have u3':=u2
   refine wpS_bind (wpS_get ?_)
   cases hb:(pendingOf st2).back? with
   | none =>
    dsimp only
    refine wpS_bind (wpS_modify ?_)
    refine wpS_pure ⟨lo + n,rfl,by lia,⟨⟨hB3.sb.arr,hB3.sb.kind,hB3.sb.fail,?_⟩,fun z hz=>?_⟩,by lia⟩
    ·show Cov ((pendingOf st2).push (lo,n,0)).toList 0 (lo + n)
     rw [Array.toList_push]
     exact hB3.sb.cov.push hN
    ·have hz':z ∈ ((pendingOf st2).push (lo,n,0)).toList:=hz
     rw [Array.toList_push] at hz'
     rcases List.mem_append.mp hz' with hz' | hz'
     ·exact hB3.ups z hz'
     ·rw [List.mem_singleton.mp hz']
      exact u3'
   | some t =>
    obtain ⟨s1,n1,q⟩:=t
    dsimp only
    refine wpS_bind (wpS_mono (wpS_forRange (I:=fun _ c st'=>c = (none,()) /\ SBL lt a₀ κ lo st' /\ ∀ x,lo <= x -> (arrOf st')[x]? = (arrOf st2)[x]?) (Q:=fun c st'=>c = (none,()) /\ SBL lt a₀ κ lo st' /\ ∀ x,lo <= x -> (arrOf st')[x]? = (arrOf st2)[x]?) ?_ (fun _ _ z=>z) ⟨rfl,hB3,fun _ _=>rfl⟩) ?_)
    ·rintro y c st4 _ _ ⟨rfl,hB4,hO4⟩
     refine wpS_bind (wpS_get ?_)
     by_cases g1:(pendingOf st4).size > 1
     ·rw [if_pos g1]
      obtain ⟨⟨a1,a2,older⟩,e⟩:∃ x,(pendingOf st4)[(pendingOf st4).size - 2]? = some x:=⟨_,getElem?_pos _ _ (by lia)⟩
      rw [e]
      dsimp only
      split
      ·exact wpS_pure ⟨rfl,hB4,hO4⟩
      ·refine wpS_bind (Zbe o hc h0 hB4 hlo (by show (pendingOf st4).size - 2 + 1 < (pendingOf st4).size; lia) fun st5 hB5 hO5 _=>?_)
       rw [if_neg (by decide)]
       exact wpS_pure ⟨rfl,hB5,fun x hx=>(hO5 x hx).trans (hO4 x hx)⟩
     ·rw [if_neg g1]
      exact wpS_pure ⟨rfl,hB4,hO4⟩
    ·rintro c st4 ⟨rfl,hB4,hO4⟩
     dsimp only
     refine wpS_bind (wpS_modify ?_)
     refine wpS_bind (wpS_modify ?_)
     refine wpS_pure ⟨lo + n,rfl,by lia,⟨⟨hB4.sb.arr,hB4.sb.kind,hB4.sb.fail,?_⟩,fun z hz=>?_⟩,by lia⟩
     ·show Cov (Array.push ((pendingOf st4).modify _ _) (lo,n,0)).toList 0 (lo + n)
      rw [Array.toList_push,Array.toList_modify]
      refine Cov.push ?_ hN
      refine Cov.last _ (fun x=>?_) _ hB4.sb.cov
      exact ⟨rfl,rfl⟩
     ·change z ∈ (Array.push ((pendingOf st4).modify _ _) (lo,n,0)).toList at hz
      rw [Array.toList_push,Array.toList_modify] at hz
      rcases List.mem_append.mp hz with hz | hz
      ·obtain ⟨i,hi⟩:=List.mem_iff_getElem?.mp hz
       rw [List.getElem?_modify] at hi
       obtain ⟨z0,hz0,rfl⟩:=Option.map_eq_some_iff.mp hi
       have h1:=hB4.ups z0 (List.mem_of_getElem? hz0)
       split
       ·exact h1
       ·exact h1
      ·rw [List.mem_singleton.mp hz]
       exact u3'.same fun x h1 _=>hO4 x h1
 ·rintro c st1 ⟨lo,rfl,rfl,hB1⟩
  try dsimp only
  refine wpS_bind (wpS_mono (wpS_forRange (I:=fun x c st'=>c = (none,()) /\ SBL lt a₀ κ a₀.size st' /\ (pendingOf st').size + x <= a₀.size + 1) (Q:=fun c st'=>c = (none,()) /\ SBL lt a₀ κ a₀.size st' /\ (pendingOf st').size <= 1) ?_ (fun c st' ⟨z1,z2,z3⟩=>⟨z1,z2,by lia⟩) ⟨rfl,hB1,by have:=hB1.sb.cov.le; rw [Array.length_toList] at this; lia⟩) ?_)
  ·rintro x c st2 _ _ ⟨rfl,hB2,hp2⟩
   try dsimp only
   refine wpS_bind (wpS_get ?_)
   try dsimp only
   by_cases c2:(pendingOf st2).size <= 1
   ·rw [if_pos c2]
    exact wpS_pure ⟨rfl,hB2,c2⟩
   ·rw [if_neg c2]
    have hx:∀ b:Bool,(if b = true then (pendingOf st2).size - 2 - 1 else (pendingOf st2).size - 2) + 1 < (pendingOf st2).size:=fun b=>by
     cases b
     ·rw [if_neg Bool.false_ne_true]; lia
     ·rw [if_pos rfl]; lia
    refine wpS_bind (Zbe o hc h0 hB2 (Nat.le_refl _) (hx _) fun st3 hB3 _ hs3=>?_)
    rw [if_neg (by decide)]
    exact wpS_pure ⟨rfl,hB3,by lia⟩
  ·rintro c st2 ⟨rfl,hB2,hp2⟩
   refine wpS_pure (h st2 hB2.sb.arr ?_ hB2.sb.fail)
   have hz2:=hB2.sb.size
   have hcov:=hB2.sb.cov
   have hups:=hB2.ups
   have hpl:(pendingOf st2).toList.length <= 1:=by rw [Array.length_toList]; exact hp2
   match hl:(pendingOf st2).toList,hpl with
   | [],_ =>
    rw [hl] at hcov
    have h0:0 = a₀.size:=hcov
    refine Zkc (n:=0) (fun x y _ _ _ _ h3=>by lia) (by lia)
   | [z],_ =>
    rw [hl] at hcov hups
    obtain ⟨z1,z2,z3⟩:=hcov
    have z3':0 + z.2.1 = a₀.size:=z3
    have hu:=hups z (List.mem_singleton.mpr rfl)
    rw [z1,z3'] at hu
    exact Zkc hu (by lia)
end
end Srd
namespace Srd
open PySem PyProof.Rows Srt PySem.W
section
variable {prog:Program} {w:World} {A:Around} {E:Value -> Shared -> Prop} {s:Shared}
def ZbN (prog:Program) (w:World) (A:Around) (lv:Value -> Value -> Bool) (vs:List Value) (s:Shared):Prop :=
 ∃ κ,(∀ (Q:SortKind -> Shared -> Prop) (E:Value -> Shared -> Prop),Q κ s -> wpAny (model prog w) A (keyKind' vs.toArray) Q E s) /\ ZfV prog w A s κ (fun p=>p ∈ (pairsOf vs).toList) fun x y=>lv x.1 y.1
theorem Zcx {vs:List Value} {p:Keyed} (h:p ∈ (pairsOf vs).toList):p.1 = p.2:=by
 rw [pairsOf_toList] at h
 obtain ⟨i,hi⟩:=List.mem_iff_getElem?.mp h
 rw [List.getElem?_zip_eq_some] at hi
 have:=hi.1.symm.trans hi.2
 exact Option.some.inj this
theorem ZhX {lt:Keyed -> Keyed -> Bool} {vs:List Value} (h:vs.length < 2):So lt (pairsOf vs).toList:=List.pairwise_iff_getElem.mpr fun i j hi hj hij=>by
 rw [Array.length_toList,pairsOf_size] at hi hj
 lia
theorem Zg8 {lv:Value -> Value -> Bool} {vs:List Value} {xs:Array Keyed} (hp:xs.toList.Perm (pairsOf vs).toList) (h:So (fun x y=>lv x.1 y.1) xs.toList):(xs.map (·.2)).toList.Pairwise (fun u v=>lv v u = false):=by
 rw [Array.toList_map,List.pairwise_map]
 refine List.Pairwise.imp_of_mem (fun {x y} hx hy hxy=>?_) h
 have hxy':lv y.1 x.1 = false:=hxy
 rw [Zcx (hp.mem_iff.mp hx),Zcx (hp.mem_iff.mp hy)] at hxy'
 exact hxy'
theorem ZeR {lv:Value -> Value -> Bool} (o:Swo fun x y=>lv x.1 y.1) {a:Addr} {vs:List Value} {n:Nat} {P:Fin -> Shared -> Prop} (ho:s.heap.get? a = some (seqObj "list" vs.toArray n)) (hlen:vs.length <= 90000)
  (hc:∀ h6:Heap,(∀ b o,b ≠ a -> s.heap.get? b = some o -> h6.get? b = some o) -> 2 <= vs.length -> ZbN prog w A lv vs { s with heap:=h6 })
  (h:∀ out:Array Value,out.toList.Perm vs -> out.toList.Pairwise (fun u v=>lv v u = false) -> P (.done (.ret .none)) { s with heap:=sortedHeap s.heap a vs out }):wpAny (model prog w) A (Builtin.«list.sort» ⟨[.ref a],[]⟩) P E s:=by
 have hv:vs.toArray.size <= sizeLine:=by rw [List.size_toArray,sizeLine_eq]; lia
 have ha:a < s.heap.objs.size:=Heap.lt_size ho
 obtain ⟨e1,ho1⟩:∃ e1,(s.heap.update a (Obj.mapSeq fun _=>#[])).get? a = some (seqObj "list" #[] e1):=⟨_,get?_update_seq ho (fun _=>#[])⟩
 rw [list_sort_plain]
 refine wpAny_bind (listItems_at ho rfl (wpAny_bind (listUpdate_at ho rfl (wpAny_bind (seqEpoch_at ho1 rfl (wpAny_bind (wpAny_newTuple (wpAny_bind (wpAny_newList (wpAny_holding ?_)))))))  hv (Nat.zero_le _))))
 have nT:a ≠ (s.heap.update a (Obj.mapSeq fun _=>#[])).objs.size:=by rw [Heap.size_update]; exact Nat.ne_of_lt ha
 have nL:a ≠ ((s.heap.update a (Obj.mapSeq fun _=>#[])).push (seqObj "tuple" vs.toArray 0)).objs.size:=by rw [size_push',Heap.size_update]; exact Nat.ne_of_lt (Nat.lt_succ_of_lt ha)
 have ho6:(((s.heap.update a (Obj.mapSeq fun _=>#[])).push (seqObj "tuple" vs.toArray 0)).push (seqObj "list" #[] 0)).get? a = some (seqObj "list" #[] e1):=by
  rw [Heap.get?_push_ne _ _ _ nL,Heap.get?_push_ne _ _ _ nT]
  exact ho1
 have hkeep:∀ b o,b ≠ a -> s.heap.get? b = some o -> (((s.heap.update a (Obj.mapSeq fun _=>#[])).push (seqObj "tuple" vs.toArray 0)).push (seqObj "list" #[] 0)).get? b = some o:=fun b o hb e=>by
  refine Heap.get?_push_of_some _ (Heap.get?_push_of_some _ ?_)
  rw [Heap.get?_update_other _ _ hb.symm]
  exact e
 show wpAny (model prog w) A _ P E { s with heap:=((s.heap.update a (Obj.mapSeq fun _=>#[])).push (seqObj "tuple" vs.toArray 0)).push (seqObj "list" #[] 0) }
 dsimp only
 by_cases h2:vs.toArray.size < 2
 ·rw [if_pos h2,if_pos h2]
  refine wpAny_bind (wpAny_pure ?_)
  rw [StateT.run_pure]
  refine wpAny_bind (wpAny_pure (wpAny_bind (seqEpoch_at ho6 rfl (wpAny_bind (listUpdate_at ho6 rfl ?_ (Nat.zero_le _) ?_)))))
  ·simp only [bne_self_eq_false,Bool.false_eq_true,if_false]
   exact wpAny_pure (h _ (ZdR (xs:=pairsOf vs) (List.Perm.refl _)) (Zg8 (xs:=pairsOf vs) (List.Perm.refl _) (ZhX (by rw [List.size_toArray] at h2; exact h2))))
  ·show ((pairsOf vs).map (·.2)).size <= _
   rw [Array.size_map,pairsOf_size,sizeLine_eq]
   lia
 ·rw [if_neg h2,if_neg h2]
  rw [List.size_toArray] at h2
  obtain ⟨κ,hkk,hcm⟩:=hc _ hkeep (by lia)
  refine wpAny_bind (hkk _ _ ?_)
  refine wpAny_bind (wpAny_mono (Zhf (a₀ := pairsOf vs) (Q:=fun _ st'=>(arrOf st').toList.Perm (pairsOf vs).toList /\ So (fun x y=>lv x.1 y.1) (arrOf st').toList /\ failedOf st' = none) o hcm (fun p hp=>hp) ⟨⟨List.Perm.refl _,rfl,rfl,rfl⟩,fun z hz=>(nomatch hz)⟩ fun st' a1 a3 a2=>⟨a1,a3,a2⟩) ?_ fun _ _ e=>e)
  rintro ⟨⟨⟩,st'⟩ s' ⟨rfl,hp,hso,hf⟩
  dsimp only
  refine wpAny_bind (seqEpoch_at ho6 rfl (wpAny_bind (listUpdate_at ho6 rfl ?_ (Nat.zero_le _) ?_)))
  ·rw [hf]
   simp only [bne_self_eq_false,Bool.false_eq_true,if_false]
   exact wpAny_pure (h _ (ZdR hp) (Zg8 hp hso))
  ·have hp':(arrOf st').toList.Perm (pairsOf vs).toList:=hp
   have:=hp'.length_eq
   rw [Array.length_toList,Array.length_toList,pairsOf_size] at this
   show ((arrOf st').map (·.2)).size <= _
   rw [Array.size_map,sizeLine_eq]
   lia
theorem ZbD {lv:Value -> Value -> Bool} (o:Swo fun x y=>lv x.1 y.1) {v:Value} {C:List Value -> Prop} {Q:Value -> Shared -> Prop}
  (hcol:∀ (Q':List Value -> Shared -> Prop) (E':Value -> Shared -> Prop),(∀ (ys:List Value) (h':Heap) (tk:Nat) (d:Drawn),(∀ b o,s.heap.get? b = some o -> h'.get? b = some o) -> C ys -> ys.length <= 90000 -> s.heap.objs.size <= h'.objs.size -> Q' ys { s with heap:=h',toks:=tk,drawn:=d }) -> wpAny (model prog w) A.in1 (collect v) Q' E' s)
  (hc:∀ (ys:List Value) (h6:Heap) (tk:Nat) (d:Drawn),C ys -> (∀ b o,s.heap.get? b = some o -> h6.get? b = some o) -> 2 <= ys.length -> ZbN prog w A.in1.in1 lv ys { s with heap:=h6,toks:=tk,drawn:=d })
  (q:∀ (p:Addr) (ys:List Value) (out:Array Value) (h':Heap) (tk:Nat) (d:Drawn) (c:Nat),C ys -> out.toList.Perm ys -> out.toList.Pairwise (fun u v=>lv v u = false) -> (∀ b o,s.heap.get? b = some o -> h'.get? b = some o) -> h'.get? p = some (seqObj "list" out c) -> s.heap.objs.size <= p -> out.size <= 90000 -> Q (.ref p) { s with heap:=h',toks:=tk,drawn:=d }) :
  wpAny (model prog w) A (call (.builtin "sorted") [v]) Q E s:=by
 refine Calls.call_function_entry kind_sorted plain_sorted entry_sorted (args_sorted1 _) ?_
 unfold Builtin.«sorted»
 refine wpAny_bind (m:=checkCount "sorted" 1 1 _) (wpAny_pure (wpAny_bind (hcol _ _ fun ys h1 tk d k1 hC hyl hle=>wpAny_bind (wpAny_newList ?_ (by rw [sizeLine_eq]; lia)))))
 have hoL:(h1.push (seqObj "list" ys.toArray 0)).get? h1.objs.size = some (seqObj "list" ys.toArray 0):=Heap.get?_push_size _ rfl
 have keep:∀ b o,s.heap.get? b = some o -> (h1.push (seqObj "list" ys.toArray 0)).get? b = some o:=fun b o e=>Heap.get?_push_of_some _ (k1 b o e)
 have hbp:∀ b o,s.heap.get? b = some o -> h1.objs.size ≠ b:=fun b o e=>Nat.ne_of_gt (Nat.lt_of_lt_of_le (Heap.lt_size e) hle)
 change wpAny _ _ _ _ _ { s with heap:=h1.push (seqObj "list" ys.toArray 0),toks:=tk,drawn:=d }
 refine wpAny_bind (wpAny_holding (wpAny_call_entry slot_list_sort ⟨_,hoL,rfl⟩ entry_list_sort (ZeR (s:={ s with heap:=h1.push (seqObj "list" ys.toArray 0),toks:=tk,drawn:=d }) o hoL (by lia) (fun h6 k6 h2=>hc ys h6 tk d hC (fun b o e=>k6 b o (hbp b o e).symm (keep b o e)) h2) fun out hp hso=>⟨_,rfl,?_⟩) (args_list_sort _)))
 generalize h1.push (seqObj "list" ys.toArray 0) = h5 at hoL keep
 obtain ⟨e1,ho1⟩:∃ e1,(h5.update h1.objs.size (Obj.mapSeq fun _=>#[])).get? h1.objs.size = some (seqObj "list" #[] e1):=⟨_,get?_update_seq hoL (fun _=>#[])⟩
 have ho6:=Heap.get?_push_of_some (seqObj "list" #[] 0) (Heap.get?_push_of_some (seqObj "tuple" ys.toArray 0) ho1)
 have hol:out.size <= 90000:=by rw [<- Array.length_toList,hp.length_eq]; exact hyl
 refine wpAny_pure ⟨_,rfl,q h1.objs.size ys out (sortedHeap h5 h1.objs.size ys out) tk d _ hC hp hso (fun b o e=>?_) (get?_update_seq ho6 (fun _=>out)) hle hol⟩
 unfold sortedHeap
 rw [Heap.get?_update_other _ _ (hbp b o e)]
 refine Heap.get?_push_of_some _ (Heap.get?_push_of_some _ ?_)
 rw [Heap.get?_update_other _ _ (hbp b o e)]
 exact keep b o e
def ZfT:Value -> Int
 | .int i _=>i
 | _=>0
def iLt (u v:Value):Bool:=decide (ZfT u < ZfT v)
theorem Zgu:Swo fun x y=>iLt x.1 y.1:=⟨fun x y h=>decide_eq_false (by have:=of_decide_eq_true h; lia),fun x y z h1 h2=>decide_eq_false (by have:=of_decide_eq_false h1; have:=of_decide_eq_false h2; lia)⟩
theorem Zbu {vs:List Value} (hv:∀ v ∈ vs,∃ i t,v = Value.int i t) (h2:2 <= vs.length):ZbN prog w A iLt vs s:=by
 refine ⟨oneType',fun Q E hq=>kas_kind (T:=.type "int") h2 (fun v hm=>?_) rfl rfl hq,?_⟩
 ·obtain ⟨i,t,rfl⟩:=hv v hm
  exact Looks.of_pure rfl
 ·intro x y hx hy E
  rw [pairsOf_toList] at hx hy
  obtain ⟨i,t,e⟩:=hv _ (mem_zip_self hx).2
  obtain ⟨i',t',e'⟩:=hv _ (mem_zip_self hy).2
  rw [e,e',keyLt'_oneType]
  refine oneLt_int ⟨rfl,?_⟩
  show decide (i < i') = decide (ZfT x.1 < ZfT y.1)
  rw [e,e']
  rfl
end
section
variable {prog:Program} {w:World} {A:Around} {E:Value -> Shared -> Prop} {s:Shared} {T:String} {r d:Addr} {n:Nat} {P:Nat -> Value -> Prop} {OK:Heap -> Prop}
theorem ZeC {Q:List Value -> Shared -> Prop} (K:KdlSrc prog w T r d n P OK) (hh:A.handled = none) (hok:OK s.heap) (hn:n <= sizeLine)
  (q:∀ (acc:Array Value) (h':Heap) (tk:Nat),(∀ b o,s.heap.get? b = some o -> h'.get? b = some o) -> ItemsOf P acc n -> s.heap.objs.size <= h'.objs.size -> Q acc.toList { s with heap:=h',toks:=tk }):wpAny (model prog w) A (collect (.ref r)) Q E s:=by
 unfold collect
 refine wpAny_bind (wpAny_runValue (codeAny_builtin entry_proto_collect' ?_))
 change wpAny _ _ (do again (.builtin "list.__iadd__" ⟨[<- newList [],.ref r],[]⟩)) _ _ s
 refine wpAny_bind (wpAny_newList (wpAny_pure ⟨Code.quiet_builtin _ (by decide +kernel),codeAny_builtin entry_list_iadd' ?_⟩))
 change wpAny _ A.in1 (Builtin.List.listExtendWith (.ref s.heap.objs.size) (.ref r) (.ref s.heap.objs.size)) _ _ { s with heap:=s.heap.push (seqObj "list" #[] 0) }
 have hlt:=K.there _ hok
 refine kdl_extend (R:=wants (fun v s'=>wpAny (model prog w) A (match v with
     | Value.ref a=>do
      let o <- load a
      match o.data with
      | .seq xs _=>pure xs.toList
      | _=>unsupported "internal:collect"
     | _=>unsupported "internal:collect") Q E s') E) (s:={ s with heap:=s.heap.push (seqObj "list" #[] 0) }) K hh (K.keep _ _ hok fun b _ o e=>Heap.get?_push_of_some _ e) s.heap.objs.size (Nat.ne_of_gt hlt.1) (Nat.ne_of_gt hlt.2) _ 0 (Heap.get?_push_size _ rfl) (fun h' tk acc c kp hS hit=>?_) hn
 refine wpAny_bind (wpAny_load hS ?_)
 refine wpAny_pure ?_
 exact q acc h' tk (fun b o e=>kp b o (Nat.ne_of_lt (Heap.lt_size e)) (Heap.get?_push_of_some _ e)) hit (Nat.le_of_lt (Heap.lt_size hS))
end
end Srd
namespace Srd
open PySem PyProof.Rows
theorem Zep:typeLookup (.type "list") "keys" = pure none:=by rw [typeLookup_type,builtinLookup_eq_fast]; kernel_rfl
theorem ZaQ:isSubtype (.type "AttributeError") (.type "AttributeError") = pure true:=by rw [isSubtype_type]; kernel_rfl
section
variable {prog:Program} {w:World} {A:Around} {E:Value -> Shared -> Prop} {h:Heap} {g:Array GenState} {d:Drawn} {t:Nat} {os:OsState} {a:Addr}
theorem Zf3 {α : Type} {Q : α -> Shared -> Prop} {o:Value} {name msg:Str} (hh:A.handled = none) (hm:msg.length <= sizeLine) (hq:∀ (x:Addr) (h':Heap) (tk:Nat),(∀ b u,h.get? b = some u -> h'.get? b = some u) -> (∃ ob,h'.get? x = some ob /\ ob.cls = .type "AttributeError") -> h.objs.size <= h'.objs.size -> E (.ref x) ⟨h',g,d,tk,os⟩) :
  wpAny (model prog w) A (raiseAttrError o name msg:Sem α) Q E ⟨h,g,d,t,os⟩:=by
 unfold raiseAttrError
 repeat (any_goals (first | assumption | wp_step))
 refine wpAny_of_eq ZaQ ?_
 rw [if_neg (by decide)]
 generalize hfa:(if ((Manifest.find? "AttributeError").elim false fun t=>t.mro.contains "StopIteration" || t.mro.contains "SystemExit") = true then [Value.str msg t].headD Value.none else Value.none) = fa
 have k1:∀ b u,h.get? b = some u -> (h.push { cls:=Value.type "tuple",data:=Data.seq #[Value.str msg t] }).get? b = some u:=fun b u e=>Heap.get?_push_of_some _ e
 have z1:(h.push { cls:=Value.type "tuple",data:=Data.seq #[Value.str msg t] }).objs.size = h.objs.size + 1:=Heap.size_push ..
 generalize h.push { cls:=Value.type "tuple",data:=Data.seq #[Value.str msg t] } = h1 at k1 z1
 have e1:(h1.push { cls:=Value.type "AttributeError",data:=Data.fields (#[Value.ref h.objs.size,Value.none,Value.none,Value.none,Value.bool false,fa] ++ ownMembersOf (Value.type "AttributeError") [Value.str msg t]) }).get? h1.objs.size = some { cls:=Value.type "AttributeError",data:=Data.fields (#[Value.ref h.objs.size,Value.none,Value.none,Value.none,Value.bool false,fa] ++ ownMembersOf (Value.type "AttributeError") [Value.str msg t]) }:=Heap.get?_push_size _ rfl
 have k2:∀ b u,h.get? b = some u -> (h1.push { cls:=Value.type "AttributeError",data:=Data.fields (#[Value.ref h.objs.size,Value.none,Value.none,Value.none,Value.bool false,fa] ++ ownMembersOf (Value.type "AttributeError") [Value.str msg t]) }).get? b = some u:=fun b u e=>Heap.get?_push_of_some _ (k1 b u e)
 have z2:(h1.push { cls:=Value.type "AttributeError",data:=Data.fields (#[Value.ref h.objs.size,Value.none,Value.none,Value.none,Value.bool false,fa] ++ ownMembersOf (Value.type "AttributeError") [Value.str msg t]) }).objs.size = h1.objs.size + 1:=Heap.size_push ..
 generalize h1.push { cls:=Value.type "AttributeError",data:=Data.fields (#[Value.ref h.objs.size,Value.none,Value.none,Value.none,Value.bool false,fa] ++ ownMembersOf (Value.type "AttributeError") [Value.str msg t]) } = h2 at e1 k2 z2
 refine wpAny_bind (wpAny_load e1 ?_)
 dsimp only
 have v6:(#[Value.ref h.objs.size,Value.none,Value.none,Value.none,Value.bool false,fa] ++ ownMembersOf (Value.type "AttributeError") [Value.str msg t])[6]? = some unsetMember:=rfl
 have v7:(#[Value.ref h.objs.size,Value.none,Value.none,Value.none,Value.bool false,fa] ++ ownMembersOf (Value.type "AttributeError") [Value.str msg t])[7]? = some unsetMember:=rfl
 refine wpAny_ite_split (fun hab=>absurd hab (by rw [v6,v7]; decide)) (fun _=>wpAny_ite_split (fun hab=>absurd hab (by rw [v6,v7]; decide)) (fun _=>wpAny_pure ?_))
 rw [if_pos rfl]
 refine wpAny_bind (wpAny_rule (wpAny_bind (wpAny_typeOf (T := "AttributeError") ⟨_,e1,rfl⟩ ?_)))
 dsimp only
 unfold layMembers
 refine wpAny_bind (wpAny_load e1 ?_)
 dsimp only
 refine wpAny_update e1 ?_
 unfold raiseNew
 refine wpAny_bind (wpAny_handled ?_)
 rw [hh]
 refine wpAny_throw (hq _ _ _ (fun b u e=>?_) ?_ ?_)
 ·rw [Heap.get?_update_other _ _ (show h1.objs.size ≠ b from fun z=>?_)]
  ·exact k2 b u e
  ·have:=Heap.lt_size e
   have h3:h1.objs.size < h.objs.size:=z ▸ this
   lia
 ·exact ⟨_,Heap.get?_update_self _ e1 rfl,rfl⟩
 ·rw [Heap.size_update]
  show h.objs.size <= h2.objs.size
  lia
theorem ZcR {tk:Tok} {Q:Fin -> Shared -> Prop} {its:Array Value} {n:Nat} {sl:Array (Option Value)} (hh:A.handled = none) (hx:h.get? a = some { cls:=.type "list",dict:=none,data:=.seq its n,slots:=sl }) (hq:∀ (x:Addr) (h':Heap) (tk:Nat),(∀ b u,h.get? b = some u -> h'.get? b = some u) -> (∃ ob,h'.get? x = some ob /\ ob.cls = .type "AttributeError") -> h.objs.size <= h'.objs.size -> E (.ref x) ⟨h',g,d,tk,os⟩) :
  wpAny (model prog w) A (Builtin.«object.__getattribute__» ⟨[.ref a,.str "keys" tk],[]⟩) Q E ⟨h,g,d,t,os⟩:=by
 have hT:(⟨h,g,d,t,os⟩:Shared).TypeIs (.ref a) "list" := ⟨_,hx,rfl⟩
 have f4:=Zep
 repeat (any_goals (first | assumption | with_reducible apply Zf3 hh | wp_step))
 decide +kernel
theorem ZcN:typeLookup (.type "list") "__getattr__" = pure none:=by rw [typeLookup_type,builtinLookup_eq_fast]; kernel_rfl
theorem Zc0 {tk:Tok} {R:Result -> Shared -> Prop} {its:Array Value} {n:Nat} {sl:Array (Option Value)} (hh:A.handled = none) (hx:h.get? a = some { cls:=.type "list",dict:=none,data:=.seq its n,slots:=sl }) (hq:∀ (x:Addr) (h':Heap) (tk:Nat),(∀ b u,h.get? b = some u -> h'.get? b = some u) -> (∃ ob,h'.get? x = some ob /\ ob.cls = .type "AttributeError") -> h.objs.size <= h'.objs.size -> R (.error (.ref x)) ⟨h',g,d,tk,os⟩) :
  codeAny (model prog w) A (.call (.builtin "list.__getattribute__") ⟨[.ref a,.str "keys" tk],[]⟩) R ⟨h,g,d,t,os⟩ :=
 codeAny_call_builtin F.slot_list_getattribute.plain F.entry_list_ga (F.slot_list_getattribute.check _ _ _ _ _ _ _ _ (show (⟨h,g,d,t,os⟩:Shared).TypeIs (.ref a) "list" from ⟨_,hx,rfl⟩) (F.args_list_getattribute_2 _ _) (ZcR hh hx hq))
theorem Zeb {tk:Tok} {Q:Value -> Shared -> Prop} {its:Array Value} {n:Nat} {sl:Array (Option Value)} (hh:A.handled = none) (hx:h.get? a = some { cls:=.type "list",dict:=none,data:=.seq its n,slots:=sl }) (hq:∀ (x:Addr) (h':Heap) (tk:Nat),(∀ b u,h.get? b = some u -> h'.get? b = some u) -> (∃ ob,h'.get? x = some ob /\ ob.cls = .type "AttributeError") -> h.objs.size <= h'.objs.size -> E (.ref x) ⟨h',g,d,tk,os⟩) :
  wpAny (model prog w) A (getAttrBy (.ref a) (.str "keys" tk) false) Q E ⟨h,g,d,t,os⟩:=by
 have hT:(⟨h,g,d,t,os⟩:Shared).TypeIs (.ref a) "list" := ⟨_,hx,rfl⟩
 have f2:=F.slot_list_getattribute.lookup
 have f3:=F.slot_list_getattribute.bind (.ref a)
 have f4:=ZcN
 repeat (any_goals (first | assumption | wp_step))
 refine Zc0 hh hx fun x h' tk' k1 k2 k3=>?_
 obtain ⟨ob,e2,c2⟩:=k2
 dsimp only
 unfold getattributeRaised
 refine wpAny_bind (wpAny_isInstance (T := "AttributeError") (b:=true) ⟨ob,e2,c2⟩ ZaQ ?_)
 rw [if_pos rfl]
 unfold hookBehind
 rw [if_neg (by decide)]
 refine wpAny_bind (wpAny_of_eq f4 ?_)
 unfold hookOrError attributeErrorLeaves
 dsimp only
 rw [if_pos (by decide)]
 exact wpAny_bind (wpAny_throw (hq x h' tk' k1 ⟨ob,e2,c2⟩ k3))
theorem ZcX {Q:Option Value -> Shared -> Prop} {its:Array Value} {n:Nat} {sl:Array (Option Value)} (hh:A.handled = none) (hx:h.get? a = some { cls:=.type "list",dict:=none,data:=.seq its n,slots:=sl }) (hq:∀ (h':Heap) (tk:Nat),(∀ b u,h.get? b = some u -> h'.get? b = some u) -> h.objs.size <= h'.objs.size -> Q none ⟨h',g,d,tk,os⟩) :
  wpAny (model prog w) A (getAttr? (.ref a) "keys") Q E ⟨h,g,d,t,os⟩:=by
 unfold getAttr? getAttrBy?
 repeat (any_goals (first | assumption | with_reducible apply Zeb hh hx | wp_step))
 intro x h' tk' k1 k2 k3
 obtain ⟨ob,e2,c2⟩:=k2
 dsimp only
 refine wpAny_bind (wpAny_isInstance (T := "AttributeError") (b:=true) ⟨ob,e2,c2⟩ ZaQ ?_)
 rw [if_pos rfl]
 exact wpAny_pure (hq h' tk' k1 k3)
end
end Srd
namespace Srd
open PySem PyProof.Rows
theorem Zau:entryFor table "dict.update.loop" = some Builtin.«dict.update.loop» := entryFor_of_tree (by kernel_rfl)
theorem ZM:plainId "dict.update.loop" = true:=by decide +kernel
section
variable {prog:Program} {w:World} {K:Type} [DecidableEq K] {knd:KeyKind prog w K} {A:Around} {E:Value -> Shared -> Prop} {R:Result -> Shared -> Prop}
def Zgy (knd:KeyKind prog w K) (h:Heap) (v:Value) (k:K) (u:Value):Prop := ∃ b o n uk,v = .ref b /\ h.get? b = some o /\ o.cls = .type "tuple" /\ o.data = .seq #[uk,u] n /\ knd.is k uk = true
def ZgC (knd:KeyKind prog w K) (h0:Heap) (d:Addr) (items:Array Value) (ps:List (K × Value)):Prop:=items.size = ps.length /\ ∀ (i:Nat) v p,items[i]? = some v -> ps[i]? = some p -> ∀ h:Heap,(∀ b o,b < d -> h0.get? b = some o -> h.get? b = some o) -> Zgy knd h v p.1 p.2
theorem pair_items {s:Shared} {v:Value} {k:K} {u:Value} {Q:List Value -> Shared -> Prop} (hp:Zgy knd s.heap v k u) (q:∀ uk,knd.is k uk = true -> Q [uk,u] s):wpAny (model prog w) A (Builtin.Dict.pairItems v) Q E s:=by
 obtain ⟨b,o,n,uk,rfl,ho,hc,hd,hk⟩:=hp
 unfold Builtin.Dict.pairItems
 refine wpAny_bind (wpAny_typeOf (T := "tuple") ⟨o,ho,hc⟩ ?_)
 rw [if_pos (by decide)]
 refine wpAny_bind (wpAny_seqItems ho hd (wpAny_pure (q uk hk)))
set_option maxHeartbeats 1000000 in
theorem ZgR {h0:Heap} {D I l:Addr} {items:Array Value} {ps:List (K × Value)} (hh:A.in1.handled = none) (ht:ZgC knd h0 D items ps) (hDI:D < I) (hlI:l ≠ I) (hn:items.size <= 100000):∀ (k i:Nat) (j:Int) (jt:Tok) (s:Shared),items.size - i = k -> i <= items.size -> (s.heap.IsListIter I l i /\ s.heap.IsList l items) -> l < D -> s.heap.DictOf knd D (merged [] (ps.take i)) -> (∀ b o,b < D -> h0.get? b = some o -> s.heap.get? b = some o) ->
   (∀ h' tk,h'.DictOf knd D (merged [] ps) -> (∀ b o,b < D -> h0.get? b = some o -> h'.get? b = some o) -> R (.ok (.ret .none)) { s with heap:=h',toks:=tk }) -> codeAny (model prog w) A (.builtin "dict.update.loop" ⟨[.ref D,.ref I,.int j jt,.none],[]⟩) R s:=by
 have W:=Walks.list (prog:=prog) (w:=w) (A:=A.in1) hh I l hlI items
 have DK:∀ {h h':Heap} {kvs:List (K × Value)},h.DictOf knd D kvs -> (∀ b o,b <= D -> h.get? b = some o -> h'.get? b = some o) -> h'.DictOf knd D kvs:=fun {h h' kvs} ⟨o,es,ep,ho,r⟩ hk=>⟨o,es,ep,hk D o (Nat.le_refl _) ho,r⟩
 intro k
 induction k with
 | zero =>
  intro i j jt s hk hi hst hlD hd hb hR
  obtain rfl:i = items.size:=by lia
  refine codeAny_builtin Zau ?_
  rw [Around.under_plainId ZM _]
  change wpAny _ A.in1 (pyNext (.ref I) >>= _) _ _ s
  refine wpAny_bind (W.done s _ _ hst fun h' tk hm=>?_)
  change wpAny _ A.in1 (Builtin.Dict.addKeywords D [] >>= fun _=>ret Value.none) _ _ _
  refine wpAny_bind ?_
  unfold Builtin.Dict.addKeywords
  refine wpAny_pure (wpAny_pure ?_)
  rw [ht.1,List.take_length] at hd
  exact hR h' tk (DK hd fun b o hb' e=>hm b o (fun z=>Nat.lt_irrefl _ (Nat.lt_of_le_of_lt (List.mem_singleton.mp z ▸ hb') hDI)) e) fun b o hb' e=>hm b o (fun z=>Nat.lt_irrefl _ (Nat.lt_trans (List.mem_singleton.mp z ▸ hb') hDI)) (hb b o hb' e)
 | succ k ih =>
  intro i j jt s hk hi hst hlD hd hb hR
  have hlt:i < items.size:=by lia
  refine codeAny_builtin Zau ?_
  rw [Around.under_plainId ZM _]
  change wpAny _ A.in1 (pyNext (.ref I) >>= _) _ _ s
  refine wpAny_bind (W.item i s _ _ hlt hst fun v h' tk hP hst' hm=>?_)
  have hd':h'.DictOf knd D (merged [] (ps.take i)):=DK hd fun b o hb' e=>hm b o (fun z=>Nat.lt_irrefl _ (Nat.lt_of_le_of_lt (List.mem_singleton.mp z ▸ hb') hDI)) e
  have hb1:∀ b o,b < D -> h0.get? b = some o -> h'.get? b = some o:=fun b o hb' e=>hm b o (fun z=>Nat.lt_irrefl _ (Nat.lt_trans (List.mem_singleton.mp z ▸ hb') hDI)) (hb b o hb' e)
  have hpl:i < ps.length:=by have:=ht.1; lia
  have hp:=ht.2 i v ps[i] hP (List.getElem?_eq_getElem hpl) h' hb1
  refine wpAny_bind (wpAny_holding (wpAny_bind (wpAny_tryCatch (pair_items (s:={ s with heap:=h',toks:=tk }) hp fun uk huk=>?_))))
  dsimp only
  have hml:(merged [] (ps.take i)).length <= sizeLine:=by
   have:=merged_length_le ([]:List (K × Value)) (ps.take i)
   rw [List.length_take] at this
   have h0l:([]:List (K × Value)).length = 0:=rfl
   have:=ht.1
   rw [sizeLine_eq]
   lia
  refine wpAny_holding (wpAny_dictSet_pairs (s:={ s with heap:=h',toks:=tk }) (hsz:=hml) huk hd' fun h2 hd2 sb=>?_)
  have hk2:∀ b o,b ≠ D -> h'.get? b = some o -> h2.get? b = some o:=fun b o hb e=>(sb.2 b hb).trans e
  refine wpAny_pure ⟨plainId_quiet ZM _,ih (i + 1) (j + 1) 0 _ (by lia) hlt ?_ hlD ?_ (fun b o hb' e=>hk2 b o (Nat.ne_of_lt hb') (hb1 b o hb' e)) fun h3 tk3 hw3 hb3=>hR h3 tk3 hw3 hb3⟩
  ·refine W.frame _ h' h2 hst' fun b hb o e=>hk2 b o (fun z=>?_) e
   simp only [List.mem_cons,List.not_mem_nil,or_false] at hb
   rcases hb with rfl | rfl
   ·exact Nat.lt_irrefl _ (z ▸ hDI)
   ·exact Nat.lt_irrefl _ (z ▸ hlD)
  ·rw [merged_take_succ [] ps i ps[i] (List.getElem?_eq_getElem hpl)]
   exact hd2
set_option maxHeartbeats 1000000 in
theorem ZcK {s:Shared} {l:Addr} {items:Array Value} {n:Nat} {sl:Array (Option Value)} {ps:List (K × Value)} {Q:Value -> Shared -> Prop} (hh:A.handled = none) (hl:s.heap.get? l = some { cls:=.type "list",dict:=none,data:=.seq items n,slots:=sl }) (ht:ZgC knd s.heap s.heap.objs.size items ps) (hn:items.size <= 100000)
  (q:∀ (h':Heap) (tk:Nat),h'.DictOf knd s.heap.objs.size (merged [] ps) -> (∀ b o,s.heap.get? b = some o -> h'.get? b = some o) -> Q (.ref s.heap.objs.size) { s with heap:=h',toks:=tk }) :
  wpAny (model prog w) A (call (.type "dict") [.ref l]) Q E s:=by
 refine callType_codes (Q₁ := fun obj s₁=>obj = .ref s.heap.objs.size /\ s₁ = { s with heap:=s.heap.push { cls:=.type "dict",data:=.dict #[] } }) F.kt_called_dict (F.kt_typeCall_dict_1 _) F.entry_dict_init (kt_code_dict_new _ ⟨rfl,rfl⟩) ?_
 rintro obj s₁ ⟨rfl,rfl⟩
 have hnew:(s.heap.push { cls:=.type "dict",data:=.dict #[] }).DictOf knd s.heap.objs.size []:=Heap.DictOf.new s.heap
 have hl1:(s.heap.push { cls:=.type "dict",data:=.dict #[] }).get? l = some { cls:=.type "list",dict:=none,data:=.seq items n,slots:=sl }:=Heap.get?_push_of_some _ hl
 have hlD:l < s.heap.objs.size:=Heap.lt_size hl
 have k0:∀ b o,b < s.heap.objs.size -> s.heap.get? b = some o -> (s.heap.push { cls:=.type "dict",data:=.dict #[] }).get? b = some o:=fun b o _ e=>Heap.get?_push_of_some _ e
 have z0:(s.heap.push { cls:=.type "dict",data:=.dict #[] }).objs.size = s.heap.objs.size + 1:=Heap.size_push ..
 refine ⟨hnew.typeIs,F.args_dict_init_2 _ _,?_⟩
 generalize s.heap.push { cls:=.type "dict",data:=.dict #[] } = h1 at hnew hl1 k0 z0
 unfold Builtin.«dict.__init__»
 refine wpAny_bind ?_
 unfold Builtin.Dict.selfAndRest
 refine wpAny_bind (wpAny_notOrdered_dict hnew.typeIs ?_)
 show wpAny _ _ (pure (s.heap.objs.size,[Value.ref l])) _ _ _
 refine wpAny_pure ?_
 show wpAny _ _ (Builtin.Dict.updateFrom "dict.__init__" s.heap.objs.size (.ref l) [] .none) _ _ _
 unfold Builtin.Dict.updateFrom
 refine wpAny_bind (wpAny_typeOf (T := "list") ⟨_,hl1,rfl⟩ ?_)
 rw [if_pos (by decide)]
 refine wpAny_bind (ZcX hh hl1 fun h2 tk2 k2 z2=>?_)
 rw [if_pos (show (none:Option Value).isNone = true from rfl)]
 refine wpAny_bind (wpAny_rule ?_)
 have hl2:=k2 _ _ hl1
 have hL2:h2.IsList l items:=⟨_,hl2,rfl,n,rfl⟩
 refine wpAny_bind (wpAny_pyIter_list hL2 ?_)
 have hd2:h2.DictOf knd s.heap.objs.size []:=let ⟨o,es,ep,ho,r⟩:=hnew; ⟨o,es,ep,k2 _ _ ho,r⟩
 have hd3:(h2.push { cls:=.type "list_iterator",data:=.fields #[.ref l,.int 0 0] }).DictOf knd s.heap.objs.size []:=hd2.push _
 have hsz:s.heap.objs.size < h2.objs.size:=by lia
 refine wpAny_pure ⟨plainId_quiet ZM _,?_⟩
 refine ZgR (knd:=knd) (h0:=s.heap) (by simpa using hh) ht hsz (Nat.ne_of_lt (Nat.lt_trans hlD hsz)) hn (items.size - 0) 0 0 0 _ rfl (Nat.zero_le _) ⟨⟨_,Heap.get?_push_size _ rfl,rfl,rfl⟩,hL2.push _⟩ hlD hd3 (fun b o hb e=>Heap.get?_push_of_some _ (k2 _ _ (k0 b o hb e))) fun h' tk hd' hb'=>?_
 exact ⟨rfl,q h' tk hd' fun b o e=>hb' b o (Heap.lt_size e) e⟩
end
end Srd
namespace L2
open PySem PySem.Spec PyProof.Rows PySem.W
def putAll (kvs:List (Key × V)):List (Key × V):=kvs.foldl (fun m kv=>putK m kv.1 kv.2) []
theorem Zbd:∀ (kvs m:List (Key × V)),(kvs.foldl (fun m kv=>putK m kv.1 kv.2) m).length <= m.length + kvs.length
 | [],m=>Nat.le_refl _
 | kv :: kvs,m=>by
  have h1:=Zbd kvs (putK m kv.1 kv.2)
  have h2:=ZbC m kv.1 kv.2
  rw [List.length_cons,List.foldl_cons]
  lia
theorem Zb9 (kvs:List (Key × V)):(putAll kvs).length <= kvs.length:=by
 have:=Zbd kvs []
 rw [List.length_nil,Nat.zero_add] at this
 exact this
theorem ZiI:∀ {kvs:List (Key × V)} {ps:List (Key × Value)} {m:List (Key × V)} {m':List (Key × Value)},KV kvs ps -> KV m m' -> KV (kvs.foldl (fun m kv=>putK m kv.1 kv.2) m) (merged m' ps)
 | _,_,_,_,.nil,h=>h
 | _,_,m,m',.cons (a:=kv) (b:=p) r t,h=>by
  have e:p.1 = kv.1:=r.1.symm
  have h1:=h.put kv.1 r.2
  have h2:=ZiI t h1
  show KV (List.foldl _ (putK m kv.1 kv.2) _) (merged (stored m' p.1 p.2) _)
  rw [e]
  exact h2
section
variable {X:Cx}
theorem Zbx (hc:X.calm = true):ZcF X (.type "dict") (fun xs H Q=>∃ l ys kvs,xs = [.ref l] /\ SqL X.K H l ys /\ ys.length <= 90000 /\ Paired (fun (y:V) (kv:Key × V)=>∃ t,y = .ref t /\ H t = some (.tup [kV kv.1,kv.2])) ys kvs /\ ∀ d,H d = none -> Q (.ref d) (upd H d (.dK (putAll kvs)))):=by
 intro pins s σ H xs us Q I r h
 obtain ⟨l,ys,kvs,rfl,hq,hlen,hp,q⟩:=h
 obtain ⟨u,rfl,ru⟩:=vals1 r
 cases ru
 obtain ⟨its,rv,⟨o,n,ho,ocl,odi,oda⟩,hz⟩:=I.list hq
 have hl:=rv.length
 obtain ⟨ocls,odict,odata,oslots⟩:=o
 simp only at ocl odi oda
 subst ocl odi oda
 have key:∀ {ys:List V} {kvs:List (Key × V)} {its:List Value},Paired (fun (y:V) (kv:Key × V)=>∃ t,y = .ref t /\ H t = some (.tup [kV kv.1,kv.2])) ys kvs -> Vals ys its -> ∃ ps:List (Key × Value),KV kvs ps /\ its.length = ps.length /\ ∀ (i:Nat) v p,its[i]? = some v -> ps[i]? = some p -> Srd.Zgy (Zy X.prog X.w) s.heap v p.1 p.2:=by
  intro ys kvs its hp
  induction hp generalizing its with
  | nil =>
   intro rv
   cases rv
   exact ⟨[],.nil,rfl,fun i v p h=>(nomatch h)⟩
  | @cons y kv ys kvs r t ih =>
   intro rv
   cases rv with
   | @cons _ v _ its ry rr =>
    obtain ⟨ps,h1,h2,h3⟩:=ih rr
    obtain ⟨ta,rfl,ht⟩:=r
    obtain rfl:v = Value.ref ta:=ry
    obtain ⟨_,us,rus,o,ho,hc',n,hd⟩:=I.hok ta _ ht
    obtain ⟨u1,u2,rfl,r1,r2⟩:=Vals.two rus
    refine ⟨(kv.1,u2) :: ps,.cons ⟨rfl,r2⟩ h1,by rw [List.length_cons,List.length_cons,h2],fun i v p e1 e2=>?_⟩
    cases i with
    | zero =>
     injection e1 with e1
     injection e2 with e2
     subst e1 e2
     exact ⟨ta,o,n,u1,rfl,ho,hc',hd,Zf5 r1⟩
    | succ i=>exact h3 i v p e1 e2
 obtain ⟨ps,h1,h2,h3⟩:=key hp rv
 refine Srd.ZcK (knd:=Zy X.prog X.w) (ps:=ps) (I.ok.hd hc) ho ⟨by rw [List.size_toArray]; exact h2,fun i v p e1 e2 h' hk=>?_⟩ (by rw [List.size_toArray]; lia) fun h' tk hd' hk=>?_
 ·obtain ⟨b,o,n,uk,e,ho2,r⟩:=h3 i v p (by rw [<- e1]; simp) e2
  exact ⟨b,o,n,uk,e,hk b o (Heap.lt_size ho2) ho2,r⟩
 ·have hkl:kvs.length = ps.length:=h1.length
  have hpl:=Zb9 kvs
  exact ⟨.ref _,_,I.laid (t':=tk) (fun b o e=>hk b o e) (Nat.le_refl _) (show Zal X.prog X.w _ h' _ (.dK (putAll kvs)) from ⟨by rw [sizeLine_eq]; lia,beq_eq_false_iff_ne.mpr (Ne.symm (Nat.ne_of_lt I.big)),_,ZiI h1 .nil,hd'⟩),rfl,q _ (I.hok.fresh (Nat.le_refl _))⟩
theorem ZhU {zs:List V} {ns:List Int} (h:zs.Perm (ns.map V.int)):∃ ms:List Int,zs = ms.map V.int /\ ms.Perm ns:=by
 obtain ⟨ms,rfl,_⟩:=Ze3 zs fun z hz=>h.mem_iff.mp hz
 refine ⟨ms,rfl,?_⟩
 have h2:=h.filterMap (fun v=>match v with | V.int i=>some i | _=>none)
 simpa [List.filterMap_map,Function.comp_def] using h2
theorem Zes:∀ {vs:List V} {us:List Value},Vals vs us -> ∀ v ∈ vs,∃ u ∈ us,RelV v u
 | _,_,.cons a t,v,hv=>by
  rcases List.mem_cons.mp hv with rfl | hv
  ·exact ⟨_,List.mem_cons_self ..,a⟩
  ·obtain ⟨u,hu,r⟩:=Zes t v hv
   exact ⟨u,List.mem_cons_of_mem _ hu,r⟩
theorem rising:∀ {ms:List Int} {us:List Value},Vals (ms.map V.int) us -> us.Pairwise (fun u v=>Srd.iLt v u = false) -> ms.Pairwise (· <= ·)
 | [],_,_,_=>.nil
 | m :: ms,us,r,h=>by
  cases r with
  | cons r rr =>
   obtain ⟨t,rfl⟩:=r
   obtain ⟨h1,h2⟩:=List.pairwise_cons.mp h
   refine List.pairwise_cons.mpr ⟨fun m' hm=>?_,rising rr h2⟩
   obtain ⟨u,hu,ru⟩:=Zes rr (V.int m') (List.mem_map.mpr ⟨m',hm,rfl⟩)
   obtain ⟨t',rfl⟩:=ru
   have:=of_decide_eq_false (h1 _ hu)
   have h3 : ¬ m' < m:=this
   lia
theorem strictly {ms:List Int} (h:ms.Pairwise (· <= ·)) (hn:ms.Nodup):ms.Pairwise (· < ·):=by
 refine List.pairwise_iff_getElem.mpr fun i j hi hj hij=>?_
 have h1:=(List.pairwise_iff_getElem.mp h) i j hi hj hij
 have h2:=(List.pairwise_iff_getElem.mp hn) i j hi hj hij
 lia
theorem ZhH {P:Program} {w:World} {kvs:List (Key × V)} {ps:List (Key × Value)} (h:KV kvs ps):∀ {es:List DictEntry} {ns:List Int},PySem.Pairs (Zy P w) es ps -> kvs.map (·.1) = ns.map Sum.inl -> Vals (ns.map V.int) (es.map (·.key)):=by
 have h':Paired (fun (p:Key × V) (q:Key × Value)=>p.1 = q.1 /\ RelV p.2 q.2) kvs ps:=h
 clear h
 induction h' with
 | nil =>
  intro es ns h2 e
  cases h2
  cases ns with
  | nil=>exact .nil
  | cons n ns=>cases e
 | cons r t ih =>
  intro es ns h2 e
  cases h2 with
  | cons h1 h2 h3 =>
   cases ns with
   | nil=>cases e
   | cons n ns =>
    rw [List.map_cons,List.map_cons] at e
    obtain ⟨e1,e2⟩:=List.cons.inj e
    refine .cons ?_ (ih h3 e2)
    rw [<- r.1,e1] at h1
    have h1':ZeK (Sum.inl n) _ = true:=h1
    rcases ZS h1' with ⟨i,t,he,hk⟩ | ⟨x,t,he,hk⟩
    ·cases he
     exact ⟨t,hk⟩
    ·cases he
theorem Zhl:∀ {kvs:List (Key × V)} {vs:List (Key × Value)},KV kvs vs -> kvs.map (·.1) = vs.map (·.1)
 | _,_,.nil=>rfl
 | _,_,.cons r t=>by rw [List.map_cons,List.map_cons,r.1,Zhl t]
theorem ZcZ (hc:X.calm = true):ZcF X (.builtin "sorted") (fun xs H Q=>∃ (d:Addr) (kvs:List (Key × V)) (ns:List Int),xs = [.ref d] /\ H d = some (.dK kvs) /\ kvs.length <= 90000 /\ kvs.map (·.1) = ns.map Sum.inl /\ ∀ (p:Addr) (ms:List Int),H p = none -> ms.Perm ns -> ms.Pairwise (· < ·) -> Q (.ref p) (upd H p (.lst (ms.map V.int)))):=by
 intro pins s σ H xs us Q I r h
 obtain ⟨d,kvs,ns,rfl,hd,hlen,hkn,q⟩:=h
 obtain ⟨u,rfl,rx⟩:=vals1 r
 obtain rfl:u = .ref d:=rx
 obtain ⟨hl,lo,vs,kv,o,es,ep,ho,hx,hdat,hko,hpr,hnd⟩:=Zj1 I.hok hd
 have hvals:=ZhH kv hpr hkn
 have hkl:kvs.length = vs.length:=kv.length
 have hnl:kvs.length = ns.length:=by have:=congrArg List.length hkn; simpa using this
 have hes:es.size = ns.length:=by
  have:=hvals.length
  simpa using this.symm
 have hnod:ns.Nodup:=by
  rw [<- Zhl kv,hkn] at hnd
  exact (List.pairwise_map.mp hnd).imp fun h e=>h (by rw [e])
 refine Srd.ZbD (C:=fun ys=>Vals (ns.map V.int) ys) Srd.Zgu (fun Q' E' hq=>?_) (fun ys h6 tk d6 hC k6 h2=>Srd.Zbu (fun v hv=>?_) h2) fun p ys out h' tk d6 c hC hperm hso kp e3 hle hos=>?_
 ·refine Srd.ZeC (ZjA lo) (I.ok.hd hc) (⟨o,ho,hx,hdat⟩:ZgH s.heap d es ep) (by rw [sizeLine_eq]; lia) fun acc h' tk kp hit hle=>?_
  have hacc:acc.toList = es.toList.map (·.key):=by
   refine List.ext_getElem? fun j=>?_
   rw [Array.getElem?_toList,List.getElem?_map,Array.getElem?_toList]
   cases hj:acc[j]? with
   | none =>
    have h3:acc.size <= j:=Array.getElem?_eq_none_iff.mp hj
    rw [hit.1] at h3
    rw [Array.getElem?_eq_none h3]
    rfl
   | some v =>
    obtain ⟨e,h1,rfl⟩:=hit.2 j v hj
    rw [h1]
    rfl
  rw [hacc]
  exact hq _ h' tk s.drawn kp hvals (by rw [List.length_map,Array.length_toList]; lia) hle
 ·obtain ⟨y,hy,ry⟩:=Zdt hC v hv
  obtain ⟨i,_,rfl⟩:=List.mem_map.mp hy
  obtain ⟨t,rfl⟩:=ry
  exact ⟨i,t,rfl⟩
 ·obtain ⟨zs,pz,rz⟩:=ZgF hperm hC
  obtain ⟨ms,rfl,pm⟩:=ZhU pz
  have hzl:=rz.length
  have I2:=I.laid (h':=h') (t':=tk) (a:=p) (o:=.lst (ms.map V.int)) (fun b o e=>kp b o e) hle (show Zal X.prog X.w _ h' _ (.lst (ms.map V.int)) from ⟨by rw [hzl,Array.length_toList,sizeLine_eq]; lia,out.toList,c,rz,e3⟩)
  exact ⟨.ref p,_,I2.draws (d:=d6),rfl,q p ms (I.hok.fresh hle) pm (strictly (rising rz hso) ((pm.nodup_iff).mpr hnod))⟩
end
end L2
namespace L2
open PySem PySem.Spec PyProof.Rows
section
variable {X:Cx} {x:Str} {ps:List Str} {j k:Nat} {sp:Sp} {e:Expr} {es:List Expr} {t:TA} {te:TE} {p pos:Pos}
end
end L2
namespace L2
open PySem PySem.Spec PyProof.Rows
section
variable {X:Cx} {x:Str} {ps:List Str} {j k:Nat} {sp:Sp} {e:Expr} {es:List Expr} {t:TA} {te:TE} {p pos:Pos}
end
end L2
namespace Stg
open PySem Sts
def tm (m:Nat):SetTable:={ mask:=m,place := #[],dummies := #[],finger:=0,led:=true,moves:=0,plain:=true }
theorem ZhZ {t t':SetTable} (e:t.mask = t'.mask) (p:SetTable.Probe):t.advance p = t'.advance p:=by
 unfold SetTable.advance
 rw [e]
theorem Zem {t t':SetTable} (e:t.mask = t'.mask):∀ (n:Nat) (p:SetTable.Probe),ZaP t n p = ZaP t' n p
 | 0,_=>rfl
 | n + 1,p=>by
  show ZaP t n (t.advance p) = ZaP t' n (t'.advance p)
  rw [ZhZ e,Zem e n]
theorem Zf2 {t t':SetTable} (e:t.mask = t'.mask) (h:Int):t.probeStart h = t'.probeStart h:=by
 unfold SetTable.probeStart
 rw [e]
def jn (m:Nat) (h:Int) (n:Nat):Nat:=(ZaP (tm m) n ((tm m).probeStart h)).j
theorem ZkS (t:SetTable) (h:Int) (n:Nat):(ZaP t n (t.probeStart h)).j = jn t.mask h n:=by
 unfold jn
 rw [Zf2 (t:=t) (t':=tm t.mask) rfl,Zem (t:=t) (t':=tm t.mask) rfl]
theorem Zer {m i:Nat} (h:i <= m):SetTable.runEnd m i <= m:=by
 unfold SetTable.runEnd
 split <;> lia
theorem Zgi (m i:Nat):i <= SetTable.runEnd m i:=by
 unfold SetTable.runEnd
 split <;> lia
theorem ZjV {m:Nat} {p:SetTable.Probe} (h:p.j + p.more <= m):((tm m).advance p).j + ((tm m).advance p).more <= m:=by
 unfold SetTable.advance
 split
 ·show p.j + 1 + (p.more - 1) <= m
  lia
 ·have h1:(p.i * 5 + 1 + p.perturb / 32) % (m + 1) <= m:=Nat.le_of_lt_succ (Nat.mod_lt _ (Nat.succ_pos m))
  have h2:=Zer h1
  have h3:=Zgi m ((p.i * 5 + 1 + p.perturb / 32) % (m + 1))
  show (p.i * 5 + 1 + p.perturb / 32) % (m + 1) + (SetTable.runEnd m ((p.i * 5 + 1 + p.perturb / 32) % (m + 1)) - (p.i * 5 + 1 + p.perturb / 32) % (m + 1)) <= m
  lia
theorem Zg5 {m:Nat}:∀ (n:Nat) {p:SetTable.Probe},p.j + p.more <= m -> (ZaP (tm m) n p).j + (ZaP (tm m) n p).more <= m
 | 0,_,h=>h
 | n + 1,p,h=>Zg5 n (ZjV h)
theorem Zih (m:Nat) (h:Int):((tm m).probeStart h).j + ((tm m).probeStart h).more <= m:=by
 have h1:SetTable.bits h % (m + 1) <= m:=Nat.le_of_lt_succ (Nat.mod_lt _ (Nat.succ_pos m))
 have h2:=Zer h1
 have h3:=Zgi m (SetTable.bits h % (m + 1))
 show SetTable.bits h % (m + 1) + (SetTable.runEnd m (SetTable.bits h % (m + 1)) - SetTable.bits h % (m + 1)) <= m
 lia
theorem ZkG (m:Nat) (h:Int) (n:Nat):jn m h n <= m:=by
 have:=Zg5 n (Zih m h)
 unfold jn
 lia
def Way (m:Nat) (U:Nat -> Prop) (h:Int) (j:Nat):Prop := ∃ n,jn m h n = j /\ ∀ k,k < n -> U (jn m h k)
theorem Way.mono {m:Nat} {U U':Nat -> Prop} {h:Int} {j:Nat} (w:Way m U h j) (hu:∀ y,y <= m -> U y -> U' y):Way m U' h j:=by
 obtain ⟨n,e,hk⟩:=w
 exact ⟨n,e,fun k hkn=>hu _ (ZkG _ _ _) (hk k hkn)⟩
theorem ZiB (t:SetTable):∀ (k:Nat) (p:SetTable.Probe),k <= p.more -> (ZaP t k p).j = p.j + k
 | 0,_,_=>rfl
 | k + 1,p,h=>by
  show (ZaP t k (t.advance p)).j = p.j + (k + 1)
  have e:t.advance p = { p with j:=p.j + 1,more:=p.more - 1 }:=by
   unfold SetTable.advance
   rw [if_pos (by lia)]
  rw [e,ZiB t k _ (show k <= p.more - 1 by lia)]
  show p.j + 1 + k = _
  lia
theorem Ze9 {m:Nat} {owner:Array (Option Nat)}:∀ (fuel:Nat) (p:SetTable.Probe) (j:Nat),SetTable.layClean.free m owner fuel p.i p.perturb = some j -> p.j = p.i -> p.more = SetTable.runEnd m p.i - p.i ->
  ∃ n,(ZaP (tm m) n p).j = j /\ ∀ k,k < n -> owner.getD (ZaP (tm m) k p).j (some 0) ≠ none
 | 0,p,j,h,_,_=>by
  unfold SetTable.layClean.free at h
  cases h
 | fuel + 1,p,j,h,hj,hm=>by
  unfold SetTable.layClean.free at h
  have hge:=Zgi m p.i
  cases hf:(List.range (SetTable.runEnd m p.i + 1 - p.i)).find? fun k=>(owner.getD (p.i + k) (some 0)).isNone with
  | some k' =>
   rw [hf] at h
   have e:p.i + k' = j:=Option.some.inj h
   obtain ⟨h1,h2,h3⟩:=List.find?_range_eq_some.mp hf
   have hk':k' <= p.more:=by
    have:=List.mem_range.mp h2
    lia
   refine ⟨k',by rw [ZiB _ _ _ hk',hj]; exact e,fun k hk hn=>?_⟩
   rw [ZiB _ _ _ (by lia),hj] at hn
   have h4:=h3 k hk
   rw [hn] at h4
   cases h4
  | none =>
   rw [hf] at h
   have h':SetTable.layClean.free m owner fuel (lp (tm m) p).i (lp (tm m) p).perturb = some j:=h
   obtain ⟨n',e,hk⟩:=Ze9 fuel (lp (tm m) p) j h' rfl rfl
   have hadv:=ZhQ (tm m) p.more p rfl
   refine ⟨p.more + 1 + n',by rw [Za5,hadv]; exact e,fun k hkn=>?_⟩
   by_cases hlt:k <= p.more
   ·rw [ZiB _ _ _ hlt,hj]
    have:=List.find?_eq_none.mp hf k (List.mem_range.mpr (by lia))
    intro hn
    rw [hn] at this
    exact this rfl
   ·have e2:k = p.more + 1 + (k - (p.more + 1)):=by lia
    rw [e2,Za5,hadv]
    exact hk _ (by lia)
def WO (m:Nat) (all:List Int) (owner:Array (Option Nat)):Prop := ∀ j k,owner.getD j none = some k -> ∃ x,all[k]? = some x /\ Way m (fun y=>owner.getD y (some 0) ≠ none) x j
theorem Zfj {owner:Array (Option Nat)} {j y:Nat} {v d:Option Nat} (hy:y ≠ j):(owner.setIfInBounds j v).getD y d = owner.getD y d:=by
 simp only [Array.getD,Array.size_setIfInBounds]
 split
 ·rename_i hy2
  exact Array.getElem_setIfInBounds_ne (by simpa using hy2) (Ne.symm hy)
 ·rfl
theorem ZdX {m:Nat} (hg:Good m) (all:List Int):∀ (hs pre:List Int) (owner:Array (Option Nat)),all = pre ++ hs -> Own m owner pre.length -> WO m all owner -> pre.length + hs.length <= m ->
  ∃ owner',hs.foldl (fun (acc:Option (Array (Option Nat) × Nat)) h=>do
   let (owner,k) <- acc
   let j <- SetTable.layClean.free m owner (SetTable.turns m) (SetTable.bits h % (m + 1)) (SetTable.bits h)
   pure (owner.setIfInBounds j (some k),k + 1)) (some (owner,pre.length)) = some (owner',pre.length + hs.length) /\ Own m owner' (pre.length + hs.length) /\ WO m all owner'
 | [],pre,owner,_,h,hw,_=>⟨owner,rfl,h,hw⟩
 | x :: hs,pre,owner,ha,h,hw,hl=>by
  rw [List.length_cons] at hl
  obtain ⟨j,hj,ho⟩:=Zfa h (by lia)
  have hb:SetTable.bits x < 2 ^ 64:=(ZbQ (SetTable.fresh 0 0 true) x).2.1
  obtain ⟨n,hn,e⟩:=ZdY (t:=tm m) (p:={ j:=0,more:=0,i:=SetTable.bits x % (m + 1),perturb:=SetTable.bits x,dummy:=none }) hg hb hj
  obtain ⟨j',hf,ho'⟩:=ZcO ho n (SetTable.turns m) _ (by unfold SetTable.turns; have:n <= 13 + m:=hn; lia) e
  have hf':SetTable.layClean.free m owner (SetTable.turns m) (SetTable.bits x % (m + 1)) (SetTable.bits x) = some j':=hf
  obtain ⟨nw,ew,hkw⟩:=Ze9 (m:=m) (owner:=owner) (SetTable.turns m) ((tm m).probeStart x) j' hf' rfl rfl
  have hs':j' < owner.size:=by
   apply Classical.byContradiction
   intro hn
   rw [Array.getD,dif_neg hn] at ho'
   cases ho'
  have grow:∀ y,owner.getD y (some 0) ≠ none -> (owner.setIfInBounds j' (some pre.length)).getD y (some 0) ≠ none:=fun y hy=>by
   by_cases ey:y = j'
   ·rw [ey] at hy
    exact absurd ho' hy
   ·rw [Zfj ey]
    exact hy
  have hw':WO m all (owner.setIfInBounds j' (some pre.length)):=fun y k hyk=>by
   by_cases ey:y = j'
   ·subst ey
    have hk:k = pre.length:=by
     have:(owner.setIfInBounds y (some pre.length)).getD y none = some pre.length:=by simp [Array.getD,hs']
     rw [this] at hyk
     exact (Option.some.inj hyk).symm
    subst hk
    refine ⟨x,by rw [ha]; simp,nw,ew,fun k hk=>grow _ (hkw k hk)⟩
   ·rw [Zfj ey] at hyk
    obtain ⟨z,e1,e2⟩:=hw y k hyk
    exact ⟨z,e1,e2.mono fun y _ hy=>grow y hy⟩
  have hlen:(pre ++ [x]).length = pre.length + 1:=by rw [List.length_append,List.length_singleton]
  obtain ⟨owner',h1,h2,h3⟩:=ZdX hg all hs (pre ++ [x]) _ (by rw [ha]; simp) (by rw [hlen]; exact ZgN h ho') hw' (by rw [hlen]; lia)
  rw [hlen] at h1 h2
  refine ⟨owner',?_,by rw [List.length_cons,show pre.length + (hs.length + 1) = pre.length + 1 + hs.length by lia]; exact h2,h3⟩
  rw [List.foldl_cons]
  simp only [Option.bind_eq_bind,Option.bind_some,hf',Option.pure_def]
  rw [List.length_cons,show pre.length + (hs.length + 1) = pre.length + 1 + hs.length by lia]
  exact h1
theorem Zfs {m:Nat} {owner:Array (Option Nat)} {j k:Nat}:(j,k) ∈ Z5 m owner ↔ j <= m /\ owner.getD j none = some k:=by
 unfold Z5
 rw [List.mem_filterMap]
 constructor
 ·rintro ⟨y,hy,e⟩
  cases ho:owner.getD y none with
  | none=>rw [ho] at e; cases e
  | some v =>
   rw [ho] at e
   have e':(y,v) = (j,k):=Option.some.inj e
   cases e'
   exact ⟨Nat.le_of_lt_succ (List.mem_range.mp hy),ho⟩
 ·rintro ⟨hj,ho⟩
  exact ⟨j,List.mem_range.mpr (Nat.lt_succ_of_le hj),by rw [ho]; rfl⟩
theorem Zic {m:Nat} (hg:Good m) (fi mo:Nat) (led plain:Bool) (hs:Array Int) (hl:hs.size <= m) {t:SetTable} {order:Array Nat} (e:SetTable.laid m fi mo led plain hs = some (t,order)) :
  ∀ (i j k:Nat),t.place[i]? = some j -> order[i]? = some k -> ∃ x,hs[k]? = some x /\ Way m (· ∈ t.place.toList) x j:=by
 have h0:Own m (Array.replicate (m + 1) none) 0:=by
  refine ⟨Array.size_replicate,?_⟩
  have:Z5 m (Array.replicate (m + 1) none) = []:=by
   unfold Z5
   rw [List.filterMap_eq_nil_iff]
   intro j hj
   have:(Array.replicate (m + 1) (none:Option Nat)).getD j none = none:=by
    simp [Array.getD]
   rw [this]
   rfl
  rw [this]
  exact List.Perm.refl _
 have hw0:WO m hs.toList (Array.replicate (m + 1) none):=fun j k hjk=>by
  have:(Array.replicate (m + 1) (none:Option Nat)).getD j none = none:=by simp [Array.getD]
  rw [this] at hjk
  cases hjk
 obtain ⟨owner,h1,h2,h3⟩:=ZdX hg hs.toList hs.toList [] _ rfl h0 hw0 (by show 0 + hs.toList.length <= m; rw [Array.length_toList]; lia)
 have hc:SetTable.layClean m hs = some owner:=by
  unfold SetTable.layClean
  rw [<- Array.foldl_toList]
  have:=congrArg (Option.map (·.1)) h1
  exact this
 have e2:t = { mask:=m,place:=((Z5 m owner).map (·.1)).toArray,dummies := #[],finger:=fi,led:=led,moves:=mo,plain:=plain } /\ order = ((Z5 m owner).map (·.2)).toArray:=by
  unfold SetTable.laid at e
  rw [hc] at e
  have e':=Option.some.inj e
  exact ⟨(congrArg Prod.fst e').symm,(congrArg Prod.snd e').symm⟩
 obtain ⟨rfl,rfl⟩:=e2
 intro i j k hj hk
 have hj':(Z5 m owner)[i]?.map (·.1) = some j:=by
  rw [<- List.getElem?_map,<- hj]
  simp
 have hk':(Z5 m owner)[i]?.map (·.2) = some k:=by
  rw [<- List.getElem?_map,<- hk]
  simp
 cases hp:(Z5 m owner)[i]? with
 | none=>rw [hp] at hj'; cases hj'
 | some pr =>
  rw [hp] at hj' hk'
  have ej:pr.1 = j:=Option.some.inj hj'
  have ek:pr.2 = k:=Option.some.inj hk'
  have hm:(j,k) ∈ Z5 m owner:=by
   rw [<- ej,<- ek]
   exact List.mem_of_getElem? hp
  obtain ⟨x,e1,w⟩:=h3 j k (Zfs.mp hm).2
  refine ⟨x,by rw [<- Array.getElem?_toList]; exact e1,w.mono fun y hy hu=>?_⟩
  show y ∈ ((Z5 m owner).map (·.1)).toArray.toList
  have hsz:=h2.size
  have hlt:y < owner.size:=by lia
  cases ho:owner.getD y none with
  | none =>
   exfalso
   apply hu
   simp only [Array.getD,hlt,dif_pos] at ho ⊢
   exact ho
  | some v=>exact List.mem_map.mpr ⟨(y,v),Zfs.mpr ⟨hy,ho⟩,rfl⟩
end Stg
namespace Stg
open PySem Sts
theorem gm2 {t:SetTable} (hd:t.dummies = #[]) (ha:Nat -> Int) (h:Int):∀ (n fuel:Nat) (p:SetTable.Probe),p.dummy = none -> n < fuel -> t.slot (ZaP t n p).j = .empty ->
  (∃ k,k <= n /\ SetTable.probe.go t ha h fuel p = some (.empty (ZaP t k p).j none) /\ t.slot (ZaP t k p).j = .empty /\ ∀ m,m < k -> ∃ i,t.slot (ZaP t m p).j = .live i /\ (ha i == h) = false) \/
  ∃ k i,k < n /\ SetTable.probe.go t ha h fuel p = some (.candidate (ZaP t k p).j i (ZaP t (k + 1) p)) /\ t.slot (ZaP t k p).j = .live i /\ ∀ m,m < k -> ∃ i,t.slot (ZaP t m p).j = .live i /\ (ha i == h) = false
 | n,0,_,_,hn,_=>absurd hn (Nat.not_lt_zero _)
 | n,fuel + 1,p,hp,hn,he=>by
  unfold SetTable.probe.go
  cases hs:t.slot p.j with
  | empty=>exact .inl ⟨0,Nat.zero_le _,by rw [hp]; rfl,hs,fun m hm=>absurd hm (Nat.not_lt_zero _)⟩
  | dummy =>
   exfalso
   unfold SetTable.slot at hs
   dsimp only at hs
   split at hs
   ·cases hs
   ·rw [hd] at hs
    exact SetTable.Slot.noConfusion hs
  | live i =>
   dsimp only
   cases n with
   | zero =>
    rw [show (ZaP t 0 p).j = p.j from rfl,hs] at he
    cases he
   | succ n =>
    by_cases hh:(ha i == h) = true
    ·rw [if_pos hh]
     exact .inr ⟨0,i,Nat.succ_pos _,rfl,hs,fun m hm=>absurd hm (Nat.not_lt_zero _)⟩
    ·rw [if_neg hh]
     have hh':(ha i == h) = false:=by
      cases e:(ha i == h) with
      | true=>exact absurd e hh
      | false=>rfl
     have hdm:(t.advance p).dummy = none:=by
      unfold SetTable.advance
      split
      ·exact hp
      ·exact hp
     have ext:∀ k,(∀ m,m < k -> ∃ i,t.slot (ZaP t m (t.advance p)).j = .live i /\ (ha i == h) = false) -> ∀ m,m < k + 1 -> ∃ i,t.slot (ZaP t m p).j = .live i /\ (ha i == h) = false:=fun k hk m hm=>by
      cases m with
      | zero=>exact ⟨i,hs,hh'⟩
      | succ m=>exact hk m (by lia)
     rcases gm2 hd ha h n fuel (t.advance p) hdm (by lia) he with ⟨k,hk,e,h1,h2⟩ | ⟨k,i',hk,e,h1,h2⟩
     ·exact .inl ⟨k + 1,by lia,e,h1,ext k h2⟩
     ·exact .inr ⟨k + 1,i',by lia,e,h1,ext k h2⟩
theorem Zhy {t:SetTable} {j i:Nat} (h:t.slot j = .live i):t.place[i]? = some j:=by
 unfold SetTable.slot at h
 dsimp only at h
 split at h
 ·rename_i h2
  cases h
  exact eq_of_beq h2
 ·split at h <;> cases h
section
variable {prog:Program} {w:World} {K:Type} [DecidableEq K] {knd:KeyKind prog w K} {A:Around} {E:Value -> Shared -> Prop} {s:Shared}
theorem Zb0 {h:Heap} {x y:List K} {b:Addr} (h1:IsTupleKey knd h x b) (h2:IsTupleKey knd h y b):x = y:=by
 obtain ⟨o,its,n,e1,_,e3,e4⟩:=h1
 obtain ⟨o',its',n',f1,_,f3,f4⟩:=h2
 rw [e1] at f1
 cases f1
 rw [e3] at f3
 cases f3
 exact e4.inj f4
def ZaF (knd:KeyKind prog w K) (h:Heap) (ks:List K) (e:Int × Value):Prop := ∃ b,e.2 = .ref b /\ IsTupleKey knd h ks b
structure TabS (knd:KeyKind prog w K) (h:Heap) (es:Array (Int × Value)) (t:SetTable):Prop where
 tab:Tab es t
 ent:∀ e ∈ es.toList,∃ ks,ZaF knd h ks e /\ e.1 = tupleKeyHash knd ks
 way:∀ (i:Nat) e j,es[i]? = some e -> t.place[i]? = some j -> Way t.mask (· ∈ t.place.toList) e.1 j
 one:es.toList.Pairwise fun e e'=>∀ ks,ZaF knd h ks e -> ¬ ZaF knd h ks e'
theorem TabS.ents {h:Heap} {es:Array (Int × Value)} {t:SetTable} (x:TabS knd h es t):ZjN knd false h es:=fun e he=>by
 obtain ⟨ks,⟨b,e1,e2⟩,_⟩:=x.ent e he
 exact ⟨ks,b,e1,e2⟩
theorem TabS.none {h:Heap} {es:Array (Int × Value)} {t:SetTable} (x:TabS knd h es t) {ks:List K} {N:Nat} (he:t.slot (jn t.mask (tupleKeyHash knd ks) N) = .empty)
  (hp:∀ m,m < N -> ∃ i e,t.slot (jn t.mask (tupleKeyHash knd ks) m) = .live i /\ es[i]? = some e /\ ¬ ZaF knd h ks e):∀ e ∈ es.toList,¬ ZaF knd h ks e:=fun e hem hb=>by
 obtain ⟨i0,hi0⟩:=List.mem_iff_getElem?.mp hem
 rw [Array.getElem?_toList] at hi0
 have hlt:=(Array.getElem?_eq_some_iff.mp hi0).1
 obtain ⟨ks',hb',hh⟩:=x.ent e hem
 have ek:ks' = ks:=by
  obtain ⟨b,e1,e2⟩:=hb
  obtain ⟨b',f1,f2⟩:=hb'
  rw [e1] at f1
  cases f1
  exact Zb0 f2 e2
 subst ek
 have hsz:=x.tab.size
 have hj:t.place[i0]? = some t.place[i0]:=Array.getElem?_eq_getElem (by lia)
 obtain ⟨n,en,hn⟩:=x.way i0 e _ hi0 hj
 rw [hh] at en hn
 have hmem:t.place[i0] ∈ t.place.toList:=Array.getElem_mem_toList (by lia)
 rcases Nat.lt_trichotomy n N with hlt2 | heq | hgt
 ·obtain ⟨i,e',h1,h2,h3⟩:=hp n hlt2
  have h4:=Zhy h1
  rw [en] at h4
  have hi:i = i0:=by
   have l1:=(Array.getElem?_eq_some_iff.mp h4).1
   have e5:t.place[i] = t.place[i0]:=(Array.getElem?_eq_some_iff.mp h4).2
   rcases Nat.lt_trichotomy i i0 with z | z | z
   ·have:=Zb5 x.tab.ris z (by lia)
    lia
   ·exact z
   ·have:=Zb5 x.tab.ris z l1
    lia
  rw [hi,hi0] at h2
  cases h2
  exact h3 hb
 ·rw [<- heq,en] at he
  exact ZbO x.tab.ris he hmem
 ·exact ZbO x.tab.ris he (hn N hgt)
set_option maxHeartbeats 1000000 in
theorem ZhS {S a:Addr} {o:Obj} {es:Array (Int × Value)} {ep:Nat} {t:SetTable} {ks:List K} (hu:A.units < cLine) (ho:s.heap.get? S = some o) (hd:o.data = .set es ep t) (hT2:TabS knd s.heap es t) (hk:IsTupleKey knd s.heap ks a) {Q:SetFound -> Shared -> Prop}
  (q0:(∃ e ∈ es.toList,ZaF knd s.heap ks e) -> Q (.there none) s) (q1:∀ j,t.slot j = .empty -> (∀ e ∈ es.toList,¬ ZaF knd s.heap ks e) -> Way t.mask (· ∈ t.place.toList) (tupleKeyHash knd ks) j -> Q (.free j false) s) :
  ∀ (fuel n c:Nat) (stand:Option SetTable.Probe),stand.getD (t.probeStart (tupleKeyHash knd ks)) = ZaP t c (t.probeStart (tupleKeyHash knd ks)) -> (∀ m,m < c -> ∃ i e,t.slot (jn t.mask (tupleKeyHash knd ks) m) = .live i /\ es[i]? = some e /\ ¬ ZaF knd s.heap ks e) ->
   t.slot (ZaP t n (stand.getD (t.probeStart (tupleKeyHash knd ks)))).j = .empty -> n < 10 * SetTable.turns t.mask -> n < fuel ->
  wpAny (model prog w) A (setSearchFrom S (.ref a) (tupleKeyHash knd ks) true fuel stand) Q E s
 | 0,n,_,_,_,_,_,_,hn=>absurd hn (Nat.not_lt_zero _)
 | fuel + 1,n,c,stand,hst0,hpass,he,hn1,hn=>by
  have hT:=hT2.tab
  have hE:=hT2.ents
  have hdm:(stand.getD (t.probeStart (tupleKeyHash knd ks))).dummy = none:=by rw [hst0]; exact Zc5 t c _ (ZbQ t _).2.2
  unfold setSearchFrom
  refine wpAny_bind (wpAny_setState_of ho hd hT.fits ?_)
  dsimp only
  have hgw:t.gaveWay = false:=by
   unfold SetTable.gaveWay
   rw [Zio hT.good]
   rfl
  rw [hgw,if_neg (by decide)]
  have hat:∀ m,(ZaP t m (stand.getD (t.probeStart (tupleKeyHash knd ks)))).j = jn t.mask (tupleKeyHash knd ks) (c + m):=fun m=>by rw [hst0,<- Za5,ZkS]
  have live_es:∀ {j i},t.slot j = .live i -> ∃ e,es[i]? = some e:=fun {j i} hl=>⟨_,Array.getElem?_eq_getElem (by have:=ZhN hl; rw [hT.size] at this; exact this)⟩
  have hne:∀ {i:Nat} {e:Int × Value},es[i]? = some e -> (((es[i]?.map (·.1)).getD 0 == tupleKeyHash knd ks) = false) -> ¬ ZaF knd s.heap ks e:=fun {i e} hie hh hb=>by
   rw [hie] at hh
   obtain ⟨ks',hb',e2⟩:=hT2.ent e (by rw [<- Array.getElem?_toList] at hie; exact List.mem_of_getElem? hie)
   have ek:ks' = ks:=by
    obtain ⟨b,f1,f2⟩:=hb
    obtain ⟨b',g1,g2⟩:=hb'
    rw [f1] at g1
    cases g1
    exact Zb0 g2 f2
   rw [ek] at e2
   have hh':(e.1 == tupleKeyHash knd ks) = false:=hh
   rw [e2] at hh'
   simp at hh'
  generalize hst:stand.getD (t.probeStart (tupleKeyHash knd ks)) = p at hdm he hat hst0
  split
  ·rename_i met hm
   unfold SetTable.probe at hm
   rcases gm2 hT.none _ (tupleKeyHash knd ks) n _ p hdm hn1 he with ⟨k,hkn,e,hj,hpk⟩ | ⟨k,i,hkn,e,hl,hpk⟩
   ·rw [e] at hm
    cases hm
    rw [hat k] at hj
    have hall:∀ m,m < c + k -> ∃ i e,t.slot (jn t.mask (tupleKeyHash knd ks) m) = .live i /\ es[i]? = some e /\ ¬ ZaF knd s.heap ks e:=fun m hm=>by
     by_cases hmc:m < c
     ·exact hpass m hmc
     ·obtain ⟨i,h1,h2⟩:=hpk (m - c) (by lia)
      rw [hat,show c + (m - c) = m by lia] at h1
      obtain ⟨e,he2⟩:=live_es h1
      exact ⟨i,e,h1,he2,hne he2 h2⟩
    refine wpAny_pure ?_
    rw [hat k]
    refine q1 _ hj (hT2.none hj hall) ⟨c + k,rfl,fun m hm=>?_⟩
    obtain ⟨i,_,h1,_⟩:=hall m hm
    have:=Zhy h1
    rw [<- Array.getElem?_toList] at this
    exact List.mem_of_getElem? this
   ·rw [e] at hm
    cases hm
    have hi:=ZhN hl
    rw [hT.size] at hi
    obtain ⟨ks',b,hb2,hb⟩:=hE es[i] (Array.getElem_mem_toList hi)
    have hmemi:es[i] ∈ es.toList:=Array.getElem_mem_toList hi
    have hes:es[i]? = some (es[i].1,Value.ref b):=by rw [Array.getElem?_eq_getElem hi,<- hb2]
    have hsm:t.sameMemory t.moves t.mask = some true:=by
     unfold SetTable.sameMemory
     rw [if_pos (beq_self_eq_true _)]
    have again:ks' ≠ ks -> wpAny (model prog w) A (setSearchFrom S (.ref a) (tupleKeyHash knd ks) true fuel (some (ZaP t (k + 1) p))) Q E s:=fun hneq=>by
     refine ZhS hu ho hd hT2 hk q0 q1 fuel (n - (k + 1)) (c + (k + 1)) (some (ZaP t (k + 1) p)) (by show ZaP t (k + 1) p = _; rw [hst0,<- Za5]) (fun m hm=>?_) (by
      show t.slot (ZaP t (n - (k + 1)) (ZaP t (k + 1) p)).j = .empty
      rw [<- Za5,show k + 1 + (n - (k + 1)) = n by lia]
      exact he) (by lia) (by lia)
     by_cases hmc:m < c
     ·exact hpass m hmc
     by_cases hmk:m < c + k
     ·obtain ⟨i',h1,h2⟩:=hpk (m - c) (by lia)
      rw [hat,show c + (m - c) = m by lia] at h1
      obtain ⟨e,he2⟩:=live_es h1
      exact ⟨i',e,h1,he2,hne he2 h2⟩
     ·have em:m = c + k:=by lia
      rw [hat k,<- em] at hl
      refine ⟨i,es[i],hl,Array.getElem?_eq_getElem hi,fun ⟨b',f1,f2⟩=>?_⟩
      rw [hb2] at f1
      cases f1
      exact hneq (Zb0 hb f2)
    dsimp only
    rw [hes]
    dsimp only
    have hst2:∀ v ∈ (Array.filter (fun x=>x.fst == tupleKeyHash knd ks) es).toList.map (fun x=>x.snd),∃ ks b,v = Value.ref b /\ IsTupleKey knd s.heap ks b:=fun v hv=>by
     obtain ⟨x,hx,rfl⟩:=List.mem_map.mp hv
     rw [Array.toList_filter] at hx
     exact hE x (List.mem_filter.mp hx).1
    cases hled:t.led with
    | false =>
     rw [if_pos (by decide)]
     refine wpAny_bind (Zkd hk _ hst2 ?_)
     rw [if_neg (by decide)]
     refine wpAny_bind (wpAny_holding (wpAny_eqBool_tuple hu hb hk (wpAny_bind (wpAny_setState_of ho hd hT.fits ?_))))
     by_cases heq:ks' = ks
     ·rw [decide_eq_true heq,if_pos (by decide)]
      exact wpAny_pure (q0 ⟨es[i],hmemi,b,hb2,heq ▸ hb⟩)
     ·rw [decide_eq_false heq,if_neg (by decide)]
      dsimp only
      rw [hsm]
      dsimp only
      rw [if_pos rfl,hl]
      dsimp only
      rw [hes]
      dsimp only
      refine wpAny_bind (wpAny_isSame_ref_self (wpAny_bind (wpAny_pure ?_)))
      rw [if_pos rfl]
      dsimp only
      rw [if_neg (by decide)]
      exact again heq
    | true =>
     rw [if_neg (by decide)]
     refine wpAny_bind (wpAny_holding (wpAny_eqBool_tuple hu hb hk (wpAny_bind (wpAny_setState_of ho hd hT.fits ?_))))
     by_cases heq:ks' = ks
     ·rw [decide_eq_true heq,if_pos (by decide)]
      exact wpAny_pure (q0 ⟨es[i],hmemi,b,hb2,heq ▸ hb⟩)
     ·rw [decide_eq_false heq,if_neg (by decide)]
      dsimp only
      rw [hsm]
      dsimp only
      rw [if_pos rfl,hl]
      dsimp only
      rw [hes]
      dsimp only
      refine wpAny_bind (wpAny_isSame_ref_self (wpAny_bind (wpAny_pure ?_)))
      rw [if_pos rfl]
      dsimp only
      rw [if_neg (by decide)]
      exact again heq
  ·rename_i hm
   exfalso
   unfold SetTable.probe at hm
   rcases gm2 hT.none _ (tupleKeyHash knd ks) n _ p hdm hn1 he with ⟨k,hkn,e,hj,hpk⟩ | ⟨k,i,hkn,e,hl,hpk⟩
   ·exact hm _ e
   ·exact hm _ e
end
end Stg
namespace Stg
open PySem Sts
theorem Zdw {α : Type} (xs:Array α) {p:Nat} (hp:p <= xs.size) (x : α) (i:Nat):(SetTable.insertAt xs p x)[i]? = if i < p then xs[i]? else if i = p then some x else xs[i - 1]? := by
 have hl:(xs.toList.take p).length = p:=by rw [List.length_take,Array.length_toList]; lia
 rw [<- Array.getElem?_toList,ZbT]
 by_cases h1:i < p
 ·rw [if_pos h1,List.getElem?_append_left (by lia),List.getElem?_take_of_lt h1,Array.getElem?_toList]
 rw [if_neg h1,List.getElem?_append_right (by lia),hl]
 by_cases h2:i = p
 ·rw [if_pos h2,h2,Nat.sub_self]
  rfl
 ·rw [if_neg h2,show i - p = (i - 1 - p) + 1 by lia,List.getElem?_cons_succ,List.getElem?_drop,show p + (i - 1 - p) = i - 1 by lia,Array.getElem?_toList]
section
variable {prog:Program} {w:World} {K:Type} [DecidableEq K] {knd:KeyKind prog w K} {A:Around} {E:Value -> Shared -> Prop} {s:Shared}
abbrev One (knd:KeyKind prog w K) (h:Heap) (l:List (Int × Value)):Prop:=l.Pairwise fun e e'=>∀ ks,ZaF knd h ks e -> ¬ ZaF knd h ks e'
theorem One.perm {h:Heap} {l l':List (Int × Value)} (x:One knd h l) (p:l'.Perm l):One knd h l':=(p.pairwise_iff fun {a b} hab ks hb ha=>hab ks ha hb).mpr x
theorem ZgS {h h':Heap} {S:Addr} {o o':Obj} {es es':Array (Int × Value)} {ep ep':Nat} {t t':SetTable} (ho:h.get? S = some o) (hd:o.data = .set es ep t) (ho':h'.get? S = some o') (hd':o'.data = .set es' ep' t') (sb:Heap.SameBut S h h') (ks:List K) (e:Int × Value):ZaF knd h ks e ↔ ZaF knd h' ks e:=by
 constructor
 ·rintro ⟨b,e1,e2⟩
  exact ⟨b,e1,Zi4 ho hd sb e2⟩
 ·rintro ⟨b,e1,o2,items,n,h1,h2,h3,h4⟩
  have hne:b ≠ S:=fun z=>by
   rw [z,ho'] at h1
   cases h1
   rw [hd'] at h3
   cases h3
  exact ⟨b,e1,o2,items,n,(sb.2 b hne).symm.trans h1,h2,h3,h4⟩
def ZeF (knd:KeyKind prog w K) (h:Heap) (S:Addr) (vs:Value -> Prop) (P:List K -> Prop) (n:Nat) (led:Bool):Prop :=
 ∃ o es ep t,h.get? S = some o /\ o.ExactSet /\ o.data = .set es ep t /\ TabS knd h es t /\ es.size <= n /\ t.led = led /\ (∀ e ∈ es.toList,vs e.2) /\ ∀ ks,(∃ e ∈ es.toList,ZaF knd h ks e) ↔ P ks
theorem Zj2 {order:Array Nat} {es:Array (Int × Value)} (hall:∀ k ∈ order.toList,k < es.size) (i:Nat):(order.filterMap (es[·]?))[i]? = order[i]?.bind (es[·]?):=by
 rw [<- Array.getElem?_toList,Array.toList_filterMap,<- Array.getElem?_toList]
 generalize order.toList = l at hall
 induction l generalizing i with
 | nil=>simp
 | cons k l ih =>
  have hk:=hall k (List.mem_cons_self ..)
  rw [List.filterMap_cons_some (b:=es[k]) (Array.getElem?_eq_getElem hk)]
  cases i with
  | zero =>
   rw [List.getElem?_cons_zero,List.getElem?_cons_zero]
   exact (Array.getElem?_eq_getElem hk).symm
  | succ i =>
   rw [List.getElem?_cons_succ,List.getElem?_cons_succ]
   exact ih i fun z hz=>hall z (List.mem_cons_of_mem _ hz)
set_option maxHeartbeats 1000000 in
theorem Zkj {S:Addr} {o:Obj} {es:Array (Int × Value)} {ep:Nat} {t:SetTable} {Q:Unit -> Shared -> Prop} (ho:s.heap.get? S = some o) (hd:o.data = .set es ep t) (hf:t.fits es.size = true) (h1:1 <= es.size) (hn:es.size <= 1000)
  (h:∀ (es':Array (Int × Value)) (t':SetTable) (h':Heap),es'.toList.Perm es.toList -> Tab es' t' -> (∀ (i:Nat) e j,es'[i]? = some e -> t'.place[i]? = some j -> Way t'.mask (· ∈ t'.place.toList) e.1 j) -> t'.led = t.led -> h'.get? S = some { o with data:=.set es' (ep + 1) t' } -> Heap.SameBut S s.heap h' -> Q () { s with heap:=h' }) :
  wpAny (model prog w) A (setRelay S (SetTable.grown es.size)) Q E s:=by
 have hgr:SetTable.grown es.size = es.size * 4:=by unfold SetTable.grown; rw [if_neg (by lia)]
 rw [hgr]
 obtain ⟨g1,g2,g3⟩:=above (n:=es.size * 4) (by lia)
 unfold setRelay
 refine wpAny_bind (wpAny_setState_of ho hd hf ?_)
 dsimp only
 rw [if_neg (by rw [sizeLine_eq]; lia)]
 obtain ⟨t',order,e,m1,m2,m3,m4,m5,m6,m7,m8⟩:=ZhC g1 t.finger (t.movedTo (SetTable.sizeAbove (es.size * 4) - 1)) t.led t.plain (es.map (·.1)) (by rw [Array.size_map]; lia)
 have hway:=Zic g1 t.finger (t.movedTo (SetTable.sizeAbove (es.size * 4) - 1)) t.led t.plain (es.map (·.1)) (by rw [Array.size_map]; lia) e
 rw [Array.size_map] at m3 m4
 have e2:t.relaid (es.map (·.1)) (es.size * 4) = some (t',order):=e
 rw [e2]
 have hperm:(order.filterMap (es[·]?)).toList.Perm es.toList:=by
  rw [Array.toList_filterMap]
  exact (m4.filterMap _).trans (List.Perm.of_eq (filterMap_getElem?_range es))
 have hsz:(order.filterMap (es[·]?)).size = es.size:=by
  rw [<- Array.length_toList,hperm.length_eq,Array.length_toList]
 have hw2:∀ (i:Nat) e j,(order.filterMap (es[·]?))[i]? = some e -> t'.place[i]? = some j -> Way t'.mask (· ∈ t'.place.toList) e.1 j:=fun i e j hi hj=>by
  rw [Zj2 (fun k hk=>List.mem_range.mp (m4.mem_iff.mp hk))] at hi
  cases ho2:order[i]? with
  | none=>rw [ho2] at hi; cases hi
  | some k =>
   rw [ho2] at hi
   have hi':es[k]? = some e:=hi
   obtain ⟨x,hx,hwx⟩:=hway i j k hj ho2
   rw [Array.getElem?_map,hi'] at hx
   have ex:e.1 = x:=Option.some.inj hx
   rw [m1,ex]
   exact hwx
 refine wpAny_bind (wpAny_of_eq (a:=(order.filterMap (es[·]?),t')) ?_ ?_)
 ·change (ite (((order.filterMap (es[·]?)).size != es.size) = true) _ _:Sem (Array (Int × Value) × SetTable)) = _
  rw [if_neg (by rw [hsz]; simp)]
 dsimp only
 refine wpAny_storeSet_of ho hd (h _ t' _ hperm ⟨by rw [m3,hsz],m2,by rw [m1]; exact g1,?_,m8⟩ hw2 m5 (Sts.stored ho hd _ _) (Heap.SameBut.update ..)) (by rw [hsz,sizeLine_eq]; lia)
 unfold SetTable.fill
 rw [m1,m2,m3]
 show (es.size + 0) * 5 < _
 lia
set_option maxHeartbeats 2000000 in
theorem ZdL {S a:Addr} {o:Obj} {es:Array (Int × Value)} {ep:Nat} {t t2:SetTable} {vs:Value -> Prop} {P:List K -> Prop} {n j:Nat} {led:Bool} {ks:List K} {Q:Bool -> Shared -> Prop} (ho:s.heap.get? S = some o) (hx:o.ExactSet) (hd:o.data = .set es ep t) (hTS:TabS knd s.heap es t) (hsz:es.size <= n) (hled:t.led = led) (hvs:∀ e ∈ es.toList,vs e.2)
  (hP:∀ ks,(∃ e ∈ es.toList,ZaF knd s.heap ks e) ↔ P ks) (hn:n <= 900) (hk:IsTupleKey knd s.heap ks a) (hv:vs (.ref a)) (hj:t.slot j = .empty) (hnone:∀ e ∈ es.toList,¬ ZaF knd s.heap ks e) (hway:Way t.mask (· ∈ t.place.toList) (tupleKeyHash knd ks) j) (e1:t2.mask = t.mask) (e2:t2.place = SetTable.insertAt t.place (SetTable.below t.place j) j) (e3:t2.dummies = #[]) (e4:t2.led = t.led)
  (q:∀ b h',Heap.SameBut S s.heap h' -> ZeF knd h' S vs (fun k=>P k \/ k = ks) (n + 1) led -> Q b { s with heap:=h' }) :
  wpAny (model prog w) A (do
   storeSet S (SetTable.insertAt es (SetTable.below t.place j) (tupleKeyHash knd ks,Value.ref a)) t2
   if (!false && t2.tooFull) = true then do
     setRelay S (SetTable.grown (es.size + 1))
     pure true
    else pure true) Q E s:=by
 have hT:=hTS.tab
 have hr:=hT.room
 have hfe:=hT.fill_eq
 have hbl:=(Za1 hT.ris j).1
 have hins:=SetTable.insertAt_perm es (SetTable.below t.place j) (tupleKeyHash knd ks,Value.ref a)
 have hpl:(SetTable.insertAt es (SetTable.below t.place j) (tupleKeyHash knd ks,Value.ref a)).toList.Perm ((tupleKeyHash knd ks,Value.ref a) :: es.toList):=by
  refine hins.trans ?_
  rw [Array.toList_push]
  exact List.perm_append_comm (l₁ := es.toList) (l₂ := [_])
 have hs1:(SetTable.insertAt es (SetTable.below t.place j) (tupleKeyHash knd ks,Value.ref a)).size = es.size + 1:=by
  rw [<- Array.length_toList,hins.length_eq,Array.length_toList,Array.size_push]
 have hp1:t2.place.size = es.size + 1:=by
  have:=(SetTable.insertAt_perm t.place (SetTable.below t.place j) j).length_eq
  rw [Array.length_toList,Array.length_toList,Array.size_push,hT.size] at this
  rw [e2]
  exact this
 have hfill:t2.fill = es.size + 1:=by
  unfold SetTable.fill
  rw [hp1,e3]
  rfl
 have hris:Ris t2.place:=by
  rw [e2]
  exact Zde hT.ris (ZbO hT.ris hj)
 have hgrow:∀ y,y ∈ t.place.toList -> y ∈ t2.place.toList:=fun y hy=>by
  rw [e2]
  refine (SetTable.insertAt_perm t.place (SetTable.below t.place j) j).mem_iff.mpr ?_
  rw [Array.toList_push]
  exact List.mem_append_left _ hy
 have hway2:∀ (i:Nat) e y,(SetTable.insertAt es (SetTable.below t.place j) (tupleKeyHash knd ks,Value.ref a))[i]? = some e -> t2.place[i]? = some y -> Way t2.mask (· ∈ t2.place.toList) e.1 y:=fun i e y hi hy=>by
  rw [Zdw es (by rw [<- hT.size]; exact hbl)] at hi
  rw [e2,Zdw t.place hbl] at hy
  rw [e1]
  by_cases c1:i < SetTable.below t.place j
  ·rw [if_pos c1] at hi hy
   exact (hTS.way i e y hi hy).mono fun z _ hz=>hgrow z hz
  rw [if_neg c1] at hi hy
  by_cases c2:i = SetTable.below t.place j
  ·rw [if_pos c2] at hi hy
   cases hi
   cases hy
   exact hway.mono fun z _ hz=>hgrow z hz
  ·rw [if_neg c2] at hi hy
   exact (hTS.way (i - 1) e y hi hy).mono fun z _ hz=>hgrow z hz
 generalize SetTable.insertAt es (SetTable.below t.place j) (tupleKeyHash knd ks,Value.ref a) = es1 at hpl hs1 hway2
 have hself:ZaF knd s.heap ks (tupleKeyHash knd ks,Value.ref a):=⟨a,rfl,hk⟩
 have hone1:One knd s.heap es1.toList:=by
  refine One.perm (List.pairwise_cons.mpr ⟨fun e he ks' hb1 hb2=>?_,hTS.one⟩) hpl
  obtain ⟨b,f1,f2⟩:=hb1
  cases f1
  have:ks' = ks:=Zb0 f2 hk
  subst this
  exact hnone e he hb2
 have hent1:∀ e ∈ es1.toList,∃ ks,ZaF knd s.heap ks e /\ e.1 = tupleKeyHash knd ks:=fun e he=>by
  rcases List.mem_cons.mp (hpl.mem_iff.mp he) with rfl | he
  ·exact ⟨ks,hself,rfl⟩
  ·exact hTS.ent e he
 have hvs1:∀ e ∈ es1.toList,vs e.2:=fun e he=>by
  rcases List.mem_cons.mp (hpl.mem_iff.mp he) with rfl | he
  ·exact hv
  ·exact hvs e he
 have hP1:∀ k,(∃ e ∈ es1.toList,ZaF knd s.heap k e) ↔ (P k \/ k = ks):=fun k=>by
  constructor
  ·rintro ⟨e,he,hb⟩
   rcases List.mem_cons.mp (hpl.mem_iff.mp he) with rfl | he
   ·obtain ⟨b,f1,f2⟩:=hb
    cases f1
    exact .inr (Zb0 f2 hk)
   ·exact .inl ((hP k).mp ⟨e,he,hb⟩)
  ·rintro (hk' | rfl)
   ·obtain ⟨e,he,hb⟩:=(hP k).mpr hk'
    exact ⟨e,hpl.mem_iff.mpr (List.mem_cons_of_mem _ he),hb⟩
   ·exact ⟨_,hpl.mem_iff.mpr (List.mem_cons_self ..),hself⟩
 have fin:∀ (h':Heap) (o':Obj) (es':Array (Int × Value)) (ep':Nat) (t':SetTable),Heap.SameBut S s.heap h' -> h'.get? S = some o' -> o'.ExactSet -> o'.data = .set es' ep' t' -> es'.toList.Perm es1.toList -> Tab es' t' -> (∀ (i:Nat) e j,es'[i]? = some e -> t'.place[i]? = some j -> Way t'.mask (· ∈ t'.place.toList) e.1 j) -> t'.led = led -> ZeF knd h' S vs (fun k=>P k \/ k = ks) (n + 1) led:=fun h' o' es' ep' t' sb ho' hx' hd' hp hT' hw' hl'=>by
  have biff:=fun k e=>ZgS (knd:=knd) ho hd ho' hd' sb k e
  have hl:es'.size = es1.size:=by rw [<- Array.length_toList,hp.length_eq,Array.length_toList]
  refine ⟨o',es',ep',t',ho',hx',hd',⟨hT',fun e he=>?_,hw',?_⟩,by lia,hl',fun e he=>hvs1 e (hp.mem_iff.mp he),fun k=>?_⟩
  ·obtain ⟨k,hb,e5⟩:=hent1 e (hp.mem_iff.mp he)
   exact ⟨k,(biff k e).mp hb,e5⟩
  ·refine (hone1.perm hp).imp fun {x y} hxy k h1 h2=>hxy k ((biff k x).mpr h1) ((biff k y).mpr h2)
  ·refine Iff.trans ?_ (hP1 k)
   constructor
   ·rintro ⟨e,he,hb⟩
    exact ⟨e,hp.mem_iff.mp he,(biff k e).mpr hb⟩
   ·rintro ⟨e,he,hb⟩
    exact ⟨e,hp.mem_iff.mpr he,(biff k e).mp hb⟩
 refine wpAny_bind (wpAny_storeSet_of ho hd ?_ (by rw [hs1,sizeLine_eq]; lia))
 have ho1:=Sts.stored ho hd es1 t2
 have sb1:Heap.SameBut S s.heap (s.heap.update S (Obj.putSet es1 t2)):=Heap.SameBut.update ..
 generalize s.heap.update S (Obj.putSet es1 t2) = h1 at ho1 sb1
 have hfits:t2.fits es1.size = true:=by
  unfold SetTable.fits
  rw [hp1,hs1,hfill,e1]
  simp
  lia
 by_cases hfull:t2.tooFull = true
 ·rw [hfull,if_pos (by decide),<- hs1]
  refine wpAny_bind (Zkj (s:={ s with heap:=h1 }) ho1 rfl hfits (by lia) (by lia) fun es' t' h' hp hT' hw' hl' ho' sb'=>wpAny_pure ?_)
  exact q true h' (sb1.trans sb') (fin h' _ es' _ t' (sb1.trans sb') ho' hx rfl hp hT' hw' (by rw [hl',e4,hled]))
 ·have hnf:t2.tooFull = false:=by
   cases hc:t2.tooFull with
   | true=>exact absurd hc hfull
   | false=>rfl
  rw [hnf,if_neg (by decide)]
  refine wpAny_pure (q true h1 sb1 (fin h1 _ es1 _ t2 sb1 ho1 hx rfl (List.Perm.refl _) ⟨by rw [hp1,hs1],e3,by rw [e1]; exact hT.good,?_,hris⟩ hway2 (by rw [e4,hled])))
  unfold SetTable.tooFull at hnf
  have:=of_decide_eq_false hnf
  lia
set_option maxHeartbeats 2000000 in
theorem ZfW {S a:Addr} {vs:Value -> Prop} {P:List K -> Prop} {n:Nat} {led:Bool} {ks:List K} {Q:Bool -> Shared -> Prop} (hu:A.units < cLine) (hS:ZeF knd s.heap S vs P n led) (hn:n <= 900) (hk:IsTupleKey knd s.heap ks a) (hv:vs (.ref a))
  (q:∀ b h',Heap.SameBut S s.heap h' -> ZeF knd h' S vs (fun k=>P k \/ k = ks) (n + 1) led -> Q b { s with heap:=h' }):wpAny (model prog w) A (setAddHashed S (.ref a) (tupleKeyHash knd ks)) Q E s:=by
 obtain ⟨o,es,ep,t,ho,hx,hd,hTS,hsz,hled,hvs,hP⟩:=hS
 have hT:=hTS.tab
 have hr:=hT.room
 have hfe:=hT.fill_eq
 unfold setAddHashed
 refine wpAny_holding ?_
 unfold setAddHashedIn
 refine wpAny_bind (wpAny_setState_of ho hd hT.fits ?_)
 have hbs:byScan (.ref a) es = false:=rfl
 dsimp only
 rw [hbs,if_neg (by decide)]
 obtain ⟨m,hm1,hm2⟩:=ZcS hT (tupleKeyHash knd ks)
 have hsm:=ZeM hT.good
 unfold setSearch
 refine wpAny_bind (ZhS (knd:=knd) hu ho hd hTS hk (fun hex=>?_) (fun j hj hnone hway=>?_) 100000 m 0 none rfl (fun m hm=>absurd hm (Nat.not_lt_zero _)) hm2 hm1 (by lia))
 ·refine wpAny_pure (q false s.heap (Heap.SameBut.refl ..) ⟨o,es,ep,t,ho,hx,hd,hTS,by lia,hled,hvs,fun k=>(hP k).trans ⟨.inl,fun z=>?_⟩⟩)
  rcases z with z | rfl
  ·exact z
  ·exact (hP k).mp hex
 dsimp only
 refine wpAny_bind (wpAny_setState_of ho hd hT.fits ?_)
 dsimp only
 have hhas:SetTable.has t.dummies j = false:=by rw [hT.none]; rfl
 have hput:t.put j = ({ t with place:=SetTable.insertAt t.place (SetTable.below t.place j) j },SetTable.below t.place j):=by
  unfold SetTable.put
  rw [hhas]
  rfl
 rw [hput]
 dsimp only
 cases hpl:t.plain with
 | true =>
  rw [if_pos rfl]
  refine wpAny_bind (ZhB hk fun b=>?_)
  cases b with
  | true =>
   rw [if_pos rfl]
   exact ZdL ho hx hd hTS hsz hled hvs hP hn hk hv hj hnone hway rfl rfl hT.none rfl q
  | false =>
   rw [if_neg (by decide)]
   exact ZdL ho hx hd hTS hsz hled hvs hP hn hk hv hj hnone hway rfl rfl hT.none rfl q
 | false =>
  rw [if_neg (by decide)]
  refine wpAny_bind (wpAny_pure ?_)
  rw [if_pos rfl]
  exact ZdL ho hx hd hTS hsz hled hvs hP hn hk hv hj hnone hway rfl rfl hT.none rfl q
theorem Zlm {S a:Addr} {vs:Value -> Prop} {P:List K -> Prop} {n:Nat} {led:Bool} {ks:List K} {Q:Bool -> Shared -> Prop} (hu:A.units < cLine) (hS:ZeF knd s.heap S vs P n led) (hn:n <= 900) (hk:IsTupleKey knd s.heap ks a) (hv:vs (.ref a))
  (q:∀ b h' tk,s.toks <= tk -> Heap.SameBut S s.heap h' -> ZeF knd h' S vs (fun k=>P k \/ k = ks) (n + 1) led -> Q b { s with heap:=h',toks:=tk }):wpAny (model prog w) A (setAdd S (.ref a)) Q E s:=by
 unfold setAdd
 refine wpAny_holding (wpAny_bind (wpAny_pyHash_tuple hu hk ?_))
 exact ZfW (s:={ s with toks:=_ }) hu hS hn hk hv fun b h' sb hS'=>q b h' _ (Nat.le_add_right _ _) sb hS'
end
end Stg
namespace Srd
open PySem PyProof.Rows Srt PySem.W
structure Sto {α : Type} (lt : α -> α -> Bool):Prop where
 irr:∀ a,lt a a = false
 trans:∀ a b c,lt a b = true -> lt b c = true -> lt a c = true
 tri:∀ a b,lt a b = false -> lt b a = false -> a = b
section
variable {α β : Type} {lt : α -> α -> Bool} {lt2 : β -> β -> Bool}
theorem Sto.asym (o:Sto lt) {a b : α} (h:lt a b = true):lt b a = false:=by
 cases e:lt b a with
 | false=>rfl
 | true =>
  have:=o.trans a b a h e
  rw [o.irr] at this
  cases this
theorem Sto.neg (o:Sto lt) {x y z : α} (h1:lt x y = false) (h2:lt y z = false):lt x z = false:=by
 cases e:lt x z with
 | false=>rfl
 | true =>
  cases e2:lt y x with
  | true=>rw [o.trans y x z e2 e] at h2; cases h2
  | false =>
   have:=o.tri x y h1 e2
   subst this
   rw [e] at h2
   cases h2
theorem Sto.swo (o:Sto lt) (f:Value -> α):Swo fun x y=>lt (f x.1) (f y.1):=⟨fun _ _ h=>o.asym h,fun _ _ _ h1 h2=>o.neg h1 h2⟩
def ZiM [DecidableEq α] (lt : α -> α -> Bool) (lt2 : β -> β -> Bool) (x y : α × β):Bool:=lt x.1 y.1 || (decide (x.1 = y.1) && lt2 x.2 y.2)
theorem Sto.lex [DecidableEq α] (o:Sto lt) (o2:Sto lt2):Sto (ZiM lt lt2) where
 irr:=fun a=>by unfold ZiM; rw [o.irr,o2.irr]; simp
 trans:=fun a b c h1 h2=>by
  unfold ZiM at *
  simp only [Bool.or_eq_true,Bool.and_eq_true,decide_eq_true_eq] at *
  rcases h1 with h1 | ⟨e1,h1⟩
  ·rcases h2 with h2 | ⟨e2,h2⟩
   ·exact .inl (o.trans _ _ _ h1 h2)
   ·exact .inl (e2 ▸ h1)
  ·rcases h2 with h2 | ⟨e2,h2⟩
   ·exact .inl (e1.symm ▸ h2)
   ·exact .inr ⟨e1.trans e2,o2.trans _ _ _ h1 h2⟩
 tri:=fun a b h1 h2=>by
  unfold ZiM at *
  simp only [Bool.or_eq_false_iff,Bool.and_eq_false_imp,decide_eq_true_eq] at *
  have e1:=o.tri _ _ h1.1 h2.1
  have e2:=o2.tri _ _ (h1.2 e1) (h2.2 e1.symm)
  exact Prod.ext e1 e2
theorem ZdM:Sto fun a b:Int=>decide (a < b):=⟨fun a=>by simp,fun a b c h1 h2=>by simp only [decide_eq_true_eq] at *; lia,fun a b h1 h2=>by simp only [decide_eq_false_iff_not] at *; lia⟩
theorem ZcL:∀ a b:List Nat,¬ a < b -> ¬ b < a -> a = b
 | [],[],_,_=>rfl
 | [],b :: bs,h,_=>absurd (List.nil_lt_cons b bs) h
 | a :: as,[],_,h=>absurd (List.nil_lt_cons a as) h
 | a :: as,b :: bs,h1,h2=>by
  rw [List.cons_lt_cons_iff] at h1 h2
  have e:a = b:=by
   rcases Nat.lt_trichotomy a b with z | z | z
   ·exact absurd (.inl z) h1
   ·exact z
   ·exact absurd (.inl z) h2
  subst e
  rw [ZcL as bs (fun z=>h1 (.inr ⟨rfl,z⟩)) (fun z=>h2 (.inr ⟨rfl,z⟩))]
theorem ZaJ:∀ a:List Nat,¬ a < a
 | [],h=>by cases h
 | a :: as,h=>by
  rw [List.cons_lt_cons_iff] at h
  rcases h with h | ⟨_,h⟩
  ·lia
  ·exact ZaJ as h
theorem ZbL:∀ a b c:List Nat,a < b -> b < c -> a < c
 | [],_,[],_,h2=>by cases h2
 | [],_,c :: cs,_,_=>List.nil_lt_cons c cs
 | a :: as,[],_,h1,_=>by cases h1
 | a :: as,b :: bs,[],_,h2=>by cases h2
 | a :: as,b :: bs,c :: cs,h1,h2=>by
  rw [List.cons_lt_cons_iff] at *
  rcases h1 with h1 | ⟨e1,h1⟩
  ·rcases h2 with h2 | ⟨e2,h2⟩
   ·exact .inl (by lia)
   ·exact .inl (by lia)
  ·rcases h2 with h2 | ⟨e2,h2⟩
   ·exact .inl (by lia)
   ·exact .inr ⟨by lia,ZbL as bs cs h1 h2⟩
theorem Zjj {x y:Str} (h:x.cps.toList = y.cps.toList):x = y:=by
 cases x
 cases y
 congr 1
 exact Array.toList_inj.mp h
theorem Zjz:Sto fun a b:Str=>decide (a.cps.toList < b.cps.toList):=⟨fun a=>decide_eq_false (ZaJ _),fun a b c h1 h2=>decide_eq_true (ZbL _ _ _ (of_decide_eq_true h1) (of_decide_eq_true h2)),fun a b h1 h2=>Zjj (ZcL _ _ (of_decide_eq_false h1) (of_decide_eq_false h2))⟩
end
abbrev Qd:=Int × Str × Int × Int
def qLt:Qd -> Qd -> Bool:=ZiM (fun a b:Int=>decide (a < b)) (ZiM (fun a b:Str=>decide (a.cps.toList < b.cps.toList)) (ZiM (fun a b:Int=>decide (a < b)) fun a b:Int=>decide (a < b)))
theorem Zdl:Sto qLt:=ZdM.lex (Zjz.lex (ZdM.lex ZdM))
def IsQ (h:Heap) (v:Value) (q:Qd):Prop := ∃ a o t u t2 t3 n,v = .ref a /\ h.get? a = some o /\ o.cls = .type "tuple" /\ o.data = .seq #[.int q.1 t,.str q.2.1 u,.int q.2.2.1 t2,.int q.2.2.2 t3] n
theorem IsQ.inj {h:Heap} {v:Value} {q q':Qd} (x:IsQ h v q) (y:IsQ h v q'):q = q':=by
 obtain ⟨a,o,t,u,t2,t3,n,rfl,h1,_,h3⟩:=x
 obtain ⟨a',o',t',u',t2',t3',n',e,h1',_,h3'⟩:=y
 cases e
 rw [h1] at h1'
 cases h1'
 rw [h3] at h3'
 obtain ⟨q1,q2,q3,q4⟩:=q
 obtain ⟨r1,r2,r3,r4⟩:=q'
 simp only [Data.seq.injEq,Array.mk.injEq,List.cons.injEq,Value.int.injEq,Value.str.injEq,and_true] at h3'
 obtain ⟨⟨⟨e1,_⟩,⟨e2,_⟩,⟨e3,_⟩,⟨e4,_⟩⟩,_⟩:=h3'
 rw [e1,e2,e3,e4]
theorem IsQ.keep {h h':Heap} {v:Value} {q:Qd} (x:IsQ h v q) (k:∀ b o,h.get? b = some o -> h'.get? b = some o):IsQ h' v q:=by
 obtain ⟨a,o,t,u,t2,t3,n,rfl,h1,r⟩:=x
 exact ⟨a,o,t,u,t2,t3,n,rfl,k _ _ h1,r⟩
open Classical in
noncomputable def kq (h:Heap) (v:Value):Qd:=if x:∃ q,IsQ h v q then x.choose else (0,Str.empty,0,0)
theorem Zin {h:Heap} {v:Value} {q:Qd} (x:IsQ h v q):kq h v = q:=by
 unfold kq
 rw [dif_pos ⟨q,x⟩]
 exact (Exists.choose_spec (⟨q,x⟩:∃ q,IsQ h v q)).inj x
section
variable {prog:Program} {w:World} {A:Around} {s:Shared}
theorem ZgK {h:Heap}:∀ {vs:List Value},(∀ v ∈ vs,∃ q,IsQ h v q) -> ∃ fs,KatTups h vs fs /\ fs.length = vs.length /\ ∀ f ∈ fs,∃ i t,f = .int i t
 | [],_=>⟨[],trivial,rfl,fun _ h=>nomatch h⟩
 | v :: vs,hv=>by
  obtain ⟨q,a,o,t,u,t2,t3,n,rfl,ho,hc,hd⟩:=hv v (List.mem_cons_self ..)
  obtain ⟨fs,kt,hl,hf⟩:=ZgK (vs:=vs) fun x hx=>hv x (List.mem_cons_of_mem _ hx)
  refine ⟨.int q.1 t :: fs,KatTups.cons ho hc hd rfl kt,by simp [hl],fun f hm=>?_⟩
  rcases List.mem_cons.mp hm with rfl | hm
  ·exact ⟨_,t,rfl⟩
  ·exact hf f hm
theorem Zel {h0:Heap} {vs:List Value} (hv:∀ v ∈ vs,∃ q,IsQ h0 v q) (k0:∀ b o,h0.get? b = some o -> s.heap.get? b = some o) (h2:2 <= vs.length):ZbN prog w A (fun u v=>qLt (kq h0 u) (kq h0 v)) vs s:=by
 have hv':∀ v ∈ vs,∃ q,IsQ s.heap v q:=fun v hm=>let ⟨q,x⟩:=hv v hm; ⟨q,x.keep k0⟩
 obtain ⟨fs,k,hl,hf⟩:=ZgK hv'
 refine ⟨tuples' true,fun Q E hq=>?_,?_⟩
 ·refine kat_kind (T:=.type "int") k (by lia) (fun v hm=>?_) rfl hq
  obtain ⟨i,t,rfl⟩:=hf v hm
  exact Looks.of_pure rfl
 ·intro x y hx hy E
  rw [pairsOf_toList] at hx hy
  obtain ⟨q,xq⟩:=hv _ (mem_zip_self hx).2
  obtain ⟨q',yq⟩:=hv _ (mem_zip_self hy).2
  have e1:(fun x y:Keyed=>qLt (kq h0 x.1) (kq h0 y.1)) x y = qLt q q':=by
   show qLt (kq h0 x.1) (kq h0 y.1) = _
   have hx1:=(mem_zip_self hx)
   have hy1:=(mem_zip_self hy)
   rw [Zin xq,Zin yq]
  rw [e1]
  obtain ⟨a,o,t,u,t2,t3,n,e,ho,hc,hd⟩:=xq.keep k0
  obtain ⟨a',o',t',u',t2',t3',n',e',ho',hc',hd'⟩:=yq.keep k0
  rw [e,e']
  obtain ⟨q1,q2,q3,q4⟩:=q
  obtain ⟨r1,r2,r3,r4⟩:=q'
  refine kat_lt ho hd ho' hd' ?_
  have unf:qLt (q1,q2,q3,q4) (r1,r2,r3,r4) = (decide (q1 < r1) || (decide (q1 = r1) && (decide (q2.cps.toList < r2.cps.toList) || (decide (q2 = r2) && (decide (q3 < r3) || (decide (q3 = r3) && decide (q4 < r4))))))):=rfl
  rw [unf]
  refine kat_cons (wpAny_eqBool_int (kat_go (fun c1=>kat_yes ?_) (fun c1=>kat_no ?_)))
  ·have c1':q1 = r1:=eq_of_beq c1
   refine kat_cons (wpAny_eqBool_str (kat_go (fun c2=>kat_yes ?_) (fun c2=>kat_no ?_)))
   ·have c2':q2 = r2:=of_decide_eq_true c2
    refine kat_cons (wpAny_eqBool_int (kat_go (fun c3=>kat_yes ?_) (fun c3=>kat_no ?_)))
    ·have c3':q3 = r3:=eq_of_beq c3
     refine kat_cons (wpAny_eqBool_int (kat_go (fun c4=>kat_yes (kat_nil ⟨rfl,?_⟩)) (fun c4=>kat_no ?_)))
     ·have c4':q4 = r4:=eq_of_beq c4
      subst c1' c2' c3' c4'
      rw [decide_eq_false (ZaJ q2.cps.toList)]
      simp
     ·refine kat_one _ _ (wpAny_lt_int ⟨rfl,?_⟩)
      subst c1' c2' c3'
      rw [decide_eq_false (ZaJ q2.cps.toList)]
      simp
    ·refine kat_one _ _ (wpAny_lt_int ⟨rfl,?_⟩)
     have c3' : ¬ q3 = r3:=fun z=>by rw [z] at c3; simp at c3
     subst c1' c2'
     rw [decide_eq_false (ZaJ q2.cps.toList)]
     simp [c3']
   ·refine kat_one _ _ (PyProof.Rows.lt_str ⟨rfl,?_⟩)
    have c2' : ¬ q2 = r2:=of_decide_eq_false c2
    subst c1'
    simp [c2']
  ·refine oneLt_int ⟨rfl,?_⟩
   have c1' : ¬ q1 = r1:=fun z=>by rw [z] at c1; simp at c1
   simp [c1']
end
end Srd
namespace Stg
open PySem PyProof.Rows PySem.W Sts
section
variable {prog:Program} {w:World} {A:Around} {E:Value -> Shared -> Prop} {s:Shared}
theorem ZgB (es:Array (Int × Value)):(List.range es.size).map (fun j=>(es.getD j (0,.none)).2) = es.toList.map (·.2):=by
 refine List.ext_getElem? fun i=>?_
 rw [List.getElem?_map,List.getElem?_map]
 by_cases hi:i < es.size
 ·rw [List.getElem?_range hi,Array.getElem?_toList,Array.getElem?_eq_getElem hi]
  simp [Array.getD,hi]
 ·rw [List.getElem?_eq_none (by rw [List.length_range]; lia),List.getElem?_eq_none (by rw [Array.length_toList]; lia)]
  rfl
set_option maxHeartbeats 1000000 in
theorem Zjn {S:Addr} {o:Obj} {es:Array (Int × Value)} {ep:Nat} {t:SetTable} {Q:Value -> Shared -> Prop} (ho:s.heap.get? S = some o) (hx:o.ExactSet) (hd:o.data = .set es ep t) (hT:Tab es t) (hled:t.led = ZfY w) (hn:es.size <= 900)
  (q:∀ (I T:Addr) (ys:List Value) (h':Heap) (d:Drawn),(∀ b o,s.heap.get? b = some o -> h'.get? b = some o) -> SIt w h' I S T es ep t ys 0 -> ys.length = es.size -> S ≠ I -> T ≠ I -> ys.Perm (es.toList.map (·.2)) -> s.heap.objs.size <= I -> (T = S \/ s.heap.objs.size <= T) -> Q (.ref I) { s with heap:=h',drawn:=d }) :
  wpAny (model prog w) A (pyIter (.ref S)) Q E s:=by
 have hty:s.TypeIs (.ref S) "set" := ⟨o,ho,hx.1⟩
 have hf:=hT.fits
 refine wpAny_pyIter_slot hty PySem.F.slot_set_iter (wpAny_call_entry PySem.F.slot_set_iter hty Zd8 ?_ (PySem.F.args_set_iter_1 _))
 unfold Builtin.«frozenset.__iter__»
 refine wpAny_bind ?_
 unfold Builtin.Frozenset.slot0
 refine wpAny_bind (wpAny_pure ?_)
 change wpAny _ A.in1 (pure S) _ _ s
 refine wpAny_pure (wpAny_bind ?_)
 unfold Builtin.Frozenset.sizeOf
 refine wpAny_bind (Zew ho hd hf (wpAny_pure (wpAny_bind (Zjc ho hd hf ?_))))
 have ep_:∀ {s1:Shared} {Q1:Nat -> Shared -> Prop} {E1:Value -> Shared -> Prop},s1.heap.get? S = some o -> Q1 ep s1 -> wpAny (model prog w) A.in1 (setEpoch S) Q1 E1 s1:=fun ho1 h=>by
  unfold setEpoch
  exact wpAny_bind (wpAny_setState_of ho1 hd hf (wpAny_pure h))
 cases hdr:(!w.params.followText "set-order" && (!t.plain && decide (es.size > 1))) with
 | true =>
  rw [if_pos rfl]
  have hf0:w.params.followText "set-order" = false:=by
   cases hc:w.params.followText "set-order" with
   | false=>rfl
   | true=>rw [hc] at hdr; cases hdr
  refine wpAny_bind (Zgm es.size (List.range es.size) s List.length_range fun perm d hp=>?_)
  have hpl:perm.length = es.size:=by rw [hp.length_eq,List.length_range]
  refine wpAny_bind (wpAny_newTuple ?_ (by rw [List.length_map,hpl,sizeLine_eq]; lia))
  dsimp only
  refine wpAny_bind (ep_ (Heap.get?_push_of_some _ ho) ?_)
  unfold newFields
  refine wpAny_bind (wpAny_newObj_type (wpAny_pure ⟨_,rfl,"set_iterator",_,⟨_,Heap.get?_push_size _ rfl,rfl⟩,Zad.lookup,?_⟩))
  have hsz1:(s.heap.push { cls:=.type "tuple",data:=.seq (perm.map fun (i:Nat)=>rawInt (i:Int)).toArray }).objs.size = s.heap.objs.size + 1:=Heap.size_push ..
  refine q _ s.heap.objs.size (perm.map fun j=>(es.getD j (0,.none)).2) _ d (fun b o e=>Heap.get?_push_of_some _ (Heap.get?_push_of_some _ e)) ⟨⟨o,Heap.get?_push_of_some _ (Heap.get?_push_of_some _ ho),hd⟩,hf,_,_,Heap.get?_push_size _ rfl,rfl,rfl,.inr (.inr ⟨_,_,_,rfl,Heap.get?_push_of_some _ (Heap.get?_push_size _ rfl),rfl,?_,fun k v hk=>?_⟩)⟩ (by rw [List.length_map,hpl]) ?_ ?_ ?_ ?_ (.inr (Nat.le_refl _))
  ·rw [List.length_map,hpl]
  ·have hk':(perm.map fun (i:Nat)=>rawInt (i:Int))[k]? = some v:=by rw [<- hk]; simp
   rw [List.getElem?_map] at hk'
   obtain ⟨j,hj,rfl⟩:=Option.map_eq_some_iff.mp hk'
   have hjs:j < es.size:=List.mem_range.mp (hp.mem_iff.mp (List.mem_of_getElem? hj))
   refine ⟨j,0,rfl,?_,hjs⟩
   rw [List.getElem?_map,hj,Array.getElem?_eq_getElem hjs]
   simp [Array.getD,hjs]
  ·rw [hsz1]
   exact Nat.ne_of_lt (Nat.lt_succ_of_lt (Heap.lt_size ho))
  ·rw [hsz1]
   exact Nat.ne_of_lt (Nat.lt_succ_self _)
  ·exact (hp.map _).trans (List.Perm.of_eq (ZgB es))
  ·rw [hsz1]
   exact Nat.le_succ _
 | false =>
  rw [if_neg (by decide)]
  refine wpAny_bind (wpAny_pure ?_)
  dsimp only
  refine wpAny_bind (ep_ ho ?_)
  unfold newFields
  refine wpAny_bind (wpAny_newObj_type (wpAny_pure ⟨_,rfl,"set_iterator",_,⟨_,Heap.get?_push_size _ rfl,rfl⟩,Zad.lookup,?_⟩))
  have nI:S ≠ s.heap.objs.size:=Nat.ne_of_lt (Heap.lt_size ho)
  cases hft:w.params.followText "set-order" with
  | true =>
   have hpk:(pickOrder (w.params.setOrder S ep) es).toList.Perm es.toList:=by
    have:=Zd2 (w.params.setOrder S ep) es.size 0 es.toList #[] (Array.length_toList)
    simpa [pickOrder] using this
   refine q _ S ((pickOrder (w.params.setOrder S ep) es).toList.map (·.2)) _ s.drawn (fun b o e=>Heap.get?_push_of_some _ e) ⟨⟨o,Heap.get?_push_of_some _ ho,hd⟩,hf,_,_,Heap.get?_push_size _ rfl,rfl,rfl,.inl ⟨0,rfl,hft,rfl⟩⟩ (by rw [List.length_map,hpk.length_eq,Array.length_toList]) nI nI (hpk.map _) (Nat.le_refl _) (.inl rfl)
  | false =>
   rw [hft] at hdr
   have hl1:t.led = true:=by rw [hled]; show (!w.params.followText "set-order") = true; rw [hft]; rfl
   refine q _ S (es.toList.map (·.2)) _ s.drawn (fun b o e=>Heap.get?_push_of_some _ e) ⟨⟨o,Heap.get?_push_of_some _ ho,hd⟩,hf,_,_,Heap.get?_push_size _ rfl,rfl,rfl,.inr (.inl ⟨0,rfl,hft,hdr,hl1,Zf7 hT.ris,hT.ris,rfl⟩)⟩ (by rw [List.length_map,Array.length_toList]) nI nI (List.Perm.refl _) (Nat.le_refl _) (.inl rfl)
set_option maxHeartbeats 1000000 in
theorem Zci {S:Addr} {oS:Obj} {es:Array (Int × Value)} {ep:Nat} {t:SetTable} {Q:List Value -> Shared -> Prop} (hh:A.handled = none) (hoS:s.heap.get? S = some oS) (hxS:oS.ExactSet) (hd:oS.data = .set es ep t) (hT:Tab es t) (hled:t.led = ZfY w) (hn:es.size <= 900)
  (q:∀ (ys:List Value) (h':Heap) (tk:Nat) (d:Drawn),(∀ b o,s.heap.get? b = some o -> h'.get? b = some o) -> ys.Perm (es.toList.map (·.2)) -> s.heap.objs.size <= h'.objs.size -> Q ys { s with heap:=h',toks:=tk,drawn:=d }):wpAny (model prog w) A (collect (.ref S)) Q E s:=by
 unfold collect
 refine wpAny_bind (wpAny_runValue (codeAny_builtin entry_proto_collect' ?_))
 change wpAny _ _ (do again (.builtin "list.__iadd__" ⟨[<- newList [],.ref S],[]⟩)) _ _ s
 refine wpAny_bind (wpAny_newList (wpAny_pure ⟨Code.quiet_builtin _ (by decide +kernel),codeAny_builtin entry_list_iadd' ?_⟩))
 change wpAny _ _ (Builtin.List.listExtendWith (.ref s.heap.objs.size) (.ref S) (.ref s.heap.objs.size)) _ _ { s with heap:=s.heap.push (seqObj "list" #[] 0) }
 have hSlt:=Heap.lt_size hoS
 have hL:(s.heap.push (seqObj "list" #[] 0)).get? s.heap.objs.size = some (seqObj "list" #[] 0):=Heap.get?_push_size _ rfl
 have hty:Shared.TypeIs { s with heap:=s.heap.push (seqObj "list" #[] 0) } (.ref S) "set" := ⟨oS,Heap.get?_push_of_some _ hoS,hxS.1⟩
 unfold Builtin.List.listExtendWith
 refine wpAny_bind (wpAny_typeOf (T := "set") hty ?_)
 have nLS:s.heap.objs.size ≠ S:=Nat.ne_of_gt hSlt
 have h1:Builtin.List.listSameRef (.ref s.heap.objs.size) (.ref S) = false:=by simp [Builtin.List.listSameRef,nLS]
 rw [h1,if_neg (by decide)]
 refine wpAny_bind (Zjn (s:={ s with heap:=s.heap.push (seqObj "list" #[] 0) }) (Heap.get?_push_of_some _ hoS) hxS hd hT hled hn fun I T ys h2 d k2 x hy nSI nTI hvs hI hTp=>?_)
 have hIlt:s.heap.objs.size < I:=by
  refine Nat.lt_of_lt_of_le ?_ hI
  show s.heap.objs.size < (s.heap.push (seqObj "list" #[] 0)).objs.size
  rw [Heap.size_push]
  exact Nat.lt_succ_self _
 have hL2:=k2 _ _ hL
 have nTL:s.heap.objs.size ≠ T:=by
  rcases hTp with rfl | hTp
  ·exact nLS
  ·refine Nat.ne_of_lt (Nat.lt_of_lt_of_le ?_ hTp)
   show s.heap.objs.size < (s.heap.push (seqObj "list" #[] 0)).objs.size
   rw [Heap.size_push]
   exact Nat.lt_succ_self _
 have hLf:s.heap.objs.size ∉ [I,S,T]:=by
  simp only [List.mem_cons,List.not_mem_nil,or_false,not_or]
  exact ⟨Nat.ne_of_lt hIlt,nLS,nTL⟩
 have W:=ZiD (prog:=prog) (w:=w) (A:=A.in1) (t:=t) (ep:=ep) hh nSI nTI hy
 have keep0:∀ b o,s.heap.get? b = some o -> h2.get? b = some o:=fun b o e=>k2 b o (Heap.get?_push_of_some _ e)
 have hb1:∀ b o,s.heap.get? b = some o -> b ≠ s.heap.objs.size:=fun b o e=>Nat.ne_of_lt (Heap.lt_size e)
 have hbI:∀ b o,s.heap.get? b = some o -> b ≠ I:=fun b o e=>Nat.ne_of_lt (Nat.lt_trans (Heap.lt_size e) hIlt)
 have key:∀ (h:Heap) (c₁ tk:Nat),SIt w h I S T es ep t ys 0 -> (∀ b o,b ≠ s.heap.objs.size -> h2.get? b = some o -> h.get? b = some o) -> h.get? s.heap.objs.size = some { cls:=.type "list",data:=.seq #[] c₁ } ->
   codeAny (model prog w) A (.builtin "list.extend.loop" ⟨[.ref s.heap.objs.size,.ref I,.ref s.heap.objs.size],[]⟩) (wants (fun v s'=>wpAny (model prog w) A (match v with
     | Value.ref a=>do
      let o <- load a
      match o.data with
      | .seq xs _=>pure xs.toList
      | _=>unsupported "internal:collect"
     | _=>unsupported "internal:collect") Q E s') E) { s with heap:=h,drawn:=d,toks:=tk }:=by
  intro h c₁ tk hst hk hL3
  refine codeAny_extend_loopS W.toS (by rw [sizeLine_eq]; lia) s.heap.objs.size hLf _ ys.length 0 _ #[] c₁ rfl (Nat.zero_le _) hst hL3 (ItemsOf.nil _) fun s' acc' c' hm hL4 hacc=>?_
  rw [Moved.eq_with hm]
  refine wpAny_bind (wpAny_load hL4 ?_)
  refine wpAny_pure ?_
  have hacc2:acc'.toList = ys:=by
   refine List.ext_getElem? fun j=>?_
   rw [Array.getElem?_toList]
   cases hj:acc'[j]? with
   | none =>
    have h3:acc'.size <= j:=Array.getElem?_eq_none_iff.mp hj
    rw [hacc.1] at h3
    rw [List.getElem?_eq_none h3]
   | some v=>rw [hacc.2 j v hj]
  rw [hacc2]
  refine q ys s'.heap s'.toks d (fun b o e=>hm.heap b o (fun hmem=>?_) (hk b o (hb1 b o e) (keep0 b o e))) hvs (Nat.le_of_lt (Heap.lt_size hL4))
  rcases List.mem_cons.mp hmem with z | z
  ·exact hb1 b o e z
  ·exact hbI b o e (List.mem_singleton.mp z)
 refine wpAny_bind (wpAny_holding (ZiE ⟨oS,k2 S oS (Heap.get?_push_of_some _ hoS),hxS.1⟩ ?_))
 refine wpAny_ite_split (fun _=>?_) (fun _=>wpAny_pure ⟨plainId_quiet PySem.F.plain_extend_loop _,key h2 0 _ x (fun b o _ e=>e) hL2⟩)
 refine wpAny_bind (wpAny_rule (wpAny_bind ?_))
 change wpAny _ _ (updateSeq s.heap.objs.size (·.push .none) >>= fun _=>updateSeq s.heap.objs.size (·.pop)) _ _ _
 refine wpAny_bind (wpAny_updateSeq hL2 rfl ?_)
 have hL3:=Heap.get?_update_self (Obj.mapSeq (·.push Value.none)) hL2 rfl
 refine wpAny_updateSeq (hz:=by seq_fits) hL3 rfl ?_
 have hL4:=Heap.get?_update_self (Obj.mapSeq (·.pop)) hL3 rfl
 have oth:∀ b o,b ≠ s.heap.objs.size -> h2.get? b = some o -> ((h2.update s.heap.objs.size (Obj.mapSeq (·.push Value.none))).update s.heap.objs.size (Obj.mapSeq (·.pop))).get? b = some o:=fun b o hb e=>(Heap.get?_update_other _ _ (Ne.symm hb)).trans ((Heap.get?_update_other _ _ (Ne.symm hb)).trans e)
 exact wpAny_pure ⟨plainId_quiet PySem.F.plain_extend_loop _,key _ _ _ (W.frame 0 _ _ x fun b hb o e=>oth b o (fun z=>hLf (z ▸ hb)) e) oth hL4⟩
end
end Stg
namespace Stg
open PySem PyProof.Rows Sts
section
variable {prog:Program} {w:World} {K:Type} [DecidableEq K] {knd:KeyKind prog w K} {A:Around} {E:Value -> Shared -> Prop} {s:Shared}
def ZfB (knd:KeyKind prog w K) (h:Heap) (S:Addr) (G:List (Int × Value) -> Prop) (n:Nat) (led:Bool):Prop :=
 ∃ o es ep t,h.get? S = some o /\ o.ExactSet /\ o.data = .set es ep t /\ ZjN knd true h es /\ Tab es t /\ es.size <= n /\ t.led = led /\ G es.toList
set_option maxHeartbeats 1000000 in
theorem Zfk {g:Bool -> Sem Unit} (hg:∀ (b:Bool) (s₁ : Shared) (Q':Unit -> Shared -> Prop),Q' () s₁ -> wpAny (model prog w) A (g b) Q' E s₁)
  {S:Addr} {o:Obj} {es es1:Array (Int × Value)} {ep:Nat} {t t2:SetTable} {G:List (Int × Value) -> Prop} (gp:∀ l l',List.Perm l' l -> G l -> G l') {n:Nat} {led:Bool} {Q:Option Bool -> Shared -> Prop} (ho:s.heap.get? S = some o) (hx:o.ExactSet) (hd:o.data = .set es ep t)
  (hE:ZjN knd true s.heap es1) (hvs:G es1.toList) (h1:1 <= es1.size) (hn:es1.size <= 1000) (hsz:es1.size <= n) (hp:t2.place.size = es1.size) (hd2:t2.dummies = #[]) (hg2:Good t2.mask) (hris:Ris t2.place) (hled:t2.led = led)
  (q:∀ h',Heap.SameBut S s.heap h' -> ZfB knd h' S G n led -> Q (some true) { s with heap:=h' }) :
  wpAny (model prog w) A (do
   storeSet S es1 t2
   if (!false && t2.tooFull) = true then do
     g (relayAll t2 es1 (SetTable.grown es1.size)).2.2
     storeSet S (relayAll t2 es1 (SetTable.grown es1.size)).1 (relayAll t2 es1 (SetTable.grown es1.size)).2.1
     pure (some true)
    else pure (some true)) Q E s:=by
 refine wpAny_bind (wpAny_storeSet_of ho hd ?_ (by rw [sizeLine_eq]; lia))
 have ho1:=stored ho hd es1 t2
 have sb1:Heap.SameBut S s.heap (s.heap.update S (Obj.putSet es1 t2)):=Heap.SameBut.update ..
 generalize s.heap.update S (Obj.putSet es1 t2) = hp1 at ho1 sb1
 by_cases hfull:t2.tooFull = true
 ·rw [hfull,if_pos (by decide)]
  obtain ⟨es2,t3,gv,e,hpm,hT3,hl3⟩:=ZgZ (t:=t2) h1 hn
  rw [e]
  dsimp only
  have hz2:es2.size = es1.size:=by rw [<- Array.length_toList,hpm.length_eq,Array.length_toList]
  refine wpAny_bind (hg _ _ _ (wpAny_bind (wpAny_storeSet_of (s:={ s with heap:=hp1 }) ho1 rfl ?_ (by rw [hz2,sizeLine_eq]; lia))))
  have ho2:=stored ho1 rfl es2 t3
  have sb2:Heap.SameBut S hp1 (hp1.update S (Obj.putSet es2 t3)):=Heap.SameBut.update ..
  exact wpAny_pure (q _ (sb1.trans sb2) ⟨_,es2,_,t3,ho2,hx,rfl,fun e he=>hE e (hpm.mem_iff.mp he),hT3,by lia,by rw [hl3,hled],gp _ _ hpm hvs⟩)
 ·have hnf:t2.tooFull = false:=by
   cases hc:t2.tooFull with
   | true=>exact absurd hc hfull
   | false=>rfl
  rw [hnf,if_neg (by decide)]
  refine wpAny_pure (q hp1 sb1 ⟨_,es1,_,t2,ho1,hx,rfl,hE,⟨hp,hd2,hg2,?_,hris⟩,hsz,hled,hvs⟩)
  unfold SetTable.tooFull at hnf
  have:=of_decide_eq_false hnf
  lia
set_option maxHeartbeats 2000000 in
theorem ZfM {S:Addr} {G G':List (Int × Value) -> Prop} (gp:∀ l l',List.Perm l' l -> G' l -> G' l') {n i tk:Nat} {k:Int} {led:Bool} {Q:Bool -> Shared -> Prop} (hS:ZfB knd s.heap S G n led) (hn:n <= 900) (g0:∀ l,G l -> (∃ e ∈ l,(intKind prog w).is k e.2 = true) -> G' l) (g1:∀ l x,G l -> (∀ e ∈ l,(intKind prog w).is k e.2 = false) -> G' ((x,Value.int k tk) :: l))
  (q:∀ b h',Heap.SameBut S s.heap h' -> ZfB knd h' S G' (n + 1) led -> Q b { s with heap:=h' }):wpAny (model prog w) A (setAddHashed S (.int k tk) ((intKind prog w).hash k)) Q E s:=by
 obtain ⟨o,es,ep,t,ho,hx,hd,hE,hT,hsz,hled,hvs⟩:=hS
 have hkey:(intKind prog w).is k (Value.int k tk) = true:=intKind_is _ _ _ _
 have hb:es.size < scanBound:=by show es.size < 4096; lia
 unfold setAddHashed setAddHashedIn
 refine wpAny_holding (wpAny_bind (wpAny_setState_of ho hd hT.fits ?_))
 dsimp only
 rw [byScan_of (knd:=intKind prog w) rfl hb (Zdb hE)]
 simp only [↓reduceIte]
 unfold setAddByScan
 refine wpAny_bind ?_
 refine wpAny_bind (wpAny_rule ?_)
 refine wpAny_bind (wpAny_setScan_of (knd:=intKind prog w) hkey ho hd hT.fits (Zdb hE) ?_)
 cases hr:List.findIdx? (fun e=>(intKind prog w).is k e.2) es.toList with
 | some j =>
  dsimp only
  obtain ⟨hj,hpj,_⟩:=List.findIdx?_eq_some_iff_getElem.mp hr
  exact wpAny_pure (wpAny_pure (q false s.heap (Heap.SameBut.refl ..) ⟨o,es,ep,t,ho,hx,hd,hE,hT,by lia,hled,g0 _ hvs ⟨es.toList[j],List.getElem_mem hj,hpj⟩⟩))
 | none =>
  dsimp only
  obtain ⟨j,hj,eL⟩:=Zjq hT ((intKind prog w).hash k) (Value.int k tk)
  rw [eL]
  dsimp only
  have hins:=SetTable.insertAt_perm es (SetTable.below t.place j) ((intKind prog w).hash k,Value.int k tk)
  have hmem:∀ e ∈ (SetTable.insertAt es (SetTable.below t.place j) ((intKind prog w).hash k,Value.int k tk)).toList,e ∈ es.toList \/ e = ((intKind prog w).hash k,Value.int k tk):=fun e he=>by
   have:=hins.mem_iff.mp he
   rw [Array.toList_push] at this
   rcases List.mem_append.mp this with z | z
   ·exact .inl z
   ·exact .inr (List.mem_singleton.mp z)
  have hG1:G' (SetTable.insertAt es (SetTable.below t.place j) ((intKind prog w).hash k,Value.int k tk)).toList:=by
   refine gp _ _ ?_ (g1 es.toList ((intKind prog w).hash k) hvs fun e he=>?_)
   ·refine hins.trans ?_
    rw [Array.toList_push]
    exact List.perm_append_comm (l₁ := es.toList) (l₂ := [_])
   ·exact List.findIdx?_eq_none_iff.mp hr e he
  have hs1:(SetTable.insertAt es (SetTable.below t.place j) ((intKind prog w).hash k,Value.int k tk)).size = es.size + 1:=by
   rw [<- Array.length_toList,hins.length_eq,Array.length_toList,Array.size_push]
  have hp1:(SetTable.insertAt t.place (SetTable.below t.place j) j).size = es.size + 1:=by
   rw [<- Array.length_toList,(SetTable.insertAt_perm t.place (SetTable.below t.place j) j).length_eq,Array.length_toList,Array.size_push,hT.size]
  have hris:Ris (SetTable.insertAt t.place (SetTable.below t.place j) j):=Zde hT.ris (ZbO hT.ris hj)
  generalize SetTable.insertAt es (SetTable.below t.place j) ((intKind prog w).hash k,Value.int k tk) = es1 at hmem hs1 hG1
  have hE1:ZjN knd true s.heap es1:=fun e he=>by
   rcases hmem e he with z | z
   ·exact hE e z
   ·subst z
    exact ⟨k,tk,rfl,rfl⟩
  refine wpAny_bind (wpAny_pure ?_)
  split
  ·refine wpAny_bind ?_
   rw [hashByValue_scannable 8 (x:=Value.int k tk) rfl]
   refine wpAny_pure ?_
   refine Zfk (gp:=gp) (fun b s₁ Q' hq=>by cases b <;> first | exact wpAny_pure hq | exact wpAny_rule hq) ho hx hd hE1 hG1 (by lia) (by lia) (show es1.size <= n + 1 by lia) (by rw [hs1]; exact hp1) hT.none hT.good hris hled fun h' sb hS'=>?_
   exact wpAny_pure (q true h' sb hS')
  ·refine wpAny_bind (wpAny_pure ?_)
   refine Zfk (gp:=gp) (fun b s₁ Q' hq=>by cases b <;> first | exact wpAny_pure hq | exact wpAny_rule hq) ho hx hd hE1 hG1 (by lia) (by lia) (show es1.size <= n + 1 by lia) (by rw [hs1]; exact hp1) hT.none hT.good hris hled fun h' sb hS'=>?_
   exact wpAny_pure (q true h' sb hS')
theorem Zlf {S:Addr} {k:Int} {tk:Nat} {G G':List (Int × Value) -> Prop} (gp:∀ l l',List.Perm l' l -> G' l -> G' l') {n:Nat} {led:Bool} {Q:Bool -> Shared -> Prop} (hS:ZfB knd s.heap S G n led) (hn:n <= 900) (g0:∀ l,G l -> (∃ e ∈ l,(intKind prog w).is k e.2 = true) -> G' l) (g1:∀ l x,G l -> (∀ e ∈ l,(intKind prog w).is k e.2 = false) -> G' ((x,Value.int k tk) :: l))
  (q:∀ r h' tk,s.toks <= tk -> Heap.SameBut S s.heap h' -> ZfB knd h' S G' (n + 1) led -> Q r { s with heap:=h',toks:=tk }):wpAny (model prog w) A (setAdd S (.int k tk)) Q E s:=by
 unfold setAdd
 refine wpAny_holding (wpAny_bind ((intKind prog w).pyHash (intKind_is _ _ _ _) ?_))
 exact ZfM gp (i:=0) (s:={ s with toks:=_ }) hS hn g0 g1 fun b h' sb hS'=>q b h' _ (Nat.le_add_right _ _) sb hS'
end
section
variable {prog:Program} {w:World} {A:Around} {R:Result -> Shared -> Prop}
structure Goes (prog:Program) (w:World) (A:Around) (S:Addr) (items:Array Value) (J:Nat -> Heap -> Prop):Prop where
 keep:∀ i h h',J i h -> (∀ b o,b <= S -> h.get? b = some o -> h'.get? b = some o) -> J i h'
 add:∀ (i:Nat) v (s:Shared) (Q:Bool -> Shared -> Prop) (E:Value -> Shared -> Prop),items[i]? = some v -> J i s.heap -> (∀ b h' tk,Heap.SameBut S s.heap h' -> J (i + 1) h' -> Q b { s with heap:=h',toks:=tk }) -> wpAny (model prog w) A (setAdd S v) Q E s
theorem Zgn {S I l:Addr} {items:Array Value} {J:Nat -> Heap -> Prop} (hh:A.in1.handled = none) (g:Goes prog w A.in1 S items J) (hSI:S < I) (hlI:l ≠ I):∀ (k i:Nat) (s:Shared),items.size - i = k -> i <= items.size -> (s.heap.IsListIter I l i /\ s.heap.IsList l items) -> l < S -> J i s.heap ->
   (∀ h' tk,J items.size h' -> (∀ b o,b < S -> s.heap.get? b = some o -> h'.get? b = some o) -> R (.ok (.ret .none)) { s with heap:=h',toks:=tk }) -> codeAny (model prog w) A (.builtin "set.update.loop" ⟨[.ref S,.ref I],[]⟩) R s:=by
 have W:=Walks.list (prog:=prog) (w:=w) (A:=A.in1) hh I l hlI items
 intro k
 induction k with
 | zero =>
  intro i s hk hi hst hlS hw hR
  obtain rfl:i = items.size:=by lia
  refine codeAny_builtin F.entry_set_update_loop ?_
  rw [Around.under_plainId F.plain_set_update_loop _]
  change wpAny _ A.in1 (pyNext (.ref I) >>= _) _ _ s
  refine wpAny_bind (W.done s _ _ hst fun h' tk hm=>?_)
  change wpAny _ A.in1 (ret Value.none) _ _ _
  have hkk:∀ b o,b <= S -> s.heap.get? b = some o -> h'.get? b = some o:=fun b o hb e=>hm b o (fun z=>Nat.lt_irrefl _ (Nat.lt_of_le_of_lt (List.mem_singleton.mp z ▸ hb) hSI)) e
  exact wpAny_pure (hR h' tk (g.keep _ _ _ hw hkk) fun b o hb e=>hkk b o (Nat.le_of_lt hb) e)
 | succ k ih =>
  intro i s hk hi hst hlS hw hR
  have hlt:i < items.size:=by lia
  refine codeAny_builtin F.entry_set_update_loop ?_
  rw [Around.under_plainId F.plain_set_update_loop _]
  change wpAny _ A.in1 (pyNext (.ref I) >>= _) _ _ s
  refine wpAny_bind (W.item i s _ _ hlt hst fun v h' tk hP hst' hm=>?_)
  have hkk:∀ b o,b <= S -> s.heap.get? b = some o -> h'.get? b = some o:=fun b o hb e=>hm b o (fun z=>Nat.lt_irrefl _ (Nat.lt_of_le_of_lt (List.mem_singleton.mp z ▸ hb) hSI)) e
  have hw':=g.keep _ _ _ hw hkk
  change wpAny _ A.in1 (holding [v] (setAdd S v) >>= _) _ _ _
  refine wpAny_bind (wpAny_holding (g.add i v { s with heap:=h',toks:=tk } _ _ hP hw' fun b1 h2 tk2 sb hS2=>?_))
  have hk2:∀ b o,b ≠ S -> h'.get? b = some o -> h2.get? b = some o:=fun b o hb e=>(sb.2 b hb).trans e
  refine wpAny_pure ⟨plainId_quiet F.plain_set_update_loop _,ih (i + 1) _ (by lia) hlt ?_ hlS hS2 fun h3 tk3 hw3 hb3=>hR h3 tk3 hw3 fun b o hb e=>hb3 b o hb (hk2 b o (Nat.ne_of_lt hb) (hkk b o (Nat.le_of_lt hb) e))⟩
  refine W.frame _ h' h2 hst' fun b hb o e=>hk2 b o (fun z=>?_) e
  simp only [List.mem_cons,List.not_mem_nil,or_false] at hb
  rcases hb with rfl | rfl
  ·exact Nat.lt_irrefl _ (z ▸ hSI)
  ·exact Nat.lt_irrefl _ (z ▸ hlS)
end
section
variable {prog:Program} {w:World} {A:Around} {E:Value -> Shared -> Prop} {s:Shared}
set_option maxRecDepth 100000 in
set_option maxHeartbeats 3200000 in
theorem Zen {l:Addr} {items:Array Value} {J:Nat -> Heap -> Prop} {Q:Value -> Shared -> Prop} (hh:A.handled = none) (hu:A.units + 100 < cLine) (hl:s.heap.IsList l items) (g:∀ B:Around,B.units < cLine -> Goes prog w B s.heap.objs.size items J) (j0:∀ h:Heap,h.get? s.heap.objs.size = some (Z9 w) -> (∀ b o,b < s.heap.objs.size -> s.heap.get? b = some o -> h.get? b = some o) -> J 0 h)
  (q:∀ (h':Heap) (tk:Nat),J items.size h' -> (∀ b o,b < s.heap.objs.size -> s.heap.get? b = some o -> h'.get? b = some o) -> Q (.ref s.heap.objs.size) { s with heap:=h',toks:=tk }) :
  wpAny (model prog w) A (call (.type "set") [.ref l]) Q E s:=by
 obtain ⟨c,tl,hmro⟩:=PySem.F.called_set.mro
 have hmade:=PySem.F.called_set.made
 have hsub:=PySem.F.called_set.sub
 refine wpAny_call (codeAny_of_tree ?_)
 change wpAny _ _ (callAny (.type "set") _) _ _ _
 refine wpAny_pure ⟨Code.quiet_builtin _ (by decide +kernel),codeAny_builtin PySem.F.entry_type_call ?_⟩
 rw [Around.under_plain (weight_type_call_type "set" [.ref l] []) rfl]
 have noType:=PySem.F.called_set.notType
 have canMake:=PySem.F.called_set.canCreate
 have ctOk:=PySem.F.typeCall_set_1 (.ref l)
 repeat (any_goals (first | assumption | wp_step))
 refine codeAny_mono (Zis (.ref l) (E:=E) (Q₁ := fun obj s₁=>obj = .ref s.heap.objs.size /\ s₁ = { s with heap:=s.heap.push (Z9 w) }) ⟨rfl,rfl⟩) fun r s₁ hr=>?_
 cases r with
 | error e=>exact hr
 | ok fl =>
  cases fl with
  | ret obj =>
   obtain ⟨rfl,rfl⟩:=hr
   have hS:(s.heap.push (Z9 w)).get? s.heap.objs.size = some (Z9 w):=Heap.get?_push_size _ rfl
   have hT:Shared.TypeIs { s with heap:=s.heap.push (Z9 w) } (.ref s.heap.objs.size) "set" := ⟨_,hS,rfl⟩
   have hli:=PySem.F.called_set.init.lookup
   have hbi:=PySem.F.called_set.init.bind (.ref s.heap.objs.size)
   repeat (any_goals (first | assumption | wp_step))
   refine codeAny_mono (codeAny_call_builtin (R:=wants (fun r s₂=>r = .none /\ ∃ h' tk,s₂ = { s with heap:=h',toks:=tk } /\ J items.size h' /\ ∀ b o,b < s.heap.objs.size -> s.heap.get? b = some o -> h'.get? b = some o) E) PySem.F.called_set.init.plain PySem.F.entry_set_init (check_set_init_1 hT ?_)) fun r₂ s₂ hr₂=>?_
   ·obtain ⟨ol,hol,hcl,nl,hdl⟩:=hl
    obtain ⟨ocls,odict,odata,oslots⟩:=ol
    simp only at hcl hdl
    subst hcl; subst hdl
    have hol2:(s.heap.push (Z9 w)).get? l = some { cls:=.type "list",dict:=odict,data:=.seq items nl,slots:=oslots }:=Heap.get?_push_of_some _ hol
    have hsls:=PySem.F.sub_list_set
    have hslf:=PySem.F.sub_list_frozenset
    have hne:(Value.type "list" == Value.type "dict") = false:=by decide
    have hl1:(s.heap.push (Z9 w)).IsList l items:=⟨_,hol2,rfl,nl,rfl⟩
    unfold Builtin.«set.__init__» noKeywords Builtin.Frozenset.updateFrom
    generalize hPI:pyIter = PI
    wp_walk
    subst hPI
    refine wpAny_pyIter_list hl1 (wpAny_bind (wpAny_runValue ?_))
    have hlS:l < s.heap.objs.size:=Heap.lt_size hol
    have hsz:(s.heap.push (Z9 w)).objs.size = s.heap.objs.size + 1:=Heap.size_push ..
    have hS0:((s.heap.push (Z9 w)).push { cls:=.type "list_iterator",data:=.fields #[.ref l,.int 0 0] }).get? s.heap.objs.size = some (Z9 w):=Heap.get?_push_of_some _ hS
    have kk:∀ b o,b < s.heap.objs.size -> s.heap.get? b = some o -> ((s.heap.push (Z9 w)).push { cls:=.type "list_iterator",data:=.fields #[.ref l,.int 0 0] }).get? b = some o:=fun b o hb e=>Heap.get?_push_of_some _ (Heap.get?_push_of_some _ e)
    refine Zgn (J:=J) (by simp [hh]) (g _ (by simp only [Around.in1_units]; lia)) (by rw [hsz]; exact Nat.lt_succ_self _) (by rw [hsz]; exact Nat.ne_of_lt (Nat.lt_succ_of_lt hlS)) (items.size - 0) 0 _ rfl (Nat.zero_le _)
     ⟨⟨_,Heap.get?_push_size _ rfl,rfl,rfl⟩,hl1.push _⟩ hlS (j0 _ hS0 kk) fun h' tk hw hb=>?_
    change wpAny _ _ _ _ _ _
    refine wpAny_pure ?_
    change wpAny _ _ (ret Value.none) _ _ _
    exact wpAny_pure ⟨rfl,h',tk,rfl,hw,fun b o hlt e=>hb b o hlt (kk b o hlt e)⟩
   ·cases r₂ with
    | error e=>exact hr₂
    | ok fl₂ =>
     cases fl₂ with
     | ret r =>
      obtain ⟨rfl,h',tk,rfl,hw⟩:=hr₂
      repeat (any_goals (first | assumption | wp_step))
      exact q _ _ hw.1 hw.2
     | _=>exact hr₂.elim
  | _=>exact hr.elim
end
end Stg
namespace Srd
theorem Sto.one {α : Type} {lt : α -> α -> Bool} (o:Sto lt):∀ {l m:List α},l.Pairwise (fun a b=>lt a b = true) -> m.Pairwise (fun a b=>lt a b = true) -> (∀ x,x ∈ l ↔ x ∈ m) -> l = m
 | [],[],_,_,_=>rfl
 | [],b :: m,_,_,h=>absurd ((h b).mpr (List.mem_cons_self ..)) (by simp)
 | a :: l,[],_,_,h=>absurd ((h a).mp (List.mem_cons_self ..)) (by simp)
 | a :: l,b :: m,hl,hm,h=>by
  obtain ⟨l1,l2⟩:=List.pairwise_cons.mp hl
  obtain ⟨m1,m2⟩:=List.pairwise_cons.mp hm
  have e:a = b:=by
   rcases List.mem_cons.mp ((h a).mp (List.mem_cons_self ..)) with z | z
   ·exact z
   ·rcases List.mem_cons.mp ((h b).mpr (List.mem_cons_self ..)) with y | y
    ·exact y.symm
    ·have h1:=m1 a z
     have h2:=l1 b y
     rw [o.asym h1] at h2
     cases h2
  subst e
  rw [Sto.one o l2 m2 fun x=>?_]
  constructor
  ·intro hx
   rcases List.mem_cons.mp ((h x).mp (List.mem_cons_of_mem _ hx)) with z | z
   ·subst z
    have:=l1 x hx
    rw [o.irr] at this
    cases this
   ·exact z
  ·intro hx
   rcases List.mem_cons.mp ((h x).mpr (List.mem_cons_of_mem _ hx)) with z | z
   ·subst z
    have:=m1 x hx
    rw [o.irr] at this
    cases this
   ·exact z
theorem Sto.strict {α : Type} {lt : α -> α -> Bool} (o:Sto lt) {l:List α} (h:l.Pairwise (fun a b=>lt b a = false)) (hn:l.Nodup):l.Pairwise (fun a b=>lt a b = true):=by
 refine List.pairwise_iff_getElem.mpr fun i j hi hj hij=>?_
 have h1:=(List.pairwise_iff_getElem.mp h) i j hi hj hij
 have h2:=(List.pairwise_iff_getElem.mp hn) i j hi hj hij
 cases e:lt l[i] l[j] with
 | true=>rfl
 | false=>exact absurd (o.tri _ _ e h1) h2
end Srd
namespace L2
open PySem PySem.Spec PyProof.Rows PySem.W Srd Sts Stg
def tq (q:Qd):HO:=.tup [.int q.1,.str q.2.1,.int q.2.2.1,.int q.2.2.2]
def QL (H:Hp) (zs:List V) (qs:List Qd):Prop:=Paired (fun z q=>∃ p,z = V.ref p /\ H p = some (tq q)) zs qs
def kOf (q:Qd):List Key:=[Sum.inl q.1,Sum.inr q.2.1,Sum.inl q.2.2.1,Sum.inl q.2.2.2]
theorem Zg1 {q q':Qd} (h:kOf q = kOf q'):q = q':=by
 obtain ⟨a,b,c,d⟩:=q
 obtain ⟨a',b',c',d'⟩:=q'
 simp only [kOf,List.cons.injEq,Sum.inl.injEq,Sum.inr.injEq,and_true] at h
 obtain ⟨rfl,rfl,rfl,rfl⟩:=h
 rfl
theorem QL.mem {H:Hp}:∀ {zs:List V} {qs:List Qd},QL H zs qs -> ∀ z ∈ zs,∃ p,∃ q ∈ qs,z = V.ref p /\ H p = some (tq q)
 | _,_,.cons ⟨p,e1,e2⟩ t,z,hz=>by
  rcases List.mem_cons.mp hz with rfl | hz
  ·exact ⟨p,_,List.mem_cons_self ..,e1,e2⟩
  ·obtain ⟨p',q',h1,h2⟩:=QL.mem t z hz
   exact ⟨p',q',List.mem_cons_of_mem _ h1,h2⟩
theorem QL.length {H:Hp}:∀ {zs:List V} {qs:List Qd},QL H zs qs -> zs.length = qs.length
 | _,_,.nil=>rfl
 | _,_,.cons _ t=>by rw [List.length_cons,List.length_cons,QL.length t]
theorem QL.get {H:Hp}:∀ {zs:List V} {qs:List Qd},QL H zs qs -> ∀ (i:Nat) z,zs[i]? = some z -> ∃ p q,qs[i]? = some q /\ z = V.ref p /\ H p = some (tq q)
 | _,_,.cons ⟨p,e1,e2⟩ t,i,z,hz=>by
  cases i with
  | zero =>
   injection hz with hz
   subst hz
   exact ⟨p,_,rfl,e1,e2⟩
  | succ i=>exact QL.get t i z hz
theorem QL.keep {H H':Hp}:∀ {zs:List V} {qs:List Qd},QL H zs qs -> (∀ b xs,H b = some (.tup xs) -> H' b = some (.tup xs)) -> QL H' zs qs
 | _,_,.nil,_=>.nil
 | _,_,.cons ⟨p,e1,e2⟩ t,k=>.cons ⟨p,e1,k _ _ e2⟩ (QL.keep t k)
theorem Zdk:∀ {vs:List V} {us:List Value},Vals vs us -> ∀ (i:Nat) u,us[i]? = some u -> ∃ v,vs[i]? = some v /\ RelV v u
 | _,_,.cons r t,i,u,h=>by
  cases i with
  | zero =>
   injection h with h
   subst h
   exact ⟨_,rfl,r⟩
  | succ i=>exact Zdk t i u h
section
variable {X:Cx} {e:Expr} {te:TE} {p p' pos pos':Pos}
theorem ZiP {P:Program} {w:World} {H:Hp} {h:Heap} {t:Addr} {q:Qd} (ok:HOk P w H h) (e:H t = some (tq q)):IsQ h (.ref t) q:=by
 obtain ⟨_,us,rus,o,ho,hc',n,hd⟩:=ok t _ e
 obtain ⟨u1,us,rfl,r1,rus⟩:=Vals.inv rus
 obtain ⟨u2,us,rfl,r2,rus⟩:=Vals.inv rus
 obtain ⟨u3,us,rfl,r3,rus⟩:=Vals.inv rus
 obtain ⟨u4,us,rfl,r4,rus⟩:=Vals.inv rus
 obtain rfl:=Vals.end_ rus
 obtain ⟨t1,rfl⟩:=r1
 obtain ⟨t2,rfl⟩:=r2
 obtain ⟨t3,rfl⟩:=r3
 obtain ⟨t4,rfl⟩:=r4
 exact ⟨t,o,t1,t2,t3,t4,n,rfl,ho,hc',hd⟩
theorem ZdJ {P:Program} {w:World} {h0 h:Heap} {S t:Addr} {q:Qd} {x:Int} (hk:IsTupleKey (Zy P w) h0 (kOf q) t) (hlt:t < S) (k:∀ b o,b < S -> h0.get? b = some o -> h.get? b = some o) (ks:List Key):ZaF (Zy P w) h ks (x,.ref t) ↔ ks = kOf q:=by
 obtain ⟨o,its,n,h1,h2⟩:=hk
 have hk':IsTupleKey (Zy P w) h (kOf q) t:=⟨o,its,n,k t o hlt h1,h2⟩
 constructor
 ·rintro ⟨b,e,hb⟩
  cases e
  exact Zb0 hb hk'
 ·rintro rfl
  exact ⟨t,rfl,hk'⟩
def QIt (P:Program) (w:World) (h0:Heap) (items:List Value) (qs:List Qd):Prop:=items.length = qs.length /\ ∀ (i:Nat) v q,items[i]? = some v -> qs[i]? = some q -> ∃ t,v = .ref t /\ IsTupleKey (Zy P w) h0 (kOf q) t /\ IsQ h0 v q
theorem QIt.of {P:Program} {w:World} {H:Hp} {h:Heap} {zs:List V} {qs:List Qd} {us:List Value} (ok:HOk P w H h) (r:Vals zs us) (ql:QL H zs qs):QIt P w h us qs:=by
 refine ⟨by rw [<- r.length,ql.length],fun i v q hv hq=>?_⟩
 obtain ⟨z,hz,rz⟩:=Zdk r i v hv
 obtain ⟨t,q',h1,rfl,h3⟩:=ql.get i z hz
 rw [hq] at h1
 cases h1
 obtain rfl:v = Value.ref t:=rz
 exact ⟨t,rfl,Zc6 ok (ks:=kOf q) h3,ZiP ok h3⟩
theorem QIt.mem {P:Program} {w:World} {h0:Heap} {items:List Value} {qs:List Qd} (x:QIt P w h0 items qs) {v:Value} (hv:v ∈ items):∃ t,∃ q ∈ qs,v = .ref t /\ IsTupleKey (Zy P w) h0 (kOf q) t /\ IsQ h0 v q:=by
 obtain ⟨i,hi⟩:=List.mem_iff_getElem?.mp hv
 have hlt:=(List.getElem?_eq_some_iff.mp hi).1
 rw [x.1] at hlt
 obtain ⟨t,h1,h2,h3⟩:=x.2 i v qs[i] hi (List.getElem?_eq_getElem hlt)
 exact ⟨t,qs[i],List.getElem_mem hlt,h1,h2,h3⟩
def JQ (P:Program) (w:World) (h0:Heap) (S:Addr) (items:Array Value) (qs:List Qd) (i:Nat) (h:Heap):Prop :=
 ZeF (Zy P w) h S (· ∈ items.toList) (fun ks=>∃ (j:Nat) (q:Qd),j < i /\ qs[j]? = some q /\ ks = kOf q) i (ZfY w) /\ ∀ b o,b < S -> h0.get? b = some o -> h.get? b = some o
theorem JQ.goes {P:Program} {w:World} {A:Around} {h0:Heap} {S:Addr} {items:Array Value} {qs:List Qd} (hu:A.units < cLine) (x:QIt P w h0 items.toList qs) (hS:h0.objs.size <= S) (hn:items.size <= 900):Goes P w A S items (JQ P w h0 S items qs) where
 keep:=fun i h h' ⟨⟨o,es,ep,t,ho,hx,hd,hT,hsz,hl,hv,hP⟩,hb⟩ k=>by
  have hb':∀ b o,b < S -> h0.get? b = some o -> h'.get? b = some o:=fun b o hlt e=>k b o (Nat.le_of_lt hlt) (hb b o hlt e)
  have key:∀ e ∈ es.toList,∀ ks,ZaF (Zy P w) h ks e ↔ ZaF (Zy P w) h' ks e:=fun e he ks=>by
   obtain ⟨tt,q,_,h1,h2,_⟩:=x.mem (hv e he)
   obtain ⟨e1,e2⟩:=e
   dsimp only at h1
   subst h1
   have hlt:tt < S:=by
    obtain ⟨o2,_,_,g1,_⟩:=h2
    exact Nat.lt_of_lt_of_le (Heap.lt_size g1) hS
   rw [ZdJ h2 hlt hb,ZdJ h2 hlt hb']
  refine ⟨⟨o,es,ep,t,k S o (Nat.le_refl _) ho,hx,hd,⟨hT.tab,fun e he=>?_,hT.way,?_⟩,hsz,hl,hv,fun ks=>?_⟩,hb'⟩
  ·obtain ⟨ks,h1,h2⟩:=hT.ent e he
   exact ⟨ks,(key e he ks).mp h1,h2⟩
  ·exact List.Pairwise.imp_of_mem (fun {a b} ha hb' hab ks h1 h2=>hab ks ((key a ha ks).mpr h1) ((key b hb' ks).mpr h2)) hT.one
  ·rw [<- hP ks]
   constructor
   ·rintro ⟨e,he,h1⟩
    exact ⟨e,he,(key e he ks).mpr h1⟩
   ·rintro ⟨e,he,h1⟩
    exact ⟨e,he,(key e he ks).mp h1⟩
 add:=fun i v s Q E hi ⟨hS1,hb⟩ q=>by
  have hil:i < items.size:=(Array.getElem?_eq_some_iff.mp hi).1
  have hiq:i < qs.length:=by rw [<- x.1,Array.length_toList]; exact hil
  have hi':items.toList[i]? = some v:=by rw [Array.getElem?_toList]; exact hi
  obtain ⟨t,rfl,h2,_⟩:=x.2 i v qs[i] hi' (List.getElem?_eq_getElem hiq)
  obtain ⟨o2,its2,n2,g1,g2⟩:=h2
  have hlt:t < S:=Nat.lt_of_lt_of_le (Heap.lt_size g1) hS
  have hk:IsTupleKey (Zy P w) s.heap (kOf qs[i]) t:=⟨o2,its2,n2,hb t o2 hlt g1,g2⟩
  refine Zlm hu hS1 (by lia) hk (List.mem_of_getElem? hi') fun b h' tk _ sb hS2=>q b h' tk sb ⟨?_,fun b o hlt e=>(sb.2 b (Nat.ne_of_lt hlt)).trans (hb b o hlt e)⟩
  have e:(fun ks=>(∃ (j:Nat) (q:Qd),j < i /\ qs[j]? = some q /\ ks = kOf q) \/ ks = kOf qs[i]) = fun ks=>∃ (j:Nat) (q:Qd),j < i + 1 /\ qs[j]? = some q /\ ks = kOf q:=funext fun ks=>propext (by
   constructor
   ·rintro (⟨j,q,h1,h2,h3⟩ | h)
    ·exact ⟨j,q,by lia,h2,h3⟩
    ·exact ⟨i,qs[i],by lia,List.getElem?_eq_getElem hiq,h⟩
   ·rintro ⟨j,q,h1,h2,h3⟩
    by_cases c:j < i
    ·exact .inl ⟨j,q,c,h2,h3⟩
    ·have:j = i:=by lia
     subst this
     rw [List.getElem?_eq_getElem hiq] at h2
     cases h2
     exact .inr h3)
  rw [<- e]
  exact hS2
theorem JQ.zero {P:Program} {w:World} {h0 h:Heap} {S:Addr} {items:Array Value} {qs:List Qd} (hS:h.get? S = some (Z9 w)) (k:∀ b o,b < S -> h0.get? b = some o -> h.get? b = some o):JQ P w h0 S items qs 0 h :=
 ⟨⟨_,#[],0,_,hS,⟨rfl,rfl,rfl⟩,rfl,⟨⟨rfl,rfl,.inl rfl,(by show (0:Nat) * 5 < 7 * 3; decide),List.Pairwise.nil⟩,(fun _ h=>(nomatch h)),(fun i e j h=>(nomatch h)),List.Pairwise.nil⟩,Nat.le_refl _,rfl,(fun _ h=>(nomatch h)),fun ks=>⟨fun ⟨_,h,_⟩=>(nomatch h),fun ⟨_,_,h,_⟩=>absurd h (Nat.not_lt_zero _)⟩⟩,k⟩
end
end L2
namespace L2
open PySem PySem.Spec PyProof.Rows PySem.W Srd Sts Stg
def GI (P:Int -> Prop) (l:List (Int × Value)):Prop:=l.Pairwise (fun e e'=>ZfT e.2 ≠ ZfT e'.2) /\ ∀ i,(∃ e ∈ l,ZfT e.2 = i) ↔ P i
theorem GI.perm {P:Int -> Prop} (l l':List (Int × Value)) (p:l'.Perm l) (h:GI P l):GI P l' :=
 ⟨(p.pairwise_iff fun {a b} hab e=>hab e.symm).mpr h.1,fun i=>Iff.trans ⟨fun ⟨e,h1,h2⟩=>⟨e,p.mem_iff.mp h1,h2⟩,fun ⟨e,h1,h2⟩=>⟨e,p.mem_iff.mpr h1,h2⟩⟩ (h.2 i)⟩
def GN (l:List (Int × Value)):Prop := ∀ e ∈ l,∃ i t,e.2 = Value.int i t
section
variable {X:Cx} {e:Expr} {te:TE} {p p' pos pos':Pos}
theorem ZiL {P:Program} {w:World} {k i:Int} {t:Nat}:(intKind P w).is k (Value.int i t) = true ↔ i = k:=by
 constructor
 ·intro h
  exact (intKind P w).inj _ _ _ (intKind_is _ _ _ _) h
 ·rintro rfl
  exact intKind_is _ _ _ _
def JI (P:Program) (w:World) (h0:Heap) (S:Addr) (ns:List Int) (i:Nat) (h:Heap):Prop :=
 ZfB (Zy P w) h S (fun l=>GN l /\ GI (fun k=>∃ j:Nat,j < i /\ ns[j]? = some k) l) i (ZfY w) /\ ∀ b o,b < S -> h0.get? b = some o -> h.get? b = some o
theorem JI.goes {P:Program} {w:World} {A:Around} {h0:Heap} {S:Addr} {items:Array Value} {ns:List Int} (x:Vals (ns.map V.int) items.toList) (hn:items.size <= 900):Goes P w A S items (JI P w h0 S ns) where
 keep:=fun i h h' ⟨⟨o,es,ep,t,ho,hx,hd,hE,hT,hsz,hl,hG⟩,hb⟩ k =>
  ⟨⟨o,es,ep,t,k S o (Nat.le_refl _) ho,hx,hd,hE,hT,hsz,hl,hG⟩,fun b o hlt e=>k b o (Nat.le_of_lt hlt) (hb b o hlt e)⟩
 add:=fun i v s Q E hi ⟨hS1,hb⟩ q=>by
  have hi':items.toList[i]? = some v:=by rw [Array.getElem?_toList]; exact hi
  have hil:i < items.size:=(Array.getElem?_eq_some_iff.mp hi).1
  obtain ⟨z,hz,rz⟩:=Zdk x i v hi'
  rw [List.getElem?_map] at hz
  obtain ⟨k,hk,rfl⟩:=Option.map_eq_some_iff.mp hz
  obtain ⟨tk0,rfl⟩:=rz
  have eP:∀ m:Int,(∃ j:Nat,j < i + 1 /\ ns[j]? = some m) ↔ ((∃ j:Nat,j < i /\ ns[j]? = some m) \/ m = k):=fun m=>by
   constructor
   ·rintro ⟨j,h1,h2⟩
    by_cases c:j < i
    ·exact .inl ⟨j,c,h2⟩
    ·have:j = i:=by lia
     subst this
     rw [hk] at h2
     cases h2
     exact .inr rfl
   ·rintro (⟨j,h1,h2⟩ | rfl)
    ·exact ⟨j,by lia,h2⟩
    ·exact ⟨i,by lia,hk⟩
  refine Zlf (G':=fun l=>GN l /\ GI (fun k=>∃ j:Nat,j < i + 1 /\ ns[j]? = some k) l) (fun l l' pp ⟨g1,g2⟩=>⟨fun e he=>g1 e (pp.mem_iff.mp he),GI.perm l l' pp g2⟩) hS1 (by lia) (fun l ⟨hN,g1,g2⟩ hex=>⟨hN,g1,fun m=>?_⟩) (fun l x ⟨hN,g1,g2⟩ hno=>⟨fun e he=>?_,List.pairwise_cons.mpr ⟨fun e he z=>?_,g1⟩,fun m=>?_⟩) fun b h' tk _ sb hS2=>q b h' tk sb ⟨hS2,fun b o hlt e=>(sb.2 b (Nat.ne_of_lt hlt)).trans (hb b o hlt e)⟩
  ·refine Iff.trans ?_ (Iff.trans (or_congr (g2 m) Iff.rfl) (eP m).symm)
   constructor
   ·exact .inl
   ·rintro (h | rfl)
    ·exact h
    ·obtain ⟨e,he,h1⟩:=hex
     obtain ⟨i',t',h2⟩:=hN e he
     rw [h2] at h1
     exact ⟨e,he,by rw [h2]; exact ZiL.mp h1⟩
  ·rcases List.mem_cons.mp he with rfl | he
   ·exact ⟨k,tk0,rfl⟩
   ·exact hN e he
  ·obtain ⟨i',t',h2⟩:=hN e he
   have h3:=hno e he
   rw [h2] at h3 z
   have:i' = k:=z.symm
   rw [ZiL.mpr this] at h3
   cases h3
  ·refine Iff.trans ?_ (Iff.trans (or_congr (g2 m) Iff.rfl) (eP m).symm)
   constructor
   ·rintro ⟨e,he,h1⟩
    rcases List.mem_cons.mp he with rfl | he
    ·exact .inr h1.symm
    ·exact .inl ⟨e,he,h1⟩
   ·rintro (⟨e,he,h1⟩ | rfl)
    ·exact ⟨e,List.mem_cons_of_mem _ he,h1⟩
    ·exact ⟨_,List.mem_cons_self ..,rfl⟩
theorem JI.zero {P:Program} {w:World} {h0 h:Heap} {S:Addr} {ns:List Int} (hS:h.get? S = some (Z9 w)) (k:∀ b o,b < S -> h0.get? b = some o -> h.get? b = some o):JI P w h0 S ns 0 h :=
 ⟨⟨_,#[],0,_,hS,⟨rfl,rfl,rfl⟩,rfl,(fun _ h=>(nomatch h)),⟨rfl,rfl,.inl rfl,(by show (0:Nat) * 5 < 7 * 3; decide),List.Pairwise.nil⟩,Nat.le_refl _,rfl,⟨(fun _ h=>(nomatch h)),List.Pairwise.nil,fun ks=>⟨fun ⟨_,h,_⟩=>(nomatch h),fun ⟨_,h,_⟩=>absurd h (Nat.not_lt_zero _)⟩⟩⟩,k⟩
def ZdW (K:PySem.W.Frag) (v:V) (H:Hp) (Q:VK):Prop :=
 (∃ l ys qs,v = .ref l /\ SqL K H l ys /\ ys.length <= 900 /\ QL H ys qs /\ ∀ r zs ms,H r = none -> ms.Pairwise (fun a b=>qLt a b = true) -> (∀ q,q ∈ ms ↔ q ∈ qs) -> QL H zs ms -> Q (.ref r) (upd H r (.lst zs))) \/
 (∃ (l:Addr) (ns:List Int),v = .ref l /\ SqL K H l (ns.map V.int) /\ ns.length <= 900 /\ ∀ r (ms:List Int),H r = none -> ms.Pairwise (· < ·) -> (∀ i,i ∈ ms ↔ i ∈ ns) -> Q (.ref r) (upd H r (.lst (ms.map V.int))))
theorem ZiK {P:Program} {w:World} {H:Hp} {h0:Heap} (ok:HOk P w H h0) {ys:List V} {its:List Value} {qs:List Qd} (rv:Vals ys its) (ql:QL H ys qs):∀ us:List Value,(∀ u ∈ us,u ∈ its) -> ∃ zs,Vals zs us /\ QL H zs (us.map (kq h0))
 | [],_=>⟨[],.nil,.nil⟩
 | u :: us,h=>by
  obtain ⟨y,hy,ry⟩:=Zdt rv u (h u (List.mem_cons_self ..))
  obtain ⟨zs,rz,hz⟩:=ZiK ok rv ql us fun x hx=>h x (List.mem_cons_of_mem _ hx)
  obtain ⟨t,q,_,rfl,e2⟩:=ql.mem y hy
  have hu:u = Value.ref t:=ry
  subst hu
  exact ⟨_,.cons ry rz,.cons ⟨t,rfl,by rw [Zin (ZiP ok e2)]; exact e2⟩ hz⟩
theorem JQ.out {P:Program} {w:World} {h0 h:Heap} {S:Addr} {items:Array Value} {qs:List Qd} (x:QIt P w h0 items.toList qs) (hS:h0.objs.size <= S) (j:JQ P w h0 S items qs items.size h) :
  ∃ o es ep t,h.get? S = some o /\ o.ExactSet /\ o.data = .set es ep t /\ Tab es t /\ es.size <= items.size /\ t.led = ZfY w /\ (∀ e ∈ es.toList,e.2 ∈ items.toList) /\ (es.toList.map fun e=>kq h0 e.2).Nodup /\ ∀ q,q ∈ (es.toList.map fun e=>kq h0 e.2) ↔ q ∈ qs:=by
 obtain ⟨⟨o,es,ep,t,ho,hx,hd,hT,hsz,hl,hv,hP⟩,hb⟩:=j
 have key:∀ e ∈ es.toList,∀ ks,ZaF (Zy P w) h ks e ↔ ks = kOf (kq h0 e.2):=fun e he ks=>by
  obtain ⟨tt,q,_,h1,h2,h3⟩:=x.mem (hv e he)
  have hq:=Zin h3
  obtain ⟨e1,e2⟩:=e
  dsimp only at h1 hq ⊢
  subst h1
  have hlt:tt < S:=by
   obtain ⟨o2,_,_,g1,_⟩:=h2
   exact Nat.lt_of_lt_of_le (Heap.lt_size g1) hS
  rw [ZdJ h2 hlt hb,hq]
 refine ⟨o,es,ep,t,ho,hx,hd,hT.tab,hsz,hl,hv,?_,fun q=>?_⟩
 ·refine List.pairwise_map.mpr (List.Pairwise.imp_of_mem (fun {a b} ha hb' hab z=>?_) hT.one)
  exact hab _ ((key a ha _).mpr rfl) ((key b hb' _).mpr (by rw [z]))
 ·have h1:=hP (kOf q)
  constructor
  ·intro hq
   obtain ⟨e,he,rfl⟩:=List.mem_map.mp hq
   obtain ⟨j,q',_,h2,h3⟩:=h1.mp ⟨e,he,(key e he _).mpr rfl⟩
   rw [Zg1 h3]
   exact List.mem_of_getElem? h2
  ·intro hq
   obtain ⟨j,hj⟩:=List.mem_iff_getElem?.mp hq
   have hjl:=(List.getElem?_eq_some_iff.mp hj).1
   obtain ⟨e,he,hbr⟩:=h1.mpr ⟨j,q,by rw [<- Array.length_toList,x.1]; exact hjl,hj,rfl⟩
   exact List.mem_map.mpr ⟨e,he,(Zg1 ((key e he _).mp hbr)).symm⟩
set_option maxHeartbeats 1000000 in
theorem Zab (hc:X.calm = true) (hu:X.A.units + 200 < cLine) (hg:Gl X "sorted") (hm:X.mg "sorted" = none) (hg':Gl X "set") (hm':X.mg "set" = none) (pa:PA X [e] (ZjY te Zk9))
  (hs:starEach [e] X.env = [(false,eval e X.env)]:=by rfl) (hs':starEach [.Call (.Name "set" p') [e] [] pos'] X.env = [(false,eval (.Call (.Name "set" p') [e] [] pos') X.env)]:=by rfl) :
  PE X (.Call (.Name "sorted" p) [.Call (.Name "set" p') [e] [] pos'] [] pos) (fun σ H Q=>te σ H fun v H1=>ZdW X.K v H1 Q):=by
 intro pins s σ H Q I h
 refine wpAny_Call_Name_kw (Zcc I hg hm ZfE ?_)
 refine PyProof.Rows.callWith_builtin1 ?_ hs' rfl
 rw [hs']
 refine Calls.spliced_cons ?_
 refine wpAny_Call_Name_kw (Zcc I hg' hm' Zj6 ?_)
 refine PyProof.Rows.callWith_type1 (thn (pa pos' pins s σ H (fun vs H1=>match vs with | [v]=>ZdW X.K v H1 Q | _=>False) I h) fun us s1 ⟨vs,H1,I1,r,q⟩=>?_) hs rfl
 match vs,r,q with
 | [v],r,q =>
  obtain ⟨u,rfl,ru⟩:=r.one
  rcases q with ⟨l,ys,qs,rfl,hq,hl9,hql,q⟩ | ⟨l,ns,rfl,hq,hl9,q⟩
  ·cases ru
   obtain ⟨its,rv,pl,hz⟩:=I1.list hq
   have hlen:=rv.length
   have x:QIt X.prog X.w s1.heap its.toArray.toList qs:=QIt.of I1.hok rv hql
   refine Zen (J:=JQ X.prog X.w s1.heap s1.heap.objs.size its.toArray qs) (I1.ok.hd hc) (by lia) pl.isList (fun B hB=>JQ.goes hB x (Nat.le_refl _) (by rw [List.size_toArray]; lia)) (fun h h1 h2=>JQ.zero h1 h2) fun h2 tk hJ k2=>?_
   refine Calls.spliced_nil ?_
   have k2':∀ b o,s1.heap.get? b = some o -> h2.get? b = some o:=fun b o e=>k2 b o (Heap.lt_size e) e
   obtain ⟨o,es,ep,t,ho,hx,hd,hT,hsz,hled,hv,hnd,hmem⟩:=hJ.out x (Nat.le_refl _)
   have hsz':es.size <= its.length:=by simpa using hsz
   refine ZbD (lv:=fun u v=>qLt (kq s1.heap u) (kq s1.heap v)) (s:={ s1 with heap:=h2,toks:=tk }) (C:=fun ys=>ys.Perm (es.toList.map (·.2))) (Zdl.swo (kq s1.heap)) (fun Q' E' hq'=>?_) (fun ys' h6 tk6 d6 hC k6 h2l=>?_) fun pa ys' out h3 tk3 d3 c hC hperm hso k3 e3 hle hos=>?_
   ·refine Zci (I1.ok.hd hc) ho hx hd hT hled (by lia) fun ys' h' tk' d' k' hp hle=>hq' ys' h' tk' d' k' hp ?_ hle
    rw [hp.length_eq,List.length_map,Array.length_toList]
    lia
   ·refine Zel (h0:=s1.heap) (fun v hv'=>?_) (fun b o e=>k6 b o (k2' b o e)) h2l
    obtain ⟨e,he,rfl⟩:=List.mem_map.mp (hC.mem_iff.mp hv')
    obtain ⟨tt,q,_,h1,_,h3⟩:=x.mem (hv e he)
    exact ⟨q,h3⟩
   ·have hpm:out.toList.Perm (es.toList.map (·.2)):=hperm.trans hC
    obtain ⟨zs,rz,hzq⟩:=ZiK I1.hok rv hql out.toList fun u hu=>by
     obtain ⟨e,he,rfl⟩:=List.mem_map.mp (hpm.mem_iff.mp hu)
     exact hv e he
    have hzl:zs.length = out.size:=rz.length.trans (Array.length_toList ..)
    have hS0:s1.heap.objs.size <= pa:=Nat.le_trans (Nat.le_of_lt (Heap.lt_size ho)) hle
    have I2:=I1.laid (h':=h3) (t':=tk3) (a:=pa) (o:=.lst zs) (fun b o e=>k3 b o (k2' b o e)) hS0 (show Zal X.prog X.w _ h3 _ (.lst zs) from ⟨by rw [sizeLine_eq]; lia,out.toList,c,rz,e3⟩)
    have hmp:(out.toList.map (kq s1.heap)).Perm (es.toList.map fun e=>kq s1.heap e.2):=by
     have:=hpm.map (kq s1.heap)
     rw [List.map_map] at this
     exact this
    refine ⟨.ref pa,_,I2.draws (d:=d3),rfl,q pa zs _ (I1.hok.fresh hS0) (Zdl.strict ?_ (hmp.nodup_iff.mpr hnd)) (fun q=>hmp.mem_iff.trans (hmem q)) hzq⟩
    exact List.pairwise_map.mpr hso
  ·cases ru
   obtain ⟨its,rv,pl,hz⟩:=I1.list hq
   have hlen:=rv.length
   rw [List.length_map] at hlen
   refine Zen (J:=JI X.prog X.w s1.heap s1.heap.objs.size ns) (I1.ok.hd hc) (by lia) pl.isList (fun B hB=>JI.goes rv (by rw [List.size_toArray]; lia)) (fun h h1 h2=>JI.zero h1 h2) fun h2 tk hJ k2=>?_
   refine Calls.spliced_nil ?_
   have k2':∀ b o,s1.heap.get? b = some o -> h2.get? b = some o:=fun b o e=>k2 b o (Heap.lt_size e) e
   obtain ⟨⟨o,es,ep,t,ho,hx,hd,hE,hT,hsz,hled,hN,hnd,hmem⟩,hb⟩:=hJ
   have hsz':es.size <= its.length:=by simpa using hsz
   refine ZbD (s:={ s1 with heap:=h2,toks:=tk }) (C:=fun ys=>ys.Perm (es.toList.map (·.2))) Zgu (fun Q' E' hq'=>?_) (fun ys' h6 tk6 d6 hC k6 h2l=>?_) fun pa ys' out h3 tk3 d3 c hC hperm hso k3 e3 hle hos=>?_
   ·refine Zci (I1.ok.hd hc) ho hx hd hT hled (by lia) fun ys' h' tk' d' k' hp hle=>hq' ys' h' tk' d' k' hp ?_ hle
    rw [hp.length_eq,List.length_map,Array.length_toList]
    lia
   ·refine Zbu (fun v hv'=>?_) h2l
    obtain ⟨e,he,rfl⟩:=List.mem_map.mp (hC.mem_iff.mp hv')
    exact hN e he
   ·have hpm:out.toList.Perm (es.toList.map (·.2)):=hperm.trans hC
    have hon:∀ us:List Value,(∀ u ∈ us,∃ i t,u = Value.int i t) -> Vals ((us.map ZfT).map V.int) us:=fun us=>by
     induction us with
     | nil=>exact fun _=>.nil
     | cons u us ih =>
      intro hu
      obtain ⟨i,t,rfl⟩:=hu u (List.mem_cons_self ..)
      exact .cons ⟨t,rfl⟩ (ih fun x hx=>hu x (List.mem_cons_of_mem _ hx))
    have rz:=hon out.toList fun u hu=>by
     obtain ⟨e,he,rfl⟩:=List.mem_map.mp (hpm.mem_iff.mp hu)
     exact hN e he
    have hS0:s1.heap.objs.size <= pa:=Nat.le_trans (Nat.le_of_lt (Heap.lt_size ho)) hle
    have I2:=I1.laid (h':=h3) (t':=tk3) (a:=pa) (o:=.lst ((out.toList.map ZfT).map V.int)) (fun b o e=>k3 b o (k2' b o e)) hS0 (show Zal X.prog X.w _ h3 _ (.lst ((out.toList.map ZfT).map V.int)) from ⟨by rw [List.length_map,List.length_map,Array.length_toList,sizeLine_eq]; lia,out.toList,c,rz,e3⟩)
    have hmp:(out.toList.map ZfT).Perm (es.toList.map fun e=>ZfT e.2):=by
     have:=hpm.map ZfT
     rw [List.map_map] at this
     exact this
    refine ⟨.ref pa,_,I2.draws (d:=d3),rfl,q pa _ (I1.hok.fresh hS0) (strictly (rising rz hso) (hmp.nodup_iff.mpr (List.pairwise_map.mpr hnd))) (fun i=>hmp.mem_iff.trans (Iff.trans ?_ ((hmem i).trans ?_)))⟩
    ·constructor
     ·intro hi
      obtain ⟨e,he,rfl⟩:=List.mem_map.mp hi
      exact ⟨e,he,rfl⟩
     ·rintro ⟨e,he,rfl⟩
      exact List.mem_map.mpr ⟨e,he,rfl⟩
    ·constructor
     ·rintro ⟨j,_,h2⟩
      exact List.mem_of_getElem? h2
     ·intro hi
      obtain ⟨j,hj⟩:=List.mem_iff_getElem?.mp hi
      exact ⟨j,by have:=(List.getElem?_eq_some_iff.mp hj).1; simp; lia,hj⟩
end
end L2
namespace L2
open PySem PySem.Spec PyProof.Rows
section
variable {X:Cx} {elts:List Expr} {x1:Nat} {tp:Pos}
end
end L2
namespace L2
open PySem PySem.Spec PyProof.Rows PySem.W Srd
section
variable {X:Cx}
end
end L2
namespace L2
open PySem PySem.Spec PyProof.Rows
section
variable {X:Cx} {tg:Expr}
end
end L2
namespace L2
open PySem PySem.Spec PyProof.Rows
section
variable {X:Cx}
end
end L2
namespace L2
open PySem PySem.Spec PyProof.Rows PySem.W Srd Sts Stg
section
variable {X:Cx} {e:Expr} {te:TE} {p p' pos pos':Pos}
end
end L2
namespace Stg
open PySem PyProof.Rows Sts
section
variable {prog:Program} {w:World} {A:Around} {E:Value -> Shared -> Prop} {s:Shared}
end
end Stg
namespace L2
open PySem PySem.Spec PyProof.Rows PySem.W Srd Sts Stg
section
variable {X:Cx} {e:Expr} {te:TE} {p p' pos pos':Pos}
end
end L2
namespace L2
open PySem PySem.Spec PyProof.Rows
def Itv (K:PySem.W.Frag) (a:Addr) (n:Nat):It :=
 ⟨fun i H=>i < n /\ ∃ xs,SqL K H a xs /\ xs.length = n,fun i H x H'=>H' = H /\ ∀ xs,SqL K H a xs -> xs[n - 1 - i]? = some x,fun i _=>n <= i⟩
theorem Zh2 {P:Program} {w:World} {K:PySem.W.Frag} {tg:Expr} (a it:Addr) (n:Nat):Turn P w K tg (Itv K a n) [it] it (fun i h=>i <= n /\ h.IsRevIter it a ((n:Int) - 1 - (i:Int))) where
 mem:=by simp
 obj:=fun i h st b hb=>by
  have e:b = it:=by simpa using hb
  subst e
  obtain ⟨_,o,e,c,d⟩:=st
  exact ⟨o,e,fun v z=>by rw [d] at z; cases z⟩
 keep:=fun i h h' st k=>⟨st.1,st.2.at fun o e=>k it (by simp) o e⟩
 item:=by
  intro X hP hw hK hc i pins s σ H E I hf st hg
  subst hP hw hK
  obtain ⟨hi,xs,hq,hn⟩:=hg
  obtain ⟨its,rv,p,hz⟩:=I.list hq
  have hx:xs[n - 1 - i]? = some (xs[n - 1 - i]'(by lia)):=List.getElem?_eq_getElem (by lia)
  obtain ⟨u,hu,ru⟩:=rv.get hx
  obtain ⟨f0,f1,f2,f3,f4,f5⟩:=hf it (by simp)
  have e:(n:Int) - 1 - (i:Int) = ((n - 1 - i:Nat):Int):=by lia
  have hit:=st.2
  rw [e] at hit
  refine wpAny_pyNext_rev_item hit p.isList (x:=u) (by simpa using hu) fun h' st' sb=>?_
  have I1:Inv X pins σ H { s with heap:=h' }:=I.turned (t':=s.toks) (fun b o hb e=>(sb.2 b hb).trans e) f0 f1 f3 f4 f5
  obtain ⟨o,e',c,d⟩:=id st'
  refine ⟨u,rfl,Zh8 (s:={ s with heap:=h' }) e' c d (by decide) ⟨_,H,I1,ru,⟨rfl,fun ys hy=>by rw [I.list_inj hy hq]; exact hx⟩,⟨hi,?_⟩,fun b hb=>(hf b hb).1⟩⟩
  have e2:(n:Int) - 1 - ((i + 1:Nat):Int) = ((n - 1 - i:Nat):Int) - 1:=by lia
  rw [e2]
  exact st'
 done:=by
  intro X hP hw hK hc i pins s σ H E I hf st hg
  subst hP hw hK
  have hg':n <= i:=hg
  obtain ⟨f0,f1,f2,f3,f4,f5⟩:=hf it (by simp)
  have hit:=st.2
  have e:(n:Int) - 1 - (i:Int) = -1:=by have:=st.1; lia
  rw [e] at hit
  exact wpAny_pyNext_rev_end (I.ok.hd hc) hit fun h' eb=>⟨rfl,I.turned (t':=s.toks) (fun b o hb e=>eb b o hb e) f0 f1 f3 f4 f5⟩
 self:=fun _ _ _ _ _ st h=>wpAny_pyIter_revIter st.2 h
section
variable {X:Cx} {tg:Expr}
def Zld (K:PySem.W.Frag) (ta:TA):TI:=fun σ H R=>ta σ H fun vs H1=>∃ a xs,vs = [.ref a] /\ SqL K H1 a xs /\ R (Itv K a xs.length) H1
theorem ZiQ {l:Expr} {ta:TA} {p pos:Pos} (hg:Gl X "reversed") (hm:X.mg "reversed" = none) (ha:PA X [l] ta) (hs:starEach [l] X.env = [(false,eval l X.env)]:=by rfl) :
  PI X tg (.Call (.Name "reversed" p) [l] [] pos) (Zld X.K ta):=by
 intro pins s σ H R I h
 refine Call_ (Zcc I hg hm ZeA (PyProof.Rows.callWith_type1 (thn (ha pos pins s σ H _ I h) fun us s1 ⟨vs,H1,I1,r1,q1⟩=>?_) hs rfl))
 obtain ⟨a,xs,e,hq,q⟩:=q1
 subst e
 obtain ⟨u,rfl,ru⟩:=Vals.one r1
 cases ru
 obtain ⟨its,rv,pl,hz⟩:=I1.list hq
 refine call_reversed_list pl.isList (wpAny_pyIter_revIter (l:=a) (i:=(its.toArray.size:Int) - 1) ⟨_,Heap.get?_push_size _ rfl,rfl,rfl⟩ ?_)
 have hl:its.toArray.size = xs.length:=by rw [List.size_toArray,rv.length]
 refine ⟨s1.heap.objs.size,[s1.heap.objs.size],_,_,H1,rfl,I1.kept (t':=s1.toks) fun b o e=>Heap.get?_push_of_some _ e,Zh2 a _ xs.length,⟨Nat.zero_le _,?_⟩,fun b hb=>?_,q⟩
 ·rw [hl]
  refine ⟨_,Heap.get?_push_size _ rfl,rfl,?_⟩
  simp [revObj]
 have e:b = s1.heap.objs.size:=by simpa using hb
 subst e
 exact I1.fpOk (Nat.le_refl _) (I1.hok.fresh (Nat.le_refl _))
end
theorem Zi8 {K:PySem.W.Frag} {a:Addr} {xs:List V} {g:TG} {tb:TS} {D:Ends} {σ : St} {H:Hp} (Pv:Nat -> St -> Hp -> Prop) (h0:Pv 0 σ H) (hl:∀ i σ H,i <= xs.length -> Pv i σ H -> SqL K H a xs)
  (hs:∀ i y σ H,i < xs.length -> xs[xs.length - 1 - i]? = some y -> Pv i σ H -> g y σ H fun σ2 H2=>tb { D with nx:=Pv (i + 1),ct:=Pv (i + 1),bk:=D.nx } σ2 H2) (hd:∀ σ H,Pv xs.length σ H -> D.nx σ H) :
  ∃ W:Nat -> Nat -> St -> Hp -> Prop,(∃ m,W 0 m σ H) /\ ∀ i m σ H,W i m σ H ->
   ((Itv K a xs.length).stop i H /\ D.nx σ H) \/ ((Itv K a xs.length).go i H /\ ∃ N:St -> Hp -> Prop,(∀ σ' H',N σ' H' -> ∃ m',m' < m /\ W (i + 1) m' σ' H') /\ ∀ x H',(Itv K a xs.length).yld i H x H' -> g x σ H' fun σ2 H2=>tb { D with nx:=N,ct:=N,bk:=D.nx } σ2 H2):=by
 refine ⟨fun i m σ H=>m = xs.length - i /\ i <= xs.length /\ Pv i σ H,⟨xs.length,by simp,Nat.zero_le _,h0⟩,?_⟩
 rintro i m σ H ⟨rfl,hi,p⟩
 by_cases hlt:i < xs.length
 ·refine .inr ⟨⟨hlt,xs,hl i σ H hi p,rfl⟩,Pv (i + 1),fun σ' H' p'=>⟨xs.length - (i + 1),by lia,rfl,hlt,p'⟩,fun x H' y=>?_⟩
  obtain ⟨e,hx⟩:=y
  subst e
  exact hs i x σ _ hlt (hx xs (hl i σ _ hi p)) p
 ·have e:i = xs.length:=by lia
  subst e
  exact .inl ⟨Nat.le_refl _,hd σ H p⟩
theorem Zii {K:PySem.W.Frag} {a p:Addr} {xs:List V} {g:TG} {te:TE} {R:Hp -> Prop} {σ0:St} {H0:Hp} (Pv:Nat -> List V -> St -> Hp -> Prop) (h0:Pv 0 [] σ0 H0)
  (hl:∀ i ys σ H,i <= xs.length -> Pv i ys σ H -> SqL K H a xs /\ H p = some (.lst ys))
  (hs:∀ i ys x σ H,i < xs.length -> xs[xs.length - 1 - i]? = some x -> Pv i ys σ H -> g x σ H fun σ3 H4=>te σ3 H4 fun v H5=>H5 p = some (.lst ys) /\ ys.length < sizeLine /\ ∃ m',m' < xs.length - i /\ CW xs.length Pv (i + 1) m' (ys ++ [v]) σ3 (upd H5 p (.lst (ys ++ [v]))))
  (hd:∀ ys σ H,Pv xs.length ys σ H -> R H) :
  ∃ W:Nat -> Nat -> List V -> St -> Hp -> Prop,(∃ m,W 0 m [] σ0 H0) /\ ∀ i m ys σc H2,W i m ys σc H2 -> H2 p = some (.lst ys) /\ (((Itv K a xs.length).stop i H2 /\ R H2) \/ ((Itv K a xs.length).go i H2 /\ ∀ x H3,(Itv K a xs.length).yld i H2 x H3 -> g x σc H3 fun σ3 H4=>te σ3 H4 fun v H5 =>
   H5 p = some (.lst ys) /\ ys.length < sizeLine /\ ∃ m',m' < m /\ W (i + 1) m' (ys ++ [v]) σ3 (upd H5 p (.lst (ys ++ [v]))))):=by
 refine ⟨CW xs.length Pv,⟨_,rfl,Nat.zero_le _,h0⟩,?_⟩
 rintro i m ys σ H ⟨rfl,hi,hp⟩
 obtain ⟨h1,h2⟩:=hl i ys σ H hi hp
 refine ⟨h2,?_⟩
 by_cases hlt:i < xs.length
 ·refine .inr ⟨⟨hlt,xs,h1,rfl⟩,?_⟩
  rintro x H3 ⟨rfl,hx⟩
  exact hs i ys x σ _ hlt (hx xs h1) hp
 ·have e:i = xs.length:=by lia
  subst e
  exact .inl ⟨Nat.le_refl _,hd ys σ H hp⟩
end L2
namespace Fg
open PySem L2 FgM
theorem Zjh {X:Cx} {K:PySem.W.Frag} {es:List Expr} {k:Nat} {t:TGs} {n:Nat} {pos:Pos} (hK:X.K = K) (hc:X.calm = true) (h:PGs X es t) (hn:(assignEach es X.env).length = n:=by rfl) (hst:(assignEach es X.env).findIdx? (·.1) = none:=by rfl):PG X (.Tuple es k pos) (Zk0 K n t):=by
 subst hK
 exact Zfd hc h hn hst
theorem Zg7:bootBuiltins "sorted" = some (.builtin "sorted"):=by decide +kernel
theorem Zh1 {K:PySem.W.Frag} {a p:Addr} {xs:List V} {g:TG} {te:TE} {R:Hp -> Prop} {σ0:St} {H0:Hp} (Pv:Nat -> List V -> St -> Hp -> Prop) (h0:Pv 0 [] σ0 H0)
  (hl:∀ i ys σ H,i <= xs.length -> Pv i ys σ H -> SqT K H a xs /\ H p = some (.lst ys))
  (hs:∀ i ys x σ H,i < xs.length -> xs[i]? = some x -> Pv i ys σ H -> g x σ H fun σ3 H4=>te σ3 H4 fun v H5=>H5 p = some (.lst ys) /\ ys.length < sizeLine /\ ∃ m',m' < xs.length - i /\ CW xs.length Pv (i + 1) m' (ys ++ [v]) σ3 (upd H5 p (.lst (ys ++ [v]))))
  (hd:∀ ys σ H,Pv xs.length ys σ H -> R H) :
  ∃ W:Nat -> Nat -> List V -> St -> Hp -> Prop,(∃ m,W 0 m [] σ0 H0) /\ ∀ i m ys σc H2,W i m ys σc H2 -> H2 p = some (.lst ys) /\ (((Itt K a).stop i H2 /\ R H2) \/ ((Itt K a).go i H2 /\ ∀ x H3,(Itt K a).yld i H2 x H3 -> g x σc H3 fun σ3 H4=>te σ3 H4 fun v H5 =>
   H5 p = some (.lst ys) /\ ys.length < sizeLine /\ ∃ m',m' < m /\ W (i + 1) m' (ys ++ [v]) σ3 (upd H5 p (.lst (ys ++ [v]))))):=by
 refine ⟨CW xs.length Pv,⟨_,rfl,Nat.zero_le _,h0⟩,?_⟩
 rintro i m ys σ H ⟨rfl,hi,hp⟩
 obtain ⟨h1,h2⟩:=hl i ys σ H hi hp
 refine ⟨h2,?_⟩
 by_cases hlt:i < xs.length
 ·refine .inr ⟨⟨xs,xs[i],h1,List.getElem?_eq_getElem hlt⟩,?_⟩
  rintro x H3 ⟨rfl,hx⟩
  exact hs i ys x σ _ hlt (hx xs h1) hp
 ·refine .inl ⟨⟨xs,h1,by lia⟩,hd ys σ H ?_⟩
  have e:i = xs.length:=by lia
  rw [<- e]
  exact hp
theorem ZJ {α : Type} {l:List α} {i:Nat} {x : α} (h:l[i]? = some x):l.take (i + 1) = l.take i ++ [x]:=by
 rw [List.take_add_one,h]
 rfl
theorem ZaS {lo:Int} {n:Nat} {p:Addr} {g:TG} {te:TE} {R:Hp -> Prop} {σ0:St} {H0:Hp} (Pv:Nat -> List V -> St -> Hp -> Prop) (h0:Pv 0 [] σ0 H0)
  (hl:∀ i ys σ H,i <= n -> Pv i ys σ H -> H p = some (.lst ys))
  (hs:∀ i ys σ H,i < n -> Pv i ys σ H -> g (.int (lo + i)) σ H fun σ3 H4=>te σ3 H4 fun v H5=>H5 p = some (.lst ys) /\ ys.length < sizeLine /\ ∃ m',m' < n - i /\ CW n Pv (i + 1) m' (ys ++ [v]) σ3 (upd H5 p (.lst (ys ++ [v]))))
  (hd:∀ ys σ H,Pv n ys σ H -> R H) :
  ∃ W:Nat -> Nat -> List V -> St -> Hp -> Prop,(∃ m,W 0 m [] σ0 H0) /\ ∀ i m ys σc H2,W i m ys σc H2 -> H2 p = some (.lst ys) /\ (((Itr lo n).stop i H2 /\ R H2) \/ ((Itr lo n).go i H2 /\ ∀ x H3,(Itr lo n).yld i H2 x H3 -> g x σc H3 fun σ3 H4=>te σ3 H4 fun v H5 =>
   H5 p = some (.lst ys) /\ ys.length < sizeLine /\ ∃ m',m' < m /\ W (i + 1) m' (ys ++ [v]) σ3 (upd H5 p (.lst (ys ++ [v]))))):=by
 refine ⟨CW n Pv,⟨_,rfl,Nat.zero_le _,h0⟩,?_⟩
 rintro i m ys σ H ⟨rfl,hi,hp⟩
 refine ⟨hl i ys σ H hi hp,?_⟩
 by_cases hlt:i < n
 ·refine .inr ⟨hlt,?_⟩
  rintro x H3 ⟨rfl,rfl⟩
  exact hs i ys σ _ hlt hp
 ·have e:i = n:=by lia
  subst e
  exact .inl ⟨Nat.le_refl _,hd ys σ H hp⟩
theorem Zcq {X:Cx} {K:PySem.W.Frag} (h:X.K = K):IxR X (Zla K):=h ▸ ZW
theorem Zaw {X:Cx} {K:PySem.W.Frag} (h:X.K = K):OpR X (compareOp .In) (rIn K false):=h ▸ Zea
def ZkK (K:PySem.W.Frag) (ta:TE):TT:=fun σ H Q=>ta σ H fun x H'=>∃ k,ZkD K x H' k /\ Q k H'
theorem ZhR {X:Cx} {K:PySem.W.Frag} {a:Expr} {ta:TE} (h:X.K = K) (ha:PE X a ta) (he:∀ whole,isTrue a X.env whole = (do let v <- whole; standAt a.pos; holding [v] (truthy v))) :
  PT X a (ZkK K ta):=by
 subst h
 exact ZR ha he
theorem ZiY {n k:Nat} (h:k < n):ixN n ((k:Nat):Int) = some k:=by
 unfold ixN
 rw [if_pos (by lia),if_pos (by lia)]
 rfl
theorem Zat {H:Hp} {p:Addr} {ys zs:List V} (hp:H p = some (.lst ys)):∀ b xs,H b = some (.tup xs) -> (upd H p (.lst zs)) b = some (.tup xs):=fun b xs h=>by
 rw [Zk (fun e=>by rw [e,hp] at h; cases h)]
 exact h
def ZeY:Sp:=fun vs H Q _=>∃ s v:Int,vs = [.int s,.int v] /\ ∀ t:Str,Zhj t -> t.length <= 8 -> Q (.str t) H
def Za4 (K:PySem.W.Frag):Sp:=fun vs H Q _=>∃ (a:Addr) (ns:List Int) (k:Int),vs = [.ref a,.int k] /\ SqL K H a (ns.map V.int) /\ ns.length <= 63 /\ 0 <= k /\ k <= 1000 /\ ∀ v:Int,0 <= v -> v < 2147483647 -> Q (.int v) H
theorem Zk3 {X:Cx} {body:List Stmt} {D:Ends} (R0:St -> Hp -> Prop) (n:Nat) (R:St -> Hp -> Prop) (h2:∃ u,PSs X (body.drop n) u /\ ∀ σ' H',R σ' H' -> u D σ' H')
  (h1:∀ u,PSs X (body.drop n) u -> (∀ σ' H',R σ' H' -> u D σ' H') -> ∃ t,PSs X body t /\ ∀ σ H,R0 σ H -> t D σ H):∃ t,PSs X body t /\ ∀ σ H,R0 σ H -> t D σ H :=
 let ⟨u,a,b⟩:=h2
 h1 u a b
theorem Zkx (x:Int) {n:Nat} (h:0 < n):∃ k:Nat,x % (n:Int) = (k:Int) /\ k < n:=by
 have h1:=Int.emod_nonneg x (by lia:(n:Int) ≠ 0)
 have h2:=Int.emod_lt_of_pos x (by lia:(0:Int) < (n:Int))
 obtain ⟨k,hk⟩:=Int.eq_ofNat_of_zero_le h1
 exact ⟨k,hk,by lia⟩
structure FQ where
 n:Int
 hs:List Int
 ts:List Int
 qs:List Srd.Qd
abbrev Zca (l:List Int):Prop:=l.Pairwise (· < ·)
abbrev ZfP (l:List Srd.Qd):Prop:=l.Pairwise (fun a b=>Srd.qLt a b = true)
def FmQ (H:Hp) (a:Addr) (f:FQ):Prop := ∃ (h1 h2 h3:Addr) (zs:List V),H a = some (.tup [.int f.n,.ref h1,.ref h2,.ref h3]) /\ H h1 = some (.tup (f.hs.map V.int)) /\ H h2 = some (.tup (f.ts.map V.int)) /\ H h3 = some (.tup zs) /\ QL H zs f.qs
theorem FmQ.same {H H':Hp} {a:Addr} {f:FQ} (h:FmQ H a f) (s:Zh H H'):FmQ H' a f:=by
 obtain ⟨h1,h2,h3,zs,e1,e2,e3,e4,e5⟩:=h
 exact ⟨h1,h2,h3,zs,s _ _ e1,s _ _ e2,s _ _ e3,s _ _ e4,e5.keep fun b xs e=>s _ _ e⟩
theorem QL.snoc {H:Hp} {q:Srd.Qd} {p:Addr} (e:H p = some (tq q)):∀ {zs:List V} {qs:List Srd.Qd},QL H zs qs -> QL H (zs ++ [.ref p]) (qs ++ [q])
 | _,_,.nil=>.cons ⟨p,rfl,e⟩ .nil
 | _,_,.cons r t=>.cons r (QL.snoc e t)
def AlD (H:Hp):Nat -> V -> V -> Prop
 | 0,_,_=>False
 | d + 1,u,v=>(∃ i,u = .int i /\ v = .int i) \/ (∃ x,u = .str x /\ v = .str x) \/ ∃ (a b:Addr) (us vs:List V),u = .ref a /\ v = .ref b /\ H a = some (.tup us) /\ H b = some (.tup vs) /\ us.length = vs.length /\ us.length <= 1000 /\ ∀ (i:Nat) x y,us[i]? = some x -> vs[i]? = some y -> AlD H d x y
theorem AlD.ints {H:Hp} {d:Nat} {l:List Int} {a b:Addr} (ha:H a = some (.tup (l.map V.int))) (hb:H b = some (.tup (l.map V.int))) (hl:l.length <= 1000):AlD H (d + 2) (.ref a) (.ref b):=by
 refine .inr (.inr ⟨a,b,_,_,rfl,rfl,ha,hb,rfl,by rw [List.length_map]; exact hl,fun i x y hx hy=>?_⟩)
 rw [hx] at hy
 cases hy
 rw [List.getElem?_map] at hx
 obtain ⟨j,_,rfl⟩:=Option.map_eq_some_iff.mp hx
 exact .inl ⟨j,rfl,rfl⟩
theorem FmQ.alike {H:Hp} {a b:Addr} {f:FQ} (x:FmQ H a f) (y:FmQ H b f) (h1:f.hs.length <= 1000) (h2:f.ts.length <= 1000) (h3:f.qs.length <= 1000):AlD H 4 (.ref a) (.ref b):=by
 obtain ⟨x1,x2,x3,zs,a1,a2,a3,a4,a5⟩:=x
 obtain ⟨y1,y2,y3,zs',b1,b2,b3,b4,b5⟩:=y
 refine .inr (.inr ⟨a,b,_,_,rfl,rfl,a1,b1,rfl,by show (4:Nat) <= 1000; decide,fun i x y hx hy=>?_⟩)
 match i with
 | 0 =>
  injection hx with hx
  injection hy with hy
  subst hx hy
  exact .inl ⟨f.n,rfl,rfl⟩
 | 1 =>
  injection hx with hx
  injection hy with hy
  subst hx hy
  exact AlD.ints (d:=1) a2 b2 h1
 | 2 =>
  injection hx with hx
  injection hy with hy
  subst hx hy
  exact AlD.ints (d:=1) a3 b3 h2
 | 3 =>
  injection hx with hx
  injection hy with hy
  subst hx hy
  refine .inr (.inr ⟨x3,y3,_,_,rfl,rfl,a4,b4,by rw [a5.length,b5.length],by rw [a5.length]; exact h3,fun j u v hu hv=>?_⟩)
  obtain ⟨p,q,e1,rfl,e2⟩:=a5.get j u hu
  obtain ⟨p',q',e1',rfl,e2'⟩:=b5.get j v hv
  rw [e1] at e1'
  cases e1'
  refine .inr (.inr ⟨p,p',_,_,rfl,rfl,e2,e2',rfl,by show (4:Nat) <= 1000; decide,fun k s t hs ht=>?_⟩)
  rw [hs] at ht
  cases ht
  match k with
  | 0=>injection hs with hs; subst hs; exact .inl ⟨_,rfl,rfl⟩
  | 1=>injection hs with hs; subst hs; exact .inr (.inl ⟨_,rfl,rfl⟩)
  | 2=>injection hs with hs; subst hs; exact .inl ⟨_,rfl,rfl⟩
  | 3=>injection hs with hs; subst hs; exact .inl ⟨_,rfl,rfl⟩
  | k + 4=>cases hs
 | i + 4=>cases hx
theorem Za6 {α : Type} [DecidableEq α]:∀ {l m:List α},l.Nodup -> (∀ x ∈ l,x ∈ m) -> l.length <= m.length
 | [],_,_,_=>Nat.zero_le _
 | a :: l,m,hn,h=>by
  obtain ⟨h1,h2⟩:=List.nodup_cons.mp hn
  have ha:=h a (List.mem_cons_self ..)
  have h3:=Za6 (m:=m.erase a) h2 fun x hx=>(List.mem_erase_of_ne (fun (e:x = a)=>h1 (e ▸ hx))).mpr (h x (List.mem_cons_of_mem _ hx))
  rw [List.length_erase_of_mem ha] at h3
  have:=List.length_pos_of_mem ha
  rw [List.length_cons]
  lia
theorem ZcU {l:List Srd.Qd} (h:ZfP l):l.Nodup:=h.imp fun {a b} hab e=>by
 subst e
 rw [Srd.Zdl.irr] at hab
 cases hab
theorem Zbm {l:List Int} (h:Zca l):l.Nodup:=h.imp fun {a b} hab e=>by lia
theorem Zdi {l m:List Int} (hl:Zca l) (hm:Zca m) (h:∀ x,x ∈ l ↔ x ∈ m):l = m :=
 Srd.ZdM.one (hl.imp fun h=>decide_eq_true h) (hm.imp fun h=>decide_eq_true h) h
def Zil (d:Nat):Sp:=fun vs H Q _=>∃ u v,vs = [u,v] /\ AlD H d u v /\ Q (.bl true) H
def Zbh (K:PySem.W.Frag):Sp:=fun vs H Q _=>∃ (n:Int) (s e r:Addr) (hs ts:List Int) (ys:List V) (qs:List Srd.Qd),vs = [.int n,.ref s,.ref e,.ref r] /\ SqL K H s (hs.map V.int) /\ hs.length <= 900 /\ SqL K H e (ts.map V.int) /\ ts.length <= 900 /\ SqL K H r ys /\ QL H ys qs /\ qs.length <= 900 /\ n <= 64 /\
 (∀ ms,ZfP ms -> (∀ q ∈ ms,q ∈ qs) -> ms.length <= 400) /\ ∀ (a:Addr) (f:FQ) (H':Hp),Zh H H' -> FmQ H' a f -> f.n = n -> Zca f.hs -> (∀ i,i ∈ f.hs ↔ i ∈ hs) -> Zca f.ts -> (∀ i,i ∈ f.ts ↔ i ∈ ts) -> ZfP f.qs -> (∀ q,q ∈ f.qs ↔ q ∈ qs) -> Q (.ref a) H'
structure Okk (N:Int) (M:Nat) (f:FQ):Prop where
 n0:0 <= f.n
 n8:f.n <= N
 hs:Zca f.hs
 ts:Zca f.ts
 qs:ZfP f.qs
 hb:∀ x ∈ f.hs,0 <= x /\ x < f.n
 tb:∀ x ∈ f.ts,0 <= x /\ x < f.n
 qb:∀ q ∈ f.qs,(0 <= q.1 /\ q.1 < f.n) /\ (0 <= q.2.2.1 /\ q.2.2.1 < f.n) /\ 0 <= q.2.2.2 /\ q.2.2.2 < f.n
 hl:f.hs.length <= 4
 tl:f.ts.length <= 4
 ql:f.qs.length <= M
theorem Zgh (x:Int) {n:Int} (h:1 <= n):0 <= x % n /\ x % n < n:=⟨Int.emod_nonneg _ (by lia),Int.emod_lt_of_pos _ (by lia)⟩
def QB (n:Int) (qs:List Srd.Qd):Prop := ∀ q ∈ qs,(0 <= q.1 /\ q.1 < n) /\ (0 <= q.2.2.1 /\ q.2.2.1 < n) /\ 0 <= q.2.2.2 /\ q.2.2.2 < n
def IB (n:Int) (xs:List Int):Prop := ∀ x ∈ xs,0 <= x /\ x < n
theorem IB.snoc {n x:Int} {xs:List Int} (h:IB n xs) (hx:0 <= x /\ x < n):IB n (xs ++ [x]):=fun y hy=>by
 rcases List.mem_append.mp hy with hy | hy
 ·exact h y hy
 ·rw [List.mem_singleton.mp hy]
  exact hx
theorem Zap {K:PySem.W.Frag} {a p:Addr} {xs:List V} {g:TG} {tt:TT} {te:TE} {R:Hp -> Prop} {σ0:St} {H0:Hp} (Pv:Nat -> List V -> St -> Hp -> Prop) (h0:Pv 0 [] σ0 H0)
  (hl:∀ i ys σ H,i <= xs.length -> Pv i ys σ H -> SqT K H a xs /\ H p = some (.lst ys))
  (hs:∀ i ys x σ H,i < xs.length -> xs[i]? = some x -> Pv i ys σ H -> g x σ H fun σ3 H4=>tt σ3 H4 fun b H4'=>if b = true then te σ3 H4' fun v H5=>H5 p = some (.lst ys) /\ ys.length < sizeLine /\ ∃ m',m' < xs.length - i /\ CW xs.length Pv (i + 1) m' (ys ++ [v]) σ3 (upd H5 p (.lst (ys ++ [v])))
   else ∃ m',m' < xs.length - i /\ CW xs.length Pv (i + 1) m' ys σ3 H4')
  (hd:∀ ys σ H,Pv xs.length ys σ H -> R H) :
  ∃ W:Nat -> Nat -> List V -> St -> Hp -> Prop,(∃ m,W 0 m [] σ0 H0) /\ ∀ i m ys σc H2,W i m ys σc H2 -> H2 p = some (.lst ys) /\ (((Itt K a).stop i H2 /\ R H2) \/ ((Itt K a).go i H2 /\ ∀ x H3,(Itt K a).yld i H2 x H3 -> g x σc H3 fun σ3 H4=>tt σ3 H4 fun b H4'=>if b = true then te σ3 H4' fun v H5 =>
   H5 p = some (.lst ys) /\ ys.length < sizeLine /\ ∃ m',m' < m /\ W (i + 1) m' (ys ++ [v]) σ3 (upd H5 p (.lst (ys ++ [v]))) else ∃ m',m' < m /\ W (i + 1) m' ys σ3 H4')):=by
 refine ⟨CW xs.length Pv,⟨_,rfl,Nat.zero_le _,h0⟩,?_⟩
 rintro i m ys σ H ⟨rfl,hi,hp⟩
 obtain ⟨h1,h2⟩:=hl i ys σ H hi hp
 refine ⟨h2,?_⟩
 by_cases hlt:i < xs.length
 ·refine .inr ⟨⟨xs,xs[i],h1,List.getElem?_eq_getElem hlt⟩,?_⟩
  rintro x H3 ⟨rfl,hx⟩
  exact hs i ys x σ _ hlt (hx xs h1) hp
 ·have e:i = xs.length:=by lia
  subst e
  exact .inl ⟨⟨xs,h1,Nat.le_refl _⟩,hd ys σ H hp⟩
theorem ZaN {x:Int} {xs:List Int}:inV (.int x) (xs.map V.int) = decide (x ∈ xs):=by
 unfold inV
 rw [Bool.eq_iff_iff,List.any_eq_true,decide_eq_true_eq]
 constructor
 ·rintro ⟨y,hy,h⟩
  obtain ⟨z,hz,rfl⟩:=List.mem_map.mp hy
  have:z = x:=by
   have h':(z == x) = true:=by simpa [eqV] using h
   exact eq_of_beq h'
  exact this ▸ hz
 ·intro h
  exact ⟨V.int x,List.mem_map.mpr ⟨x,h,rfl⟩,by simp [eqV]⟩
theorem ZaC (xs:List Int):(xs.map V.int).all ZcW = true:=by
 rw [List.all_eq_true]
 intro y hy
 obtain ⟨z,_,rfl⟩:=List.mem_map.mp hy
 rfl
end Fg
namespace Fg
open PySem L2 FgM
def ofK (f:FQ):Gr Str -> Int -> Prop
 | .nil,q=>q ∈ f.ts
 | .cons t w o,q=>∃ p r,(q,t,p,r) ∈ f.qs /\ ofK f w p /\ ofK f o r
def ZgG (f:FQ) (g:Gr Str):Prop := ∃ s,s ∈ f.hs /\ ofK f g s
def bk:List Str -> Gr Str × List (Gr Str)
 | []=>(.nil,[])
 | w :: ws=>if w = SL then (.nil,(bk ws).1 :: (bk ws).2) else
  match (bk ws).2 with
  | []=>(.nil,[])
  | b :: pl=>(.cons w (bk ws).1 b,pl)
theorem ZiC (ws:List Str):bk (SL :: ws) = (.nil,(bk ws).1 :: (bk ws).2):=by
 rw [bk,if_pos rfl]
theorem Zfi {w:Str} {ws:List Str} (hw:w ≠ SL) {b:Gr Str} {pl:List (Gr Str)} (h:(bk ws).2 = b :: pl):bk (w :: ws) = (.cons w (bk ws).1 b,pl):=by
 rw [bk,if_neg hw,h]
theorem Zdx:∀ {ws:List Str} {n:Nat},Can SL n ws -> (bk ws).2.length = n
 | [],n,h=>by
  have h':n = 0:=h
  subst h'
  rfl
 | w :: ws,n,h=>by
  by_cases e:w = SL
  ·subst e
   obtain ⟨h1,h2⟩:=Zb4.mp h
   rw [ZiC,List.length_cons,Zdx h2]
   lia
  ·have h2:=Zdx ((Zb1 e).mp h)
   cases hb:(bk ws).2 with
   | nil =>
    rw [hb] at h2
    cases h2
   | cons b pl =>
    rw [Zfi e hb]
    rw [hb] at h2
    simpa using h2
def unb:List (Gr Str) -> List Str
 | []=>[]
 | g :: gs=>SL :: (words SL g ++ unb gs)
theorem ZcA:∀ {ws:List Str} {n:Nat},Can SL n ws -> ws = words SL (bk ws).1 ++ unb (bk ws).2 /\ Zei SL (bk ws).1 /\ ∀ g ∈ (bk ws).2,Zei SL g
 | [],n,_=>⟨rfl,trivial,fun _ h=>nomatch h⟩
 | w :: ws,n,h=>by
  by_cases e:w = SL
  ·subst e
   obtain ⟨h1,h2⟩:=Zb4.mp h
   obtain ⟨a,b,c⟩:=ZcA h2
   rw [ZiC]
   refine ⟨?_,trivial,fun g hg=>?_⟩
   ·show SL :: ws = SL :: (words SL (bk ws).1 ++ unb (bk ws).2)
    rw [<- a]
   ·rcases List.mem_cons.mp hg with rfl | hg
    ·exact b
    ·exact c g hg
  ·have h2:=(Zb1 e).mp h
   have h3:=Zdx h2
   obtain ⟨a,b,c⟩:=ZcA h2
   cases hb:(bk ws).2 with
   | nil =>
    rw [hb] at h3
    cases h3
   | cons g pl =>
    rw [Zfi e hb]
    rw [hb] at a c
    refine ⟨?_,⟨e,b,c g (List.mem_cons_self ..)⟩,fun x hx=>c x (List.mem_cons_of_mem _ hx)⟩
    show w :: ws = words SL (.cons w (bk ws).1 g) ++ unb pl
    have a':ws = words SL (bk ws).1 ++ (SL :: (words SL g ++ unb pl)):=a
    conv=>lhs; rw [a']
    simp [words]
theorem ZcJ:∀ {xs ys:List Str} {n:Nat},Can SL n (xs ++ ys) -> ∃ k:Nat,(k:Int) = n + hgt SL xs /\ Can SL k ys
 | [],ys,n,h=>⟨n,by simp [hgt],h⟩
 | x :: xs,ys,n,h=>by
  by_cases e:x = SL
  ·subst e
   obtain ⟨h1,h2⟩:=Zb4.mp h
   obtain ⟨k,hk,hc⟩:=ZcJ h2
   refine ⟨k,?_,hc⟩
   simp only [hgt,if_true]
   lia
  ·obtain ⟨k,hk,hc⟩:=ZcJ ((Zb1 e).mp h)
   refine ⟨k,?_,hc⟩
   simp only [hgt,if_neg e]
   lia
section
variable {f g h:FQ} {N N':Int} {M M':Nat}
end
end Fg
namespace Fg
open PySem L2 FgM
def RL (ex:List Addr) (H:Hp) (f:FQ):List V -> List (Gr Str) -> Prop:=Paired (fun z g=>∃ p l,z = V.ref p /\ p ∉ ex /\ H p = some (.lst (l.map V.int)) /\ l.length <= 900 /\ Zca l /\ ∀ x,x ∈ l ↔ ofK f g x)
section
variable {ex:List Addr} {H H':Hp} {f:FQ}
theorem RL.keep (k:∀ b o,b ∉ ex -> H b = some o -> H' b = some o):∀ {zs:List V} {gs:List (Gr Str)},RL ex H f zs gs -> RL ex H' f zs gs
 | _,_,.nil=>.nil
 | _,_,.cons ⟨p,l,e,n,h,r⟩ t=>.cons ⟨p,l,e,n,k _ _ n h,r⟩ (RL.keep k t)
theorem RL.less {ex':List Addr} (h:∀ b,b ∈ ex' -> b ∈ ex):∀ {zs:List V} {gs:List (Gr Str)},RL ex H f zs gs -> RL ex' H f zs gs
 | _,_,.nil=>.nil
 | _,_,.cons ⟨p,l,e,n,r⟩ t=>.cons ⟨p,l,e,fun z=>n (h _ z),r⟩ (RL.less h t)
theorem RL.length:∀ {zs:List V} {gs:List (Gr Str)},RL ex H f zs gs -> zs.length = gs.length
 | _,_,.nil=>rfl
 | _,_,.cons _ t=>by rw [List.length_cons,List.length_cons,RL.length t]
theorem RL.get:∀ {zs:List V} {gs:List (Gr Str)},RL ex H f zs gs -> ∀ (i:Nat) g,gs[i]? = some g -> ∃ p l,zs[i]? = some (V.ref p) /\ p ∉ ex /\ H p = some (.lst (l.map V.int)) /\ l.length <= 900 /\ Zca l /\ ∀ x,x ∈ l ↔ ofK f g x
 | _,_,.cons ⟨p,l,e,n⟩ t,i,g,hg=>by
  cases i with
  | zero =>
   injection hg with hg
   subst hg e
   exact ⟨p,l,rfl,n⟩
  | succ i=>exact RL.get t i g hg
theorem RL.one {p:Addr} {l:List Int} {g:Gr Str} (n:p ∉ ex) (h:H p = some (.lst (l.map V.int))) (hl:l.length <= 900) (r:Zca l) (m:∀ x,x ∈ l ↔ ofK f g x) {zs:List V} {gs:List (Gr Str)} (x:RL ex H f zs gs):RL ex H f (zs ++ [.ref p]) (gs ++ [g]):=Paired.snoc x ⟨p,l,rfl,n,h,hl,r,m⟩
theorem RL.rev:∀ {zs:List V} {gs:List (Gr Str)},RL ex H f zs gs -> RL ex H f zs.reverse gs.reverse
 | _,_,.nil=>.nil
 | _,_,.cons h t=>by
  rw [List.reverse_cons,List.reverse_cons]
  exact Paired.snoc (RL.rev t) h
theorem RL.tail {zs:List V} {gs:List (Gr Str)} {g:Gr Str} (h:RL ex H f zs (g :: gs)):RL ex H f zs.tail gs:=by
 cases h with
 | cons _ t=>exact t
theorem RL.init {zs:List V} {gs:List (Gr Str)} {g:Gr Str} (h:RL ex H f zs (gs ++ [g])):RL ex H f zs.dropLast gs:=by
 have h1:RL ex H f zs.reverse (g :: gs.reverse):=by
  have:=RL.rev h
  rw [List.reverse_append] at this
  exact this
 have h2:=RL.rev (RL.tail h1)
 rw [List.tail_reverse,List.reverse_reverse,List.reverse_reverse] at h2
 exact h2
end
def Zd1 (ws:List Str):List (Gr Str):=(List.range (ws.length + 1)).map fun i=>(bk (ws.drop i)).1
def Zcz (ws:List Str) (i:Nat):List (Gr Str):=(List.range (i + 1)).map fun j=>(bk (ws.drop (ws.length - j))).1
theorem Zdf (ws:List Str) (i:Nat):Zcz ws (i + 1) = Zcz ws i ++ [(bk (ws.drop (ws.length - (i + 1)))).1]:=by
 unfold Zcz
 rw [List.range_succ,List.map_append]
 rfl
theorem ZdT (ws:List Str) (i:Nat):(Zcz ws i).length = i + 1:=by
 unfold Zcz
 rw [List.length_map,List.length_range]
theorem ZfL (ws:List Str):Zcz ws 0 = [.nil]:=by
 show [(bk (ws.drop (ws.length - 0))).1] = _
 rw [Nat.sub_zero,List.drop_length]
 rfl
theorem Zf4 (ws:List Str) (i:Nat):(Zcz ws i)[i]? = some (bk (ws.drop (ws.length - i))).1:=by
 unfold Zcz
 rw [List.getElem?_map,List.getElem?_range (by lia)]
 rfl
theorem Zhw (ws:List Str):(Zcz ws ws.length).reverse = Zd1 ws:=by
 apply List.ext_getElem?
 intro i
 unfold Zcz Zd1
 by_cases h:i < ws.length + 1
 ·rw [List.getElem?_reverse (by rw [List.length_map,List.length_range]; exact h),List.length_map,List.length_range,List.getElem?_map,List.getElem?_map,List.getElem?_range h,List.getElem?_range (by lia)]
  show some (bk (ws.drop (ws.length - (ws.length + 1 - 1 - i)))).1 = some (bk (ws.drop i)).1
  rw [show ws.length - (ws.length + 1 - 1 - i) = i by lia]
 ·rw [List.getElem?_eq_none (by rw [List.length_reverse,List.length_map,List.length_range]; lia),List.getElem?_eq_none (by rw [List.length_map,List.length_range]; lia)]
theorem ZgT {ws:List Str} {i:Nat} (h:i <= ws.length):(Zd1 ws)[i]? = some (bk (ws.drop i)).1:=by
 unfold Zd1
 rw [List.getElem?_map,List.getElem?_range (by lia)]
 rfl
theorem Zef {ws:List Str} {i:Nat} (h:i < ws.length):ws.drop (ws.length - (i + 1)) = (ws[ws.length - 1 - i]'(by lia)) :: ws.drop (ws.length - i):=by
 rw [List.drop_eq_getElem_cons (by lia)]
 congr 2 <;> lia
theorem Zcr {ws:List Str} (h:Can SL 0 ws) (i:Nat):∃ k,Can SL k (ws.drop i):=by
 have h':Can SL 0 (ws.take i ++ ws.drop i):=by rw [List.take_append_drop]; exact h
 obtain ⟨k,_,hk⟩:=ZcJ h'
 exact ⟨k,hk⟩
theorem Zfv {ws:List Str} (h:Can SL 0 ws) {i:Nat} (hi:i < ws.length) (hw:ws[ws.length - 1 - i]'(by lia) ≠ SL):∃ b pl,(bk (ws.drop (ws.length - i))).2 = b :: pl /\ bk (ws.drop (ws.length - (i + 1))) = (.cons (ws[ws.length - 1 - i]'(by lia)) (bk (ws.drop (ws.length - i))).1 b,pl):=by
 obtain ⟨k,hk⟩:=Zcr h (ws.length - (i + 1))
 rw [Zef hi] at hk ⊢
 have hk':=Zdx ((Zb1 hw).mp hk)
 cases e:(bk (ws.drop (ws.length - i))).2 with
 | nil =>
  rw [e] at hk'
  cases hk'
 | cons b pl=>exact ⟨b,pl,rfl,Zfi hw e⟩
theorem Zfy {ws:List Str} {i:Nat} (hi:i < ws.length) (hw:ws[ws.length - 1 - i]'(by lia) = SL):bk (ws.drop (ws.length - (i + 1))) = (.nil,(bk (ws.drop (ws.length - i))).1 :: (bk (ws.drop (ws.length - i))).2):=by
 rw [Zef hi,hw,ZiC]
theorem ZeT:∀ ws:List Str,(bk ws).2.length <= ws.length
 | []=>Nat.le_refl _
 | w :: ws=>by
  have h:=ZeT ws
  by_cases e:w = SL
  ·rw [e,ZiC,List.length_cons,List.length_cons]
   lia
  ·cases hb:(bk ws).2 with
   | nil =>
    rw [bk,if_neg e,hb]
    exact Nat.zero_le _
   | cons b pl =>
    rw [Zfi e hb,List.length_cons]
    rw [hb,List.length_cons] at h
    show pl.length <= _
    lia
theorem QL.erase {H:Hp}:∀ {zs:List V} {qs:List Srd.Qd} (k:Nat),QL H zs qs -> QL H (zs.eraseIdx k) (qs.eraseIdx k)
 | _,_,_,.nil=>.nil
 | _,_,0,.cons _ t=>t
 | _,_,k + 1,.cons h t=>.cons h (QL.erase k t)
def ZeH (K:PySem.W.Frag):Sp:=fun vs H Q _=>∃ (a b:Addr) (f:FQ) (ws:List Str),vs = [.ref a,.ref b] /\ FmQ H a f /\ Zca f.ts /\ f.ts.length <= 900 /\ f.qs.length <= 900 /\ SqL K H b (ws.map V.str) /\ Can SL 0 ws /\ ws.length <= 300 /\ ∀ (r:Addr) (zs:List V) (H':Hp),Zh H H' -> H r = none -> H' r = some (.lst zs) -> RL [] H' f zs (Zd1 ws) -> Q (.ref r) H'
def ZgU (K:PySem.W.Frag):Sp:=fun vs H Q _=>∃ (a b:Addr) (f:FQ) (ws:List Str),vs = [.ref a,.ref b] /\ FmQ H a f /\ Zca f.ts /\ f.ts.length <= 900 /\ f.qs.length <= 900 /\ f.hs.length <= 900 /\ SqL K H b (ws.map V.str) /\ Can SL 0 ws /\ ws.length <= 300 /\ ∀ (c:Bool) (H':Hp),Zh H H' -> (c = true ↔ ZgG f (bk ws).1) -> Q (.bl c) H'
end Fg
namespace Fg
open PySem L2 FgM
section
variable {f h:FQ} {N:Int} {M:Nat}
end
end Fg
namespace L2
open PySem PySem.Spec PyProof.Rows
section
variable {X:Cx} {o e f:Expr} {apos cpos:Pos} {td ty tx:TE}
end
section
variable {X:Cx} {e ve:Expr} {te:TE} {p kp pos:Pos}
end
end L2
namespace Fg
open PySem L2 FgM
def DI (H:Hp) (p:Addr) (ns:List Int):Prop := ∃ m:List (Key × V),H p = some (.dK m) /\ m.map (·.1) = ns.map Sum.inl
theorem DI.has {m:List (Key × V)} {ns:List Int} (h:m.map (·.1) = ns.map Sum.inl) (x:Int):(ZeX m (Sum.inl x)).isSome = decide (x ∈ ns):=by
 rw [<- ZbP]
 have e1:(m.any fun kv=>decide (kv.1 = (Sum.inl x:Key))) = (m.map (·.1)).any (fun y=>decide (y = (Sum.inl x:Key))):=by rw [List.any_map]; rfl
 rw [e1,h,List.any_map,Bool.eq_iff_iff,List.any_eq_true,decide_eq_true_eq]
 constructor
 ·rintro ⟨y,hy,h⟩
  have:=of_decide_eq_true h
  injection this with this
  rw [<- this]
  exact hy
 ·intro hx
  exact ⟨x,hx,decide_eq_true rfl⟩
theorem DI.put {m:List (Key × V)} {ns:List Int} (h:m.map (·.1) = ns.map Sum.inl) (x:Int) (v:V):(putK m (Sum.inl x) v).map (·.1) = (if x ∈ ns then ns else ns ++ [x]).map Sum.inl:=by
 have hh:=DI.has h x
 unfold putK
 rw [ZbP,hh]
 by_cases hx:x ∈ ns
 ·rw [decide_eq_true hx,if_pos rfl,if_pos hx,List.map_map,<- h]
  refine List.map_congr_left fun kv _=>?_
  show (if kv.1 = Sum.inl x then (kv.1,v) else kv).1 = kv.1
  split <;> rfl
 ·rw [decide_eq_false hx,if_neg (by decide),if_neg hx,List.map_append,List.map_append,h]
  rfl
end Fg
namespace L2
open PySem PySem.Spec PyProof.Rows
theorem Zf0 {K:PySem.W.Frag} {a p:Addr} {xs:List V} {g:TG} {tt:TT} {te:TE} {R:Hp -> Prop} {σ0:St} {H0:Hp} (Pv:Nat -> List V -> St -> Hp -> Prop) (h0:Pv 0 [] σ0 H0)
  (hl:∀ i ys σ H,i <= xs.length -> Pv i ys σ H -> SqL K H a xs /\ H p = some (.lst ys))
  (hs:∀ i ys x σ H,i < xs.length -> xs[i]? = some x -> Pv i ys σ H -> g x σ H fun σ3 H4=>tt σ3 H4 fun b H4'=>if b = true then te σ3 H4' fun v H5=>H5 p = some (.lst ys) /\ ys.length < sizeLine /\ ∃ m',m' < xs.length - i /\ CW xs.length Pv (i + 1) m' (ys ++ [v]) σ3 (upd H5 p (.lst (ys ++ [v])))
   else ∃ m',m' < xs.length - i /\ CW xs.length Pv (i + 1) m' ys σ3 H4')
  (hd:∀ ys σ H,Pv xs.length ys σ H -> R H) :
  ∃ W:Nat -> Nat -> List V -> St -> Hp -> Prop,(∃ m,W 0 m [] σ0 H0) /\ ∀ i m ys σc H2,W i m ys σc H2 -> H2 p = some (.lst ys) /\ (((Itl K a).stop i H2 /\ R H2) \/ ((Itl K a).go i H2 /\ ∀ x H3,(Itl K a).yld i H2 x H3 -> g x σc H3 fun σ3 H4=>tt σ3 H4 fun b H4'=>if b = true then te σ3 H4' fun v H5 =>
   H5 p = some (.lst ys) /\ ys.length < sizeLine /\ ∃ m',m' < m /\ W (i + 1) m' (ys ++ [v]) σ3 (upd H5 p (.lst (ys ++ [v]))) else ∃ m',m' < m /\ W (i + 1) m' ys σ3 H4')):=by
 refine ⟨CW xs.length Pv,⟨_,rfl,Nat.zero_le _,h0⟩,?_⟩
 rintro i m ys σ H ⟨rfl,hi,hp⟩
 obtain ⟨h1,h2⟩:=hl i ys σ H hi hp
 refine ⟨h2,?_⟩
 by_cases hlt:i < xs.length
 ·refine .inr ⟨⟨xs,xs[i],h1,List.getElem?_eq_getElem hlt⟩,?_⟩
  rintro x H3 ⟨rfl,hx⟩
  exact hs i ys x σ _ hlt (hx xs h1) hp
 ·have e:i = xs.length:=by lia
  subst e
  exact .inl ⟨⟨xs,h1,Nat.le_refl _⟩,hd ys σ H hp⟩
end L2
namespace L2
open PySem PySem.Spec PyProof.Rows PySem.W
section
variable {X:Cx}
def ZkC:List V -> Hp -> VK -> Prop:=fun vs H Q=>∃ (d:Addr) (m:List (Key × V)),vs = [V.ref d] /\ H d = some (.dK m) /\ Q (.int (m.length:Int)) H
theorem Zed:ZcF X (.builtin "len") ZkC:=by
 rintro pins s σ H vs us Q I r ⟨d,m,rfl,hd,q⟩
 obtain ⟨u,rfl,ru⟩:=vals1 r
 cases ru
 refine ZkB I (.inl hd) ?_
 intro t s2 I2
 exact ⟨.int (m.length:Int),H,I2,⟨t,rfl⟩,q⟩
def ZkN (K:PySem.W.Frag):V -> List V -> Hp -> VK -> Prop:=fun x vs H Q=>∃ (p:Addr) (n:Int) (xs:List Int),x = .ref p /\ vs = [.int n] /\ SqL K H p (xs.map V.int) /\ n ∈ xs /\ Q (.int ((xs.idxOf n:Nat):Int)) H
theorem Zdj {n:Int}:∀ {xs:List Int} {us:List Value},Vals (xs.map V.int) us -> ∀ (j:Nat) (h1:j < us.length) (h2:j < xs.length),eqU (.int n) us[j] = decide (xs[j] = n)
 | [],_,_,_,_,h2=>absurd h2 (Nat.not_lt_zero _)
 | x :: xs,_ :: us,.cons r t,0,_,_=>by
  refine (Zhe (x:=.int n) r rfl).trans ?_
  show (x == n) = decide (x = n)
  rw [Bool.eq_iff_iff]
  simp
 | x :: xs,_ :: us,.cons r t,j + 1,h1,h2=>Zdj (xs:=xs) t j (Nat.lt_of_succ_lt_succ h1) (Nat.lt_of_succ_lt_succ h2)
theorem Zbg {K:PySem.W.Frag} (hK:X.K = K):MtM X "list.index" (ZkN K):=by
 subst hK
 intro pins s σ H x vs v us Q I rx rv h
 obtain ⟨p,n,xs,rfl,rfl,hq,hm,h⟩:=h
 cases rx
 obtain ⟨u,rfl,ru⟩:=rv.one
 obtain ⟨its,r,pl,hz⟩:=I.list hq
 obtain ⟨⟨cls,dd,data,sl⟩,m,ho,hc,hdd,hd⟩:=pl
 simp only at hc hdd hd
 subst hc hdd hd
 have hl2:=r.length
 rw [List.length_map] at hl2 hz
 have hj:xs.idxOf n < xs.length:=List.idxOf_lt_length_of_mem hm
 have fs:(xs.map V.int).all ZcW = true:=by
  rw [List.all_eq_true]
  intro y hy
  obtain ⟨z,_,rfl⟩:=List.mem_map.mp hy
  rfl
 have hz':xs.length < 2 ^ 63 - 1:=by
  rw [sizeLine_eq] at hz
  lia
 refine call_meets PySem.F.slot_list_index ⟨_,ho,rfl⟩ PySem.F.entry_list_index (PySem.F.args_list_index_2 _ _)
  (PySem.SeqAt.list_indexAt p its.toArray m none sl u (eqU (.int n)) (xs.idxOf n) (by rw [List.size_toArray]; lia) (by lia) ?_ ?_) ⟨ho,fun y hy=>Zco ru rfl r fs y (by simpa using hy),⟨.int _,H,I.tok _,⟨_,rfl⟩,h⟩⟩
 ·show eqU (.int n) its[xs.idxOf n] = true
  rw [Zdj r _ (by lia) hj]
  exact decide_eq_true (List.getElem_idxOf hj)
 ·intro j hjs hlt
  show eqU (.int n) its[j] = false
  rw [Zdj r j (by simpa using hjs) (by lia)]
  refine decide_eq_false fun e=>?_
  have h3:(xs[j]'(by lia) == n) = false:=List.not_of_lt_findIdx (p:=(· == n)) (xs:=xs) hlt
  exact beq_eq_false_iff_ne.mp h3 e
variable {o e:Expr} {es:List Expr} {to:TE} {t:TA} {name:Str} {apos cpos:Pos} {T id:String} {r:V -> List V -> Hp -> VK -> Prop}
theorem Zi0 {K:PySem.W.Frag} (hK:X.K = K) (pa:PlainAttrs T) (slot:Slot T name id) (hty:typeOf (.builtin id) = pure (.type "method_descriptor")) (hm:MtR X id r) (ho:PE X o to) (ha:PA X (e :: es) t)
  (hbase:attributeBase o name X.env (eval o X.env) = eval o X.env:=by rfl)
  (hfew:((backTo cpos (starEach (e :: es) X.env)).all (fun x=>!x.1) && (backToKw cpos (keywordEach [] X.env)).all (fun x=>x.1.isSome) && decide ((e :: es).length + ([]:List Keyword).length + (if ([]:List Keyword).isEmpty then 0 else 1) < 30)) = true:=by rfl)
  (hline:(apos.endLine == cpos.line) = true:=by rfl) (hs:starEach (e :: es) X.env = (false,eval e X.env) :: starEach es X.env:=by rfl) (hplain:(backTo cpos (starEach es X.env)).any (·.1) = false:=by rfl) :
  PE X (.Call (.Attribute o name apos) (e :: es) [] cpos) (tBM K T r to t):=by
 subst hK
 exact Zba pa slot hty hm ho ha hbase hfew hline hs hplain
end
end L2
namespace L2
open PySem PySem.Spec PyProof.Rows
section
variable {prog:Program} {w:World} {A:Around} {E:Value -> Shared -> Prop} {s:Shared}
end
section
variable {prog:Program} {w:World} {A:Around} {E:Value -> Shared -> Prop} {s:Shared}
end
section
variable {X:Cx} {elts:List Expr} {x1:Nat} {tp:Pos}
end
end L2
namespace Fg
open PySem L2 FgM
end Fg
namespace L2
open PySem PySem.Spec PyProof.Rows Srd
section
variable {X:Cx}
end
end L2
namespace L2
open PySem PySem.Spec PyProof.Rows
section
variable {X:Cx} {C:Addr} {m x:Str} {ps:List Str} {j k:Nat} {sp:Sp} {o e:Expr} {es:List Expr} {ta:TE} {t:TA} {p pos apos:Pos}
end
end L2
namespace K19
open PySem L2 FgM Fg
def top (i:Nat):Stmt:=PySem.Challenge.pw_formgrove_k19_trimmed.main.body.getD i (.Pass ⟨0,0,0,0⟩)
abbrev Zah:Stmt:=top 6
abbrev Zaf:Stmt:=top 7
abbrev ZaI:Stmt:=top 8
abbrev ZaL:Stmt:=top 9
abbrev Zbr:Stmt:=top 11
abbrev Zb8:Stmt:=top 12
abbrev ZaR:Stmt:=top 13
abbrev Zbq:Stmt:=top 14
abbrev ZaY:Stmt:=top 15
abbrev ZaX:Stmt:=top 16
abbrev ZaW:Stmt:=top 17
abbrev Zbt:Stmt:=top 18
abbrev Za0:Stmt:=top 19
abbrev Zbn:Stmt:=top 20
abbrev Zbp:Stmt:=top 21
abbrev ZaH:Stmt:=top 22
abbrev Zb6:Stmt:=top 23
abbrev ZaV:Stmt:=top 24
abbrev Zbo:Stmt:=top 25
abbrev ZdA:Stmt:=top 26
theorem Zbw:FnScope ["many","starts","ends","rules","unlike"] ["many","starts","ends","rules"] (Zg Zah):=⟨rfl,rfl,rfl,by decide +kernel,rfl,by decide +kernel,by decide +kernel⟩
theorem ZF:FnScope ["form","found","grown","kind","tag","inner","rest"] ["form"] (Zg Zaf):=⟨rfl,rfl,rfl,by decide +kernel,rfl,by decide +kernel,by decide +kernel⟩
theorem ZK:FnScope ["form","alive","rules","kept","numbers","kind","starts","ends","renamed","tag","inner","rest"] ["form"] (Zg ZaI):=⟨rfl,rfl,rfl,by decide +kernel,rfl,by decide +kernel,by decide +kernel⟩
theorem Zan:FnScope ["starts","rules","found","waiting","come_to","kind","tag","inner","rest"] ["starts","rules"] (Zg ZaL):=⟨rfl,rfl,rfl,by decide +kernel,rfl,by decide +kernel,by decide +kernel⟩
theorem Zgv:FnScope ["_law_script","_law_k"] ["_law_script","_law_k"] (Zg Zbr):=⟨rfl,rfl,rfl,by decide +kernel,rfl,by decide +kernel,by decide +kernel⟩
theorem Zak:FnScope ["_law_seed","_law_v","_law_letters","_law_many_here","_law_at","_law_more","_law_word","_law_j","_law_sign"] ["_law_seed","_law_v"] (Zg Zb8):=⟨rfl,rfl,rfl,by decide +kernel,rfl,by decide +kernel,by decide +kernel⟩
theorem Zag:FnScope ["_law_script","_law_first","_law_last","_law_seed","_law_rare","_law_words_here","_law_opened","_law_k","_law_cell_here"] ["_law_script","_law_first","_law_last"] (Zg ZaR):=⟨rfl,rfl,rfl,by decide +kernel,rfl,by decide +kernel,by decide +kernel⟩
theorem ZhO:FnScope ["_law_cell_here"] ["_law_cell_here"] (Zg Zbq):=⟨rfl,rfl,rfl,by decide +kernel,rfl,by decide +kernel,by decide +kernel⟩
theorem Zc7:FnScope ["_law_script","_law_many_here","_law_cell_here"] ["_law_script","_law_many_here"] (Zg ZaY):=⟨rfl,rfl,rfl,by decide +kernel,rfl,by decide +kernel,by decide +kernel⟩
theorem ZaT:FnScope ["_law_script","_law_words_here","_law_many_here","_law_tails_here","_law_kinds_here","_law_p","_law_drawn"] ["_law_script","_law_words_here","_law_many_here"] (Zg ZaX):=⟨rfl,rfl,rfl,by decide +kernel,rfl,by decide +kernel,by decide +kernel⟩
theorem Za2:FnScope ["_law_words_here","_law_kinds_here","_law_found","_law_pile","_law_j","_law_p"] ["_law_words_here","_law_kinds_here"] (Zg ZaW):=⟨rfl,rfl,rfl,by decide +kernel,rfl,by decide +kernel,by decide +kernel⟩
theorem Zaz:FnScope ["_law_script","_law_words_here","_law_many_here","_law_kinds_here","_law_rules","_law_cell_here","_law_k","_law_drawn","_law_word","_law_heads"] ["_law_script","_law_words_here","_law_many_here"] (Zg Zbt):=⟨rfl,rfl,rfl,by decide +kernel,rfl,by decide +kernel,by decide +kernel⟩
theorem ZaG:FnScope ["_law_one","_law_words_here","_law_found","_law_pile","_law_word","_law_behind","_law_some"] ["_law_one","_law_words_here"] (Zg Za0):=⟨rfl,rfl,rfl,by decide +kernel,rfl,by decide +kernel,by decide +kernel⟩
theorem Zbk:FnScope ["_law_words_here","_law_at","_law_opened","_law_some"] ["_law_words_here","_law_at"] (Zg Zbn):=⟨rfl,rfl,rfl,by decide +kernel,rfl,by decide +kernel,by decide +kernel⟩
theorem ZbY:FnScope ["_law_one","_law_good_here","_law_k","_law_rule"] ["_law_one"] (Zg Zbp):=⟨rfl,rfl,rfl,by decide +kernel,rfl,by decide +kernel,by decide +kernel⟩
theorem Za8:FnScope ["_law_one","_law_good_here","_law_found","_law_k","_law_rule"] ["_law_one","_law_good_here"] (Zg ZaH):=⟨rfl,rfl,rfl,by decide +kernel,rfl,by decide +kernel,by decide +kernel⟩
theorem Za7:FnScope ["_law_one","_law_good_here","_law_kept","_law_heads","_law_tails_here","_law_rules","_law_rule"] ["_law_one"] (Zg Zb6):=⟨rfl,rfl,rfl,by decide +kernel,rfl,by decide +kernel,by decide +kernel⟩
theorem Zdg:FnScope ["_law_found","_law_due_here","_law_k"] ["_law_found","_law_due_here"] (Zg ZaV):=⟨rfl,rfl,rfl,by decide +kernel,rfl,by decide +kernel,by decide +kernel⟩
theorem Zeo:FnScope ["_law_one","_law_words_here","_law_kinds_here"] ["_law_one","_law_words_here"] (Zg Zbo):=⟨rfl,rfl,rfl,by decide +kernel,rfl,by decide +kernel,by decide +kernel⟩
theorem ZdP:FnScope ["_law_script","_law_words_here","_law_one","_law_found","_law_some"] ["_law_script"] (Zg ZdA):=⟨rfl,rfl,rfl,by decide +kernel,rfl,by decide +kernel,by decide +kernel⟩
abbrev ZcY:List Str:=["bool","dict","int","isinstance","len","list","min","range","reversed","set","sorted","str","tuple"]
section
variable {P:Program} {w:World} {K:PySem.W.Frag} {mg:Str -> Option Value} {base:Heap} {f:Addr} {fd:FuncData}
theorem ZgJ (B:∀ x ∈ ZcY,mg x = none) (F:Fun K "_law_cell" "_law_cell" Zbr f fd):FnOk P w K mg base CX0 1 f fd ["_law_script","_law_k"] (Za4 K):=by
 refine F.ok Zgv (fun vs H Q E h=>?_) (fun cdv A outer s H vs Q E hr h=>?_)
 ·obtain ⟨a,ns,k,rfl,_⟩:=h
  rfl
 obtain ⟨a,ns,k,rfl,hS,h63,h0,hk,q⟩:=h
 refine ⟨_,(Zd (ZaK (Zv ZjI (pv 1) (Zt Zq rfl (B "len" (by decide)) PySem.boot_len (Za (pv 0) Zc)) (ZX _))
   (Zf (ZQ (Zm Z3 (Zm Zae (Zm Zbv (Zr ZW (pv 0) (pv 1) (fun _ _=>rfl)) Ze) (Zm Zbv (Zm Zbv (pv 1) (pv 1)) Ze)) Ze)))
   Z6)
  (Zf (ZQ (Zm Z3 (Zm Zae (Zm Zae (Zm Zbv (Zm Zbv (pv 1) (pv 1)) Ze) (Zm Zbv (Zt Zq rfl (B "len" (by decide)) PySem.boot_len (Za (pv 0) Zc)) Ze)) Ze) Ze)))),?_⟩
 have hq:∀ v:Int,Q (.int (v % 2147483647)) H:=fun v=>q _ (Int.emod_nonneg _ (by decide)) (Int.emod_lt_of_pos _ (by decide))
 refine ⟨_,rfl,_,rfl,a,_,rfl,.inl hS,_,_,rfl,rfl,_,rfl,?_⟩
 refine ZbE (fun c=>?_) (fun c=>?_)
 ·have c':=of_decide_eq_true c
  rw [List.length_map] at c'
  obtain ⟨v,hv⟩:=Zi5 (ns:=ns) h0 c'
  exact ⟨_,rfl,_,rfl,a,_,k,_,rfl,rfl,hS,hv,_,_,rfl,rfl,.inr ⟨by decide,by decide⟩,_,rfl,_,rfl,_,_,rfl,rfl,.inl ⟨by lia,by lia⟩,_,_,rfl,rfl,.inr ⟨by decide,by decide⟩,_,_,rfl,rfl,_,_,rfl,rfl,(by show (0:Int) < 2147483647; decide),hq _⟩
 ·exact ⟨_,rfl,_,rfl,_,_,rfl,rfl,.inl ⟨by lia,by lia⟩,_,_,rfl,rfl,.inr ⟨by decide,by decide⟩,_,rfl,a,_,rfl,.inl hS,_,_,rfl,rfl,.inr ⟨by decide,by decide⟩,_,_,rfl,rfl,_,_,rfl,rfl,_,_,rfl,rfl,(by show (0:Int) < 2147483647; decide),hq _⟩
theorem Zh3 (B:∀ x ∈ ZcY,mg x = none) (F:Fun K "_law_tag" "_law_tag" Zb8 f fd):FnOk P w K mg base CX0 1 f fd ["_law_seed","_law_v"] ZeY:=by
 refine F.ok Zak (fun vs H Q E h=>?_) (fun cdv A outer s H vs Q E hr h=>?_)
 ·obtain ⟨sd,v,rfl,_⟩:=h
  rfl
 obtain ⟨sd,v,rfl,q⟩:=h
 refine cut 5 (fun σ' H'=>∃ many at' more:Int,σ' = [some (.int sd),some (.int v),some (.str ABC),some (.int many),some (.int at'),some (.int more),none,none,none] /\ H' = H /\ 1 <= many /\ many <= 8)
  ⟨_,(Zd (Zn (i:=6) Zak.nd rfl (Or.inl rfl) ZbR)
  (Zd (ZaD PassesOwn.never rfl (Z4 rfl (B "range" (by decide)) (Za (pv 3) Zc)) (Zj (i:=7) Zak.nd rfl (Or.inl rfl))
   (Zd (Zn (i:=8) Zak.nd rfl (Or.inl rfl) (Zm Zae (Zm Z7 (pv 0) (Zm Zae (pv 7) Ze)) (Zm Zbv (ZD ZdS rfl (B "int" (by decide)) ZhK (Za (ZbI ZbW (pv 7) (pv 4) (ZX _)) Zc)) (pv 5))))
    (Zf (Zn (i:=6) Zak.nd rfl (Or.inl rfl) (Zm Zgc (pv 6) (Zr ZjJ (pv 2) (Zm Z3 (pv 8) Ze) (fun _ _=>rfl)))))))
  (Zf (ZQ (pv 6))))),?_⟩
  (fun u hu4 hR=>⟨_,(Zd (Zn (i:=2) Zak.nd rfl (Or.inl rfl) ZbR)
  (Zd (Zn (i:=3) Zak.nd rfl (Or.inl rfl) (Zm Zae Ze (Zm Z3 (pv 0) Ze)))
  (Zd (Zn (i:=4) Zak.nd rfl (Or.inl rfl) (Zm Z3 (Zm Z7 (pv 0) Ze) (pv 3)))
  (Zd (Zn (i:=5) Zak.nd rfl (Or.inl rfl) (pv 1))
  (Zd (ZaK (Zv ZbW (Zm Z3 (Zm Z7 (pv 0) Ze) Ze) Ze (ZX _))
   (Zd (Zn (i:=3) Zak.nd rfl (Or.inl rfl) (Zm Zae Ze (Zm Z3 (Zm Zae (Zm Z7 (pv 0) Ze) (pv 1)) Ze)))
    (Zd (Zn (i:=4) Zak.nd rfl (Or.inl rfl) (Zm Zek (pv 3) Ze))
    (Zf (Zn (i:=5) Zak.nd rfl (Or.inl rfl) (Zm Z7 (pv 1) Ze)))))
   Z6)
  hu4))))),?_⟩)
 rotate_left
 ·have m1:=Int.emod_nonneg sd (by decide:(8:Int) ≠ 0)
  have m2:=Int.emod_lt_of_pos sd (by decide:(0:Int) < 8)
  refine ⟨_,rfl,_,_,rfl,rfl,(by show (0:Int) < 8; decide),_,_,rfl,rfl,?_⟩
  refine ⟨_,rfl,_,_,rfl,rfl,⟨by decide,by decide⟩,_,rfl,_,_,rfl,rfl,(by show (0:Int) < 1 + sd % 8; lia),?_⟩
  refine ⟨_,rfl,?_⟩
  refine ⟨_,rfl,_,_,rfl,rfl,⟨by decide,by decide⟩,_,_,rfl,rfl,(by show (0:Int) < 2; decide),rfl,_,rfl,?_⟩
  refine ZbE (fun _=>?_) (fun _=>?_)
  ·have m3:=Int.emod_nonneg (sd / 8 + v) (by decide:(8:Int) ≠ 0)
   have m4:=Int.emod_lt_of_pos (sd / 8 + v) (by decide:(0:Int) < 8)
   refine ⟨_,rfl,_,_,rfl,rfl,⟨by decide,by decide⟩,_,rfl,_,_,rfl,rfl,_,_,rfl,rfl,(by show (0:Int) < 8; decide),_,_,rfl,rfl,?_⟩
   refine ⟨_,rfl,_,_,rfl,rfl,?_⟩
   refine ⟨_,rfl,_,_,rfl,rfl,⟨by decide,by decide⟩,?_⟩
   exact hR _ _ ⟨_,_,_,rfl,rfl,by lia,by lia⟩
  ·exact hR _ _ ⟨_,_,_,rfl,rfl,by lia,by lia⟩
 ·rintro σ' H' ⟨many,at',more,rfl,rfl,h1,h8⟩
  refine ⟨_,rfl,_,rfl,by lia,by lia,Zay (lo:=0) (n:=many.toNat) (fun i σ H1=>∃ (t:Str) (v7 v8:Option V),σ = [some (.int sd),some (.int v),some (.str ABC),some (.int many),some (.int at'),some (.int more),some (.str t),v7,v8] /\ H1 = H' /\ t.length = i /\ Zki t) ⟨Str.empty,none,none,rfl,rfl,rfl,fun _ h=>(nomatch h)⟩ ?_ ?_⟩
  ·rintro i σ H1 hi ⟨t,v7,v8,rfl,rfl,hl,hlt⟩
   refine ⟨_,rfl,_,rfl,_,_,rfl,rfl,_,_,rfl,rfl,⟨by lia,by lia⟩,_,rfl,_,rfl,rfl,_,rfl,_,rfl,_,_,rfl,rfl,.inl ⟨by split <;> decide,by split <;> decide⟩,_,_,rfl,rfl,?_⟩
   obtain ⟨c,hc,c1,c2⟩:=ZjO (i:=(sd / (0 + (i:Int) + 9) + (if decide (V.int (0 + (i:Int)) = V.int at') = true then 1 else 0) * more) % 26) (Int.emod_nonneg _ (by decide)) (Int.emod_lt_of_pos _ (by decide))
   refine ⟨_,rfl,_,rfl,_,rfl,_,_,rfl,rfl,(by show (0:Int) < 26; decide),_,_,c,rfl,rfl,(by decide),hc,_,_,rfl,rfl,?_,?_⟩
   ·show t.length + 1 <= sizeLine
    exact ZeD (by lia)
   ·refine ⟨t ++ ⟨#[c]⟩,_,_,rfl,rfl,?_,Zib hlt (Zh9 c1 c2).let0⟩
    rw [Zjf,hl]
    rfl
  ·rintro σ H1 ⟨t,v7,v8,rfl,rfl,hl,hlt⟩
   refine ⟨_,rfl,q t ⟨fun z=>?_,hlt⟩ (by lia)⟩
   have e:t.cps.toList.length = t.length:=Array.length_toList
   rw [z] at e
   have e0:(0:Nat) = t.length:=e
   lia
def ZcD (K:PySem.W.Frag):Sp:=fun vs H Q _=>∃ (a:Addr) (ns:List Int) (fi la:Int),vs = [.ref a,.int fi,.int la] /\ SqL K H a (ns.map V.int) /\ ns.length <= 63 /\ 3 <= fi /\ fi <= 10 /\ 0 <= la /\ ∀ (r:Addr) (ws:List Str) (H':Hp),Zh H H' -> H r = none -> H' r = some (.lst (ws.map V.str)) -> ws.length <= 120 -> Can SL 0 ws -> (∀ w ∈ ws,w = SL \/ (Zhj w /\ w.length <= 8)) -> Q (.ref r) H'
set_option maxHeartbeats 1000000 in
theorem Zgb (B:∀ x ∈ ZcY,mg x = none) (g_l_cell:Has P w K mg base "_law_cell" ["_law_script","_law_k"] 1 (Za4 K)) (g_l_tag:Has P w K mg base "_law_tag" ["_law_seed","_law_v"] 1 ZeY) (F:Fun K "_law_words" "_law_words" ZaR f fd):FnOk P w K mg base CX0 2 f fd ["_law_script","_law_first","_law_last"] (ZcD K):=by
 refine F.ok Zag (fun vs H Q E h=>?_) (fun cdv A outer s H vs Q E hr h=>?_)
 ·obtain ⟨a,ns,fi,la,rfl,_⟩:=h
  rfl
 obtain ⟨a,ns,fi,la,rfl,hS,h63,f3,f1,l0,q⟩:=h
 have f0:0 <= fi:=by lia
 refine ⟨_,(Zd (Zn (i:=3) Zag.nd rfl (Or.inl rfl) (Zw g_l_cell hr rfl (Za (pv 0) (Za Ze Zc))))
  (Zd (Zn (i:=4) Zag.nd rfl (Or.inl rfl) (Zm Zae Ze (Zm Z3 (Zm Z7 (pv 3) Ze) Ze)))
  (Zd (Zn (i:=5) Zag.nd rfl (Or.inl rfl) (ZbJ Zc))
  (Zd (Zn (i:=6) Zag.nd rfl (Or.inl rfl) Ze)
  (Zd (ZaD PassesOwn.never rfl (ZhL rfl (B "range" (by decide)) (Za (pv 1) (Za (Zt (Zhc rfl) rfl (B "min" (by decide)) Zke (Za (Zt Zq rfl (B "len" (by decide)) PySem.boot_len (Za (pv 0) Zc)) (Za (pv 2) Zc))) Zc))) (Zj (i:=7) Zag.nd rfl (Or.inl rfl))
   (Zd (Zn (i:=8) Zag.nd rfl (Or.inl rfl) (Zw g_l_cell hr rfl (Za (pv 0) (Za (pv 7) Zc))))
    (Zf (ZaK (PW.pt (ZaZ (Zv ZfI (pv 6) Ze (ZX _)) (Za9 (PW.pt (Zf9 (Zv ZbW (Zm Z3 (pv 8) (pv 4)) Ze (ZX _)) (Zc3 (Zv ZfI (pv 6) Ze (ZX _))))))))
     (Zd (Zar (Zba PySem.F.plainAttrs_list PySem.F.slot_list_append PySem.F.type_list_append ZP (pv 5) (Za ZbR Zc)))
      (Zf (Zn (i:=6) Zag.nd rfl (Or.inl rfl) (Zm Zek (pv 6) Ze))))
     (Zd (Zar (Zba PySem.F.plainAttrs_list PySem.F.slot_list_append PySem.F.type_list_append ZP (pv 5) (Za (Zw g_l_tag hr rfl (Za (pv 3) (Za (Zm Z3 (Zm Z7 (pv 8) Ze) Ze) Zc))) Zc)))
      (Zf (Zn (i:=6) Zag.nd rfl (Or.inl rfl) (Zm Zae (pv 6) Ze))))))))
  (Zf (ZQ (Zm ZjH (pv 5) (ZbF (cl:=[]) ["_law_k"] [] (Z4 rfl (B "range" (by decide)) (Za (pv 6) Zc)) (fun _ _ _ _=>(Zj (i:=0) nd1 rfl (Or.inl rfl))) (fun _ _ _ _=>ZbR) rfl rfl (by decide) rfl (by decide) (fun _ _ h=>nomatch h) (ZbS (by decide)) (fun _ _ h=>nomatch h) (fun _=>rfl)))))))))),?_⟩
 refine ⟨_,rfl,a,ns,0,rfl,hS,h63,by decide,by decide,fun se e0 _=>?_⟩
 refine ⟨_,rfl,_,_,rfl,rfl,⟨by decide,by decide⟩,_,_,rfl,rfl,(by show (0:Int) < 3; decide),_,_,rfl,rfl,?_⟩
 have hra:(0:Int) < 2 + se / 64 % 3:=by have:=Zgh (se / 64) (n:=3) (by decide); lia
 refine ⟨by decide,fun p hp=>?_⟩
 have s0:Zh H (upd H p (.lst [])):=Zh.new hp
 obtain ⟨j,hj,hj0,hj1,hj2⟩:∃ j:Int,(if la < ((ns.map V.int).length:Nat) then la else ((ns.map V.int).length:Nat)) = j /\ 0 <= j /\ j <= 63 /\ j <= la:=by
  by_cases c:la < ((ns.map V.int).length:Nat)
  ·exact ⟨_,if_pos c,by lia,by rw [List.length_map] at c; lia,by lia⟩
  ·exact ⟨_,if_neg c,by lia,by rw [List.length_map]; lia,by lia⟩
 refine ⟨_,rfl,_,rfl,a,_,rfl,.inl (s0.seq hS),_,rfl,_,_,rfl,_,j,(by rw [hj]),⟨by lia,by lia,by lia,by lia⟩,Zay (lo:=fi) (fun i σ H1=>∃ (v7 v8:Option V) (op:Nat) (ws:List Str),σ = [some (.ref a),some (.int fi),some (.int la),some (.int se),some (.int (2 + se / 64 % 3)),some (.ref p),some (.int (op:Int)),v7,v8] /\ Zh H H1 /\ H1 p = some (.lst (ws.map V.str)) /\ ws.length + op <= 2 * i /\ (∀ tl,Can SL op tl -> Can SL 0 (ws ++ tl)) /\ ∀ w ∈ ws,w = SL \/ (Zhj w /\ w.length <= 8))
  ⟨none,none,0,[],rfl,s0,Zb,Nat.le_refl _,fun _ h=>h,fun _ h=>(nomatch h)⟩ ?_ ?_⟩
 ·rintro i σ H1 hi ⟨v7,v8,op,ws,rfl,s1,hp1,hlen,hcan,hws⟩
  have hi25:i < 60:=by lia
  refine ⟨_,rfl,_,rfl,a,ns,fi + (i:Int),rfl,s1.seq hS,h63,by lia,by lia,fun d d0 d1=>?_⟩
  have addTag:∀ t:Str,Zhj t -> t.length <= 8 -> ∃ (v7 v8:Option V) (op':Nat) (ws':List Str),[some (V.ref a),some (V.int fi),some (V.int la),some (V.int se),some (V.int (2 + se / 64 % 3)),some (V.ref p),some (V.int ((op:Int) + 1)),some (V.int (fi + (i:Int))),some (V.int d)] = [some (V.ref a),some (V.int fi),some (V.int la),some (V.int se),some (V.int (2 + se / 64 % 3)),some (V.ref p),some (V.int (op':Int)),v7,v8] /\ Zh H (upd H1 p (.lst (ws.map V.str ++ [V.str t]))) /\ (upd H1 p (.lst (ws.map V.str ++ [V.str t]))) p = some (.lst (ws'.map V.str)) /\ ws'.length + op' <= 2 * (i + 1) /\ (∀ tl,Can SL op' tl -> Can SL 0 (ws' ++ tl)) /\ ∀ w ∈ ws',w = SL \/ (Zhj w /\ w.length <= 8):=by
   intro t ht h8
   refine ⟨_,_,op + 1,ws ++ [t],rfl,s1.upd_new hp,?_,?_,fun tl htl=>?_,fun w hw=>?_⟩
   ·rw [Zb,List.map_append]
    rfl
   ·rw [List.length_append,List.length_singleton]
    lia
   ·rw [List.append_assoc]
    exact hcan _ ((Zb1 ht.ne).mpr htl)
   ·rcases List.mem_append.mp hw with hw | hw
    ·exact hws w hw
    ·rw [List.mem_singleton.mp hw]
     exact .inr ⟨ht,h8⟩
  have addEnd:0 < op -> ∃ (v7 v8:Option V) (op':Nat) (ws':List Str),[some (V.ref a),some (V.int fi),some (V.int la),some (V.int se),some (V.int (2 + se / 64 % 3)),some (V.ref p),some (V.int ((op:Int) - 1)),some (V.int (fi + (i:Int))),some (V.int d)] = [some (V.ref a),some (V.int fi),some (V.int la),some (V.int se),some (V.int (2 + se / 64 % 3)),some (V.ref p),some (V.int (op':Int)),v7,v8] /\ Zh H (upd H1 p (.lst (ws.map V.str ++ [V.str SL]))) /\ (upd H1 p (.lst (ws.map V.str ++ [V.str SL]))) p = some (.lst (ws'.map V.str)) /\ ws'.length + op' <= 2 * (i + 1) /\ (∀ tl,Can SL op' tl -> Can SL 0 (ws' ++ tl)) /\ ∀ w ∈ ws',w = SL \/ (Zhj w /\ w.length <= 8):=by
   intro c1'
   refine ⟨some (.int (fi + (i:Int))),some (.int d),op - 1,ws ++ [SL],?_,s1.upd_new hp,?_,?_,fun tl htl=>?_,fun w hw=>?_⟩
   ·rw [show ((op - 1:Nat):Int) = (op:Int) - 1 by lia]
   ·rw [Zb,List.map_append]
    rfl
   ·rw [List.length_append,List.length_singleton]
    lia
   ·rw [List.append_assoc]
    exact hcan _ (Zb4.mpr ⟨c1',htl⟩)
   ·rcases List.mem_append.mp hw with hw | hw
    ·exact hws w hw
    ·exact .inl (List.mem_singleton.mp hw)
  refine ⟨_,rfl,_,_,rfl,rfl,_,rfl,ZbE (fun c1=>⟨_,rfl,_,rfl,_,_,rfl,rfl,hra,rfl,_,rfl,ZbE (fun c2=>Zcj ?_) (fun c2=>⟨_,rfl,_,_,rfl,rfl,_,rfl,ZbE (fun c3=>?_) (fun c3=>?_)⟩)⟩) (fun c1=>Za3 ?_)⟩
  ·refine ⟨_,rfl,.inl ⟨rfl,_,SqL.of hp1⟩,p,_,_,rfl,rfl,hp1,Zi (by rw [List.length_map]; lia),?_⟩
   refine ⟨_,rfl,_,_,rfl,rfl,?_⟩
   exact addEnd (by have:=of_decide_eq_true c1; lia)
  ·refine ⟨_,rfl,.inl ⟨rfl,_,SqL.of hp1⟩,p,_,_,rfl,rfl,hp1,Zi (by rw [List.length_map]; lia),?_⟩
   refine ⟨_,rfl,_,_,rfl,rfl,?_⟩
   exact addEnd (by have:=of_decide_eq_true c1; lia)
  ·refine ⟨_,rfl,.inl ⟨rfl,_,SqL.of hp1⟩,_,rfl,_,rfl,_,_,rfl,rfl,⟨by decide,by decide⟩,_,_,rfl,rfl,(by show (0:Int) < 4; decide),_,_,rfl,fun t ht h8=>⟨p,_,_,rfl,rfl,hp1,Zi (by rw [List.length_map]; lia),?_⟩⟩
   refine ⟨_,rfl,_,_,rfl,rfl,?_⟩
   exact addTag t ht h8
  ·refine ⟨_,rfl,.inl ⟨rfl,_,SqL.of hp1⟩,_,rfl,_,rfl,_,_,rfl,rfl,⟨by decide,by decide⟩,_,_,rfl,rfl,(by show (0:Int) < 4; decide),_,_,rfl,fun t ht h8=>⟨p,_,_,rfl,rfl,hp1,Zi (by rw [List.length_map]; lia),?_⟩⟩
   refine ⟨_,rfl,_,_,rfl,rfl,?_⟩
   exact addTag t ht h8
 ·rintro σ H1 ⟨v7,v8,op,ws,rfl,s1,hp1,hlen,hcan,hws⟩
  have hl50:ws.length + op <= 120:=by lia
  refine ⟨_,rfl,_,rfl,_,rfl,by lia,by lia,fun pc hpc=>ZaS (lo:=0) (n:=op) (p:=pc) (fun i ys σ H2=>∃ v0:Option V,σ = [v0] /\ Zh H1 H2 /\ H2 pc = some (.lst ys) /\ ys = (List.replicate i SL).map V.str)
   ⟨none,rfl,Zh.new hpc,Zb,rfl⟩ ?_ ?_ ?_⟩
  ·rintro i ys σ H2 _ ⟨v0,_,_,h,_⟩
   exact h
  ·rintro i ys σ H2 hi ⟨v0,rfl,sm,h,rfl⟩
   refine ⟨h,Zi (by rw [List.length_map,List.length_replicate]; lia),CW.next hi ⟨_,rfl,sm.upd_new hpc,Zb,?_⟩⟩
   rw [List.replicate_succ',List.map_append]
   rfl
  ·rintro ys σ H2 ⟨v0,rfl,sm,h,rfl⟩
   refine ⟨p,pc,_,_,rfl,rfl,sm _ _ hp1,h,ZeD (by rw [List.length_map,List.length_map,List.length_replicate]; lia),fun pn hpn=>?_⟩
   refine q pn (ws ++ List.replicate op SL) _ ((s1.trans sm).trans (Zh.new hpn)) ((s1.trans sm).free hpn) ?_ ?_ (hcan _ (ZjB op)) fun w hw=>?_
   ·rw [Zb,List.map_append]
   ·rw [List.length_append,List.length_replicate]
    exact hl50
   ·rcases List.mem_append.mp hw with hw | hw
    ·exact hws w hw
    ·exact .inl (List.eq_of_mem_replicate hw)
def Zgs:Sp:=fun vs H Q _=>∃ c:Int,vs = [.int c] /\ ∀ m:Int,1 <= m -> m <= 64 -> Q (.int m) H
def Zdh (K:PySem.W.Frag):Sp:=fun vs H Q _=>∃ (a:Addr) (ns:List Int) (m:Int),vs = [.ref a,.int m] /\ SqL K H a (ns.map V.int) /\ ns.length <= 63 /\ 1 <= m /\ ∀ (r:Addr) (ts:List Int) (H':Hp),Zh H H' -> H r = none -> H' r = some (.lst (ts.map V.int)) -> Zca ts -> 1 <= ts.length -> ts.length <= 4 -> IB m ts -> Q (.ref r) H'
def ZcH (K:PySem.W.Frag):Sp:=fun vs H Q _=>∃ (a b:Addr) (ns:List Int) (ws:List Str) (m:Int),vs = [.ref a,.ref b,.int m] /\ SqL K H a (ns.map V.int) /\ ns.length <= 63 /\ SqL K H b (ws.map V.str) /\ ws.length <= 300 /\ 1 <= m /\ ∀ (r:Addr) (ks:List Int) (H':Hp),Zh H H' -> H r = none -> H' r = some (.lst (ks.map V.int)) -> ks.length = ws.length + 1 -> IB m ks -> Q (.ref r) H'
theorem ZgL (B:∀ x ∈ ZcY,mg x = none) (F:Fun K "_law_many" "_law_many" Zbq f fd):FnOk P w K mg base CX0 1 f fd ["_law_cell_here"] Zgs:=by
 refine F.ok ZhO (fun vs H Q E h=>?_) (fun cdv A outer s H vs Q E hr h=>?_)
 ·obtain ⟨c,rfl,_⟩:=h
  rfl
 obtain ⟨c,rfl,q⟩:=h
 have h1:=Zgh (c / 4) (n:=64) (by decide)
 have h2:=Zgh (c / 4) (n:=5) (by decide)
 refine ⟨_,(Zd (ZaK (Zv ZbW (Zm Z3 (pv 0) Ze) Ze (ZX _))
   (Zf (ZQ (Zm Zae Ze (Zm Z3 (Zm Z7 (pv 0) Ze) Ze))))
   Z6)
  (Zf (ZQ (Zm Zae Ze (Zm Z3 (Zm Z7 (pv 0) Ze) Ze))))),?_⟩
 refine ⟨_,rfl,_,_,rfl,rfl,(by show (0:Int) < 4; decide),rfl,_,rfl,ZbE (fun _=>?_) (fun _=>?_)⟩
 ·exact ⟨_,rfl,_,_,rfl,rfl,⟨by decide,by decide⟩,_,_,rfl,rfl,(by show (0:Int) < 64; decide),_,_,rfl,rfl,q _ (by lia) (by lia)⟩
 ·exact ⟨_,rfl,_,_,rfl,rfl,⟨by decide,by decide⟩,_,_,rfl,rfl,(by show (0:Int) < 5; decide),_,_,rfl,rfl,q _ (by lia) (by lia)⟩
set_option maxHeartbeats 1000000 in
theorem Zf6 (B:∀ x ∈ ZcY,mg x = none) (g_l_cell:Has P w K mg base "_law_cell" ["_law_script","_law_k"] 1 (Za4 K)) (F:Fun K "_law_tails" "_law_tails" ZaY f fd):FnOk P w K mg base CX0 2 f fd ["_law_script","_law_many_here"] (Zdh K):=by
 refine F.ok Zc7 (fun vs H Q E h=>?_) (fun cdv A outer s H vs Q E hr h=>?_)
 ·obtain ⟨a,ns,m,rfl,_⟩:=h
  rfl
 obtain ⟨a,ns,m,rfl,hS,h63,m1,q⟩:=h
 have hu:=Zb7 hr
 have hm0:(0:Int) < m:=by lia
 refine ⟨_,(Zd (Zn (i:=2) Zc7.nd rfl (Or.inr rfl) (Zw g_l_cell hr rfl (Za (pv 0) (Za Ze Zc))))
  (Zf (ZQ (Zab rfl hu rfl (B "sorted" (by decide)) rfl (B "set" (by decide)) (Za (ZbF (cl:=_) ["_law_k"] [("_law_many_here",1),("_law_cell_here",2)] (Z4 rfl (B "range" (by decide)) (Za (Zm Zae Ze (Zm Z3 (pv 2) Ze)) Zc)) (fun _ _ _ _=>(Zj (i:=0) (show List.Nodup (["_law_k","_law_many_here","_law_cell_here"]:List Str) by decide) rfl (Or.inl rfl))) (fun _ _ _ _=>(Zm Z3 (Zm Z7 (pv 2) (Zm Zae (pv 0) Ze)) (pv 1))) rfl rfl (by decide) rfl (by decide) (ZaM (by (repeat' first | exact List.forall_mem_nil _ | refine List.forall_mem_cons.mpr ⟨?_,?_⟩) <;> rfl)) (Zaq (by (repeat' first | exact List.forall_mem_nil _ | refine List.forall_mem_cons.mpr ⟨?_,?_⟩) <;> first | (intro h; exact ⟨_,rfl⟩) | (intro h; exact absurd h (by decide)))) (fun _=>by (repeat' first | exact List.forall_mem_nil _ | refine List.forall_mem_cons.mpr ⟨?_,?_⟩) <;> exact ⟨rfl,rfl,Or.inl rfl⟩) (fun _=>rfl)) Zc))))),?_⟩
 refine ⟨_,rfl,a,ns,1,rfl,hS,h63,by decide,by decide,fun ch ch0 ch1=>?_⟩
 have h3:=Zgh ch (n:=3) (by decide)
 refine ⟨_,rfl,_,_,rfl,rfl,(by show (0:Int) < 3; decide),_,_,rfl,rfl,_,rfl,by lia,by lia,fun p0 hp0=>?_⟩
 refine ZaS (lo:=0) (n:=(1 + ch % 3).toNat) (p:=p0) (fun i ys σ H2=>∃ (v0:Option V) (ts:List Int),σ = [v0,some (.int m),some (.int ch)] /\ Zh H H2 /\ H2 p0 = some (.lst ys) /\ ys = ts.map V.int /\ ts.length = i /\ IB m ts)
  ⟨none,[],rfl,Zh.new hp0,Zb,rfl,rfl,fun _ h=>(nomatch h)⟩ ?_ ?_ ?_
 ·rintro i ys σ H2 _ ⟨v0,ts,_,_,h,_⟩
  exact h
 ·rintro i ys σ H2 hi ⟨v0,ts,rfl,sm,hp,rfl,hl,ht⟩
  refine ⟨_,rfl,_,rfl,_,_,rfl,rfl,_,_,rfl,rfl,⟨by lia,by lia⟩,_,rfl,_,_,rfl,rfl,hm0,hp,?_,CW.next hi ⟨_,ts ++ [ch / (0 + (i:Int) + 5) % m],rfl,sm.upd_new hp0,Zb,?_,?_,ht.snoc (Zgh _ m1)⟩⟩
  ·rw [List.length_map]
   exact Zi (by lia)
  ·rw [List.map_append]
   rfl
  ·rw [List.length_append,hl]
   rfl
 rintro ys σ H1 ⟨v0,t0,rfl,s1,hp1,rfl,hl1,ht1⟩
 refine .inr ⟨p0,t0,rfl,SqL.of hp1,by lia,fun pt ts hpt hrt hmt=>?_⟩
 refine q pt ts _ (s1.trans (Zh.new hpt)) (s1.free hpt) Zb hrt ?_ (Nat.le_trans (Za6 (Zbm hrt) fun x hx=>(hmt x).mp hx) (by lia)) fun x hx=>ht1 x ((hmt x).mp hx)
 cases t0 with
 | nil=>rw [List.length_nil] at hl1; lia
 | cons x t=>exact List.length_pos_of_mem ((hmt x).mpr (List.mem_cons_self ..))
set_option maxHeartbeats 1000000 in
theorem Zgd (B:∀ x ∈ ZcY,mg x = none) (g_l_tails:Has P w K mg base "_law_tails" ["_law_script","_law_many_here"] 2 (Zdh K)) (g_l_cell:Has P w K mg base "_law_cell" ["_law_script","_law_k"] 1 (Za4 K)) (F:Fun K "_law_kinds" "_law_kinds" ZaX f fd):FnOk P w K mg base CX0 3 f fd ["_law_script","_law_words_here","_law_many_here"] (ZcH K):=by
 refine F.ok ZaT (fun vs H Q E h=>?_) (fun cdv A outer s H vs Q E hr h=>?_)
 ·obtain ⟨a,b,ns,ws,m,rfl,_⟩:=h
  rfl
 obtain ⟨a,b,ns,ws,m,rfl,hS,h63,hB,hwl,m1,q⟩:=h
 have hm0:(0:Int) < m:=by lia
 refine ⟨_,(Zd (Zn (i:=3) ZaT.nd rfl (Or.inl rfl) (Zw g_l_tails hr rfl (Za (pv 0) (Za (pv 2) Zc))))
  (Zd (Zn (i:=4) ZaT.nd rfl (Or.inl rfl) (ZbJ Zc))
  (Zd (ZaD PassesOwn.never rfl (Z4 rfl (B "range" (by decide)) (Za (Zm Zae (Zt Zq rfl (B "len" (by decide)) PySem.boot_len (Za (pv 1) Zc)) Ze) Zc)) (Zj (i:=5) ZaT.nd rfl (Or.inl rfl))
   (Zd (Zn (i:=6) ZaT.nd rfl (Or.inl rfl) (Zm Z7 (Zw g_l_cell hr rfl (Za (pv 0) (Za (Zm Zae (pv 5) Ze) Zc))) Ze))
    (Zf (ZaK (PW.pt (Zf9 (Zv ZbW (pv 5) (Zt Zq rfl (B "len" (by decide)) PySem.boot_len (Za (pv 1) Zc)) (ZX _)) (Zc3 (Zv ZbW (Zr ZW (pv 1) (pv 5) (fun _ _=>rfl)) ZbR (ZX _)))))
     (Zf (Zar (Zba PySem.F.plainAttrs_list PySem.F.slot_list_append PySem.F.type_list_append ZP (pv 4) (Za (Zr ZW (pv 3) (Zm Z3 (pv 6) (Zt Zq rfl (B "len" (by decide)) PySem.boot_len (Za (pv 3) Zc))) (fun _ _=>rfl)) Zc))))
     (Zf (Zar (Zba PySem.F.plainAttrs_list PySem.F.slot_list_append PySem.F.type_list_append ZP (pv 4) (Za (Zm Z3 (pv 6) (pv 2)) Zc))))))))
  (Zf (ZQ (pv 4)))))),?_⟩
 refine ⟨_,rfl,_,rfl,a,ns,m,rfl,hS,h63,m1,fun pt ts H1 s1 hpt e1 hrt htn htl htb=>?_⟩
 refine ⟨by decide,fun pk hpk=>?_⟩
 have t3:Zh H1 (upd H1 pk (.lst [])):=Zh.new hpk
 have npk:pt ≠ pk:=Zo e1 hpk
 have hpk0:=s1.free hpk
 have e3:(upd H1 pk (.lst [])) pk = some (.lst (([]:List Int).map V.int)):=Zb
 have d3:=t3 _ _ e1
 generalize upd H1 pk (.lst []) = H3 at t3 e3 d3 ⊢
 have s3:=s1.trans t3
 refine ⟨_,rfl,b,_,rfl,.inl (s3.seq hB),_,_,rfl,rfl,_,rfl,by lia,by rw [List.length_map]; lia,Zay (lo:=0) (fun i σ H4=>∃ (v5 v6:Option V) (ks:List Int),σ = [some (.ref a),some (.ref b),some (.int m),some (.ref pt),some (.ref pk),v5,v6] /\ Zh H H4 /\ H4 pt = some (.lst (ts.map V.int)) /\ H4 pk = some (.lst (ks.map V.int)) /\ ks.length = i /\ IB m ks)
  ⟨none,none,[],rfl,s3,d3,e3,rfl,fun _ h=>(nomatch h)⟩ ?_ ?_⟩
 ·rintro i σ H4 hi ⟨v5,v6,ks,rfl,s4,k1,k2,hkl,hkb⟩
  have hi':i < ws.length + 1:=by
   rw [List.length_map] at hi
   lia
  have ei:(0:Int) + (i:Int) = ((i:Nat):Int):=by lia
  refine ⟨_,rfl,_,rfl,_,_,rfl,rfl,a,ns,0 + (i:Int) + 4,rfl,s4.seq hS,h63,by lia,by lia,fun d d0 d1=>⟨_,_,rfl,rfl,⟨by decide,by decide⟩,?_⟩⟩
  obtain ⟨n,en,hn⟩:=Zkx (d / 53) (n:=ts.length) htn
  have en':d / 53 % (((ts.map V.int).length:Nat):Int) = (n:Int):=by rw [List.length_map]; exact en
  have hat:(ts.map V.int)[n]? = some (.int ts[n]):=by
   rw [List.getElem?_map,List.getElem?_eq_getElem hn]
   rfl
  have hpos:(0:Int) < (((ts.map V.int).length:Nat):Int):=by rw [List.length_map]; lia
  have fin:∀ k:Int,0 <= k /\ k < m -> ∃ (v5 v6:Option V) (ks':List Int),[some (V.ref a),some (V.ref b),some (V.int m),some (V.ref pt),some (V.ref pk),some (V.int (0 + (i:Int))),some (V.int (d / 53))] = [some (.ref a),some (.ref b),some (.int m),some (.ref pt),some (.ref pk),v5,v6] /\ Zh H (upd H4 pk (.lst (ks.map V.int ++ [.int k]))) /\ (upd H4 pk (.lst (ks.map V.int ++ [.int k]))) pt = some (.lst (ts.map V.int)) /\ (upd H4 pk (.lst (ks.map V.int ++ [.int k]))) pk = some (.lst (ks'.map V.int)) /\ ks'.length = i + 1 /\ IB m ks':=fun k hk =>
   ⟨_,_,ks ++ [k],rfl,s4.upd_new hpk0,by rw [Zk npk]; exact k1,by rw [Zb,List.map_append]; rfl,by rw [List.length_append,hkl]; rfl,hkb.snoc hk⟩
  refine ⟨_,rfl,_,rfl,b,_,rfl,.inl (s4.seq hB),rfl,_,rfl,ZbE (fun c1=>Zcj ?_) (fun c1=>?_)⟩
  ·refine ⟨_,rfl,.inl ⟨rfl,_,SqL.of k2⟩,_,rfl,_,rfl,_,rfl,pt,_,rfl,.inl (SqL.of k1),_,_,rfl,rfl,hpos,pt,_,_,_,rfl,congrArg V.int en',SqL.of k1,ZV hat,pk,_,_,rfl,rfl,k2,Zi (by rw [List.length_map]; lia),?_⟩
   exact fin _ (htb _ (List.getElem_mem hn))
  ·have hi2:i < ws.length:=by
    have:i ≠ ws.length:=fun z=>c1 (decide_eq_true (congrArg V.int (by rw [List.length_map]; lia)))
    lia
   have hx:(ws.map V.str)[i]? = some (.str ws[i]):=by
    rw [List.getElem?_map,List.getElem?_eq_getElem hi2]
    rfl
   refine ⟨_,rfl,_,rfl,b,_,_,_,rfl,congrArg V.int ei,s4.seq hB,ZV hx,rfl,_,rfl,ZbE (fun c2=>?_) (fun c2=>?_)⟩
   ·refine ⟨_,rfl,.inl ⟨rfl,_,SqL.of k2⟩,_,rfl,_,rfl,_,rfl,pt,_,rfl,.inl (SqL.of k1),_,_,rfl,rfl,hpos,pt,_,_,_,rfl,congrArg V.int en',SqL.of k1,ZV hat,pk,_,_,rfl,rfl,k2,Zi (by rw [List.length_map]; lia),?_⟩
    exact fin _ (htb _ (List.getElem_mem hn))
   ·refine ⟨_,rfl,.inl ⟨rfl,_,SqL.of k2⟩,_,rfl,_,rfl,_,_,rfl,rfl,hm0,pk,_,_,rfl,rfl,k2,Zi (by rw [List.length_map]; lia),?_⟩
    exact fin _ (Zgh _ m1)
 ·rintro σ H4 ⟨v5,v6,ks,rfl,s4,k1,k2,hkl,hkb⟩
  refine ⟨_,rfl,q pk ks H4 s4 hpk0 k2 ?_ hkb⟩
  rw [hkl,List.length_map]
  lia
def NQ (H:Hp) (m:Int) (zs:List V):Prop := ∀ z ∈ zs,z = V.non \/ ∃ t q,z = .ref t /\ H t = some (tq q) /\ QB m [q]
theorem NQ.keep {H H':Hp} {m:Int} {zs:List V} (h:NQ H m zs) (k:∀ b xs,H b = some (.tup xs) -> H' b = some (.tup xs)):NQ H' m zs:=fun z hz=>by
 rcases h z hz with e | ⟨t,q,e1,e2,e3⟩
 ·exact .inl e
 ·exact .inr ⟨t,q,e1,k _ _ e2,e3⟩
def ZcC (K:PySem.W.Frag):Sp:=fun vs H Q _=>∃ (a b:Addr) (ws:List Str) (ks:List Int) (m:Int),vs = [.ref a,.ref b] /\ SqL K H a (ws.map V.str) /\ Can SL 0 ws /\ ws.length <= 300 /\ SqL K H b (ks.map V.int) /\ ks.length = ws.length + 1 /\ IB m ks /\ ∀ (r:Addr) (zs:List V) (qs:List Srd.Qd) (H':Hp),Zh H H' -> H r = none -> H' r = some (.lst zs) -> QL H' zs qs -> qs.length <= ws.length -> QB m qs -> Q (.ref r) H'
set_option maxHeartbeats 1000000 in
theorem ZfC (B:∀ x ∈ ZcY,mg x = none) (F:Fun K "_law_steps" "_law_steps" ZaW f fd):FnOk P w K mg base CX0 1 f fd ["_law_words_here","_law_kinds_here"] (ZcC K):=by
 refine F.ok Za2 (fun vs H Q E h=>?_) (fun cdv A outer s H vs Q E hr h=>?_)
 ·obtain ⟨a,b,ws,ks,m,rfl,_⟩:=h
  rfl
 obtain ⟨a,b,ws,ks,m,rfl,hA,hcan,hwl,hB,hkl,hkb,q⟩:=h
 refine ⟨_,(Zd (ZbG (cl:=[]) (n0:=2) Za2.nd rfl (Or.inl rfl) ["_law_word"] [] (ZbB (pv 0)) (fun _ _ _ _=>(Zj (i:=0) nd1 rfl (Or.inl rfl))) (fun _ _ _ _=>ZiO) rfl rfl (by decide) rfl (by decide) (fun _ _ h=>nomatch h) (ZbS (by decide)) (fun _ _ h=>nomatch h) (fun _=>rfl) rfl)
  (Zd (Zn (i:=3) Za2.nd rfl (Or.inl rfl) (ZbJ Zc))
  (Zd (ZaD PassesOwn.never rfl (Z4 rfl (B "range" (by decide)) (Za (Zt Zq rfl (B "len" (by decide)) PySem.boot_len (Za (pv 0) Zc)) Zc)) (Zj (i:=4) Za2.nd rfl (Or.inl rfl))
   (Zd (Zn (i:=5) Za2.nd rfl (Or.inl rfl) (Zm Zek (Zm Zek (Zt Zq rfl (B "len" (by decide)) PySem.boot_len (Za (pv 0) Zc)) Ze) (pv 4)))
    (Zf (ZaK (Zv ZbW (Zr ZW (pv 0) (pv 5) (fun _ _=>rfl)) ZbR (ZX _))
     (Zf (Zar (Zba PySem.F.plainAttrs_list PySem.F.slot_list_append PySem.F.type_list_append ZP (pv 3) (Za (Zr ZW (pv 1) (Zm Zae (pv 5) Ze) (fun _ _=>rfl)) Zc))))
     (Zf (Ze7 (Z1 (Za (Zr ZW (pv 1) (pv 5) (fun _ _=>rfl)) (Za (Zr ZW (pv 0) (pv 5) (fun _ _=>rfl)) (Za (Zr ZW (pv 1) (Zm Zae (pv 5) Ze) (fun _ _=>rfl)) (Za (ZhJ PySem.F.plainAttrs_list PySem.F.slot_list_pop PySem.F.type_list_pop Zhi (pv 3)) Zc))))) (Zfx (pv 2) (pv 5) set_list)))))))
  (Zf (ZQ (ZaU (cl:=[]) ["_law_rule"] [] (ZbB (pv 2)) (fun _ _ _ _=>(Zj (i:=0) nd1 rfl (Or.inl rfl))) (fun _ _ _ _=>(Zv Zjk (pv 0) ZiO (ZX _))) (fun _ _ _ _=>(pv 0)) rfl rfl (by decide) rfl (by decide) (fun _ _ h=>nomatch h) (ZbS (by decide)) (fun _ _ h=>nomatch h) (fun _=>rfl))))))),?_⟩
 refine ⟨_,rfl,a,rfl,⟨_,hA⟩,fun pf hpf=>ZcB (K:=K) (a:=a) (p:=pf) (xs:=ws.map V.str) (fun j us σ H1=>∃ v0:Option V,σ = [v0] /\ Zh H H1 /\ H1 pf = some (.lst us) /\ us = List.replicate j V.non)
  ⟨none,rfl,Zh.new hpf,Zb,rfl⟩ ?_ ?_ ?_⟩
 ·rintro j us σ H1 _ ⟨_,_,sm,h,_⟩
  exact ⟨sm.seq hA,h⟩
 ·rintro j us x σ H1 hj hx ⟨v0,rfl,sm,h,rfl⟩
  rw [List.length_map] at hj
  exact ⟨h,Zi (by rw [List.length_replicate]; lia),CW.next (by rw [List.length_map]; exact hj) ⟨_,rfl,sm.upd_new hpf,Zb,by rw [List.replicate_succ']⟩⟩
 rintro us σ H1 ⟨v0,rfl,s1,e1,rfl⟩
 rw [List.length_map] at e1
 refine ⟨by decide,fun pp hpp=>?_⟩
 have npf:pp ≠ pf:=fun z=>by rw [z,e1] at hpp; cases hpp
 have hpp0:=s1.free hpp
 have s0:Zh H (upd H1 pp (.lst [])):=s1.upd_new hpp0
 refine ⟨_,rfl,a,_,rfl,.inl (s0.seq hA),_,rfl,by lia,by rw [List.length_map]; lia,Zay (lo:=0) (fun i σ H1=>∃ (v4 v5:Option V) (zs:List V) (ls:List Int),σ = [some (.ref a),some (.ref b),some (.ref pf),some (.ref pp),v4,v5] /\ Zh H H1 /\ H1 pf = some (.lst zs) /\ H1 pp = some (.lst (ls.map V.int)) /\ zs.length = ws.length /\ NQ H1 m zs /\ ls.length = (bk (ws.drop (ws.length - i))).2.length /\ IB m ls)
  ⟨none,none,List.replicate ws.length V.non,[],rfl,s0,?_,Zb,List.length_replicate,?_,?_,fun _ h=>(nomatch h)⟩ ?_ ?_⟩
 ·rw [Zk npf.symm]
  exact e1
 ·intro z hz
  exact .inl (List.eq_of_mem_replicate hz)
 ·rw [Nat.sub_zero,List.drop_length]
  rfl
 ·rintro i σ H1 hi ⟨v4,v5,zs,ls,rfl,s1,k1,k2,hzl,hN,hll,hlb⟩
  rw [Int.toNat_natCast,List.length_map] at hi
  have hP:ws.length - 1 - i < ws.length:=by lia
  have ep:(((ws.map V.str).length:Nat):Int) - 1 - (0 + (i:Int)) = ((ws.length - 1 - i:Nat):Int):=by rw [List.length_map]; lia
  have ep1:(((ws.map V.str).length:Nat):Int) - 1 - (0 + (i:Int)) + 1 = ((ws.length - i:Nat):Int):=by rw [List.length_map]; lia
  have hx:(ws.map V.str)[ws.length - 1 - i]? = some (.str (ws[ws.length - 1 - i])):=by
   rw [List.getElem?_map,List.getElem?_eq_getElem hP]
   rfl
  have hk:(ks.map V.int)[ws.length - 1 - i]? = some (.int (ks[ws.length - 1 - i]'(by lia))):=by
   rw [List.getElem?_map,List.getElem?_eq_getElem (by lia)]
   rfl
  have hk1:(ks.map V.int)[ws.length - i]? = some (.int (ks[ws.length - i]'(by lia))):=by
   rw [List.getElem?_map,List.getElem?_eq_getElem (by lia)]
   rfl
  have bk0:=hkb _ (List.getElem_mem (show ws.length - 1 - i < ks.length by lia))
  have bk1:=hkb _ (List.getElem_mem (show ws.length - i < ks.length by lia))
  refine ⟨_,rfl,a,_,rfl,.inl (s1.seq hA),_,_,rfl,rfl,_,rfl,_,_,rfl,rfl,?_⟩
  refine ⟨_,rfl,_,rfl,a,_,_,_,rfl,congrArg V.int ep,s1.seq hA,ZV hx,rfl,_,rfl,ZbE (fun c=>?_) (fun c=>?_)⟩
  ·have ew:ws[ws.length - 1 - i] = SL:=by
    have:=of_decide_eq_true c
    injection this
   have hb:=Zfy hi ew
   refine ⟨_,rfl,.inl ⟨rfl,_,SqL.of k2⟩,_,rfl,_,rfl,_,_,rfl,rfl,b,_,_,_,rfl,congrArg V.int ep1,s1.seq hB,ZV hk1,pp,_,_,rfl,rfl,k2,Zi (by rw [List.length_map,hll]; have:=ZeT (ws.drop (ws.length - i)); rw [List.length_drop] at this; lia),?_⟩
   refine ⟨_,_,zs,ls ++ [ks[ws.length - i]'(by lia)],rfl,s1.upd_new hpp0,?_,?_,hzl,hN.keep (Zat k2),?_,hlb.snoc bk1⟩
   ·rw [Zk npf.symm]
    exact k1
   ·rw [Zb,List.map_append]
    rfl
   ·rw [hb,List.length_append,List.length_singleton,hll]
    rfl
  ·have ew:ws[ws.length - 1 - i] ≠ SL:=fun e=>c (decide_eq_true (congrArg V.str e))
   obtain ⟨g0,pl,e1,e2⟩:=Zfv hcan hi ew
   rw [e1,List.length_cons] at hll
   have hlast:(ls.map V.int)[(ls.map V.int).length - 1]? = some (V.int (ls[ls.length - 1]'(by lia))):=by
    rw [List.getElem?_map,List.length_map,List.getElem?_eq_getElem (by lia)]
    rfl
   have bl:=hlb _ (List.getElem_mem (show ls.length - 1 < ls.length by lia))
   refine ⟨_,rfl,_,rfl,b,_,_,_,rfl,congrArg V.int ep,s1.seq hB,ZV hk,_,rfl,_,rfl,a,_,_,_,rfl,congrArg V.int ep,s1.seq hA,ZV hx,_,rfl,_,rfl,_,_,rfl,rfl,b,_,_,_,rfl,congrArg V.int ep1,s1.seq hB,ZV hk1,_,rfl,.inl ⟨rfl,_,SqL.of k2⟩,pp,_,_,rfl,rfl,k2,hlast,by show (4:Nat) <= sizeLine; decide,fun t ht=>?_⟩
   generalize ks[ws.length - 1 - i]'(by lia) = kq at bk0
   generalize ks[ws.length - i]'(by lia) = kp at bk1
   generalize ws[ws.length - 1 - i] = wd
   generalize ls[ls.length - 1]'(by lia) = kr at bl
   have k1':(upd H1 pp (.lst (ls.map V.int).dropLast)) pf = some (.lst zs):=by
    rw [Zk npf.symm]
    exact k1
   have t2:Zh (upd H1 pp (.lst (ls.map V.int).dropLast)) (upd (upd H1 pp (.lst (ls.map V.int).dropLast)) t (tq (kq,wd,kp,kr))):=Zh.new ht
   have e2':(upd (upd H1 pp (.lst (ls.map V.int).dropLast)) t (tq (kq,wd,kp,kr))) t = some (tq (kq,wd,kp,kr)):=Zb
   have d2:(upd (upd H1 pp (.lst (ls.map V.int).dropLast)) t (tq (kq,wd,kp,kr))) pp = some (.lst (ls.map V.int).dropLast):=t2 _ _ Zb
   refine ⟨_,rfl,_,rfl,pf,_,_,ws.length - 1 - i,rfl,congrArg V.int ep,t2 _ _ k1',ZiY (by lia),?_⟩
   refine ⟨_,_,_,ls.dropLast,rfl,((s1.upd_new hpp0).trans t2).upd_new hpf,Zb,?_,by rw [List.length_set]; exact hzl,?_,?_,?_⟩
   ·rw [Zk npf]
    refine d2.trans ?_
    rw [List.map_dropLast]
   ·intro z hz
    rcases List.mem_or_eq_of_mem_set hz with hz | rfl
    ·exact (((hN.keep (Zat k2)).keep fun b xs e=>t2 _ _ e).keep (Zat (t2 _ _ k1'))) z hz
    ·refine .inr ⟨t,(kq,wd,kp,kr),rfl,Zat (t2 _ _ k1') _ _ e2',fun x hx=>?_⟩
     rw [List.mem_singleton.mp hx]
     exact ⟨bk0,bk1,bl⟩
   ·rw [e2,List.length_dropLast]
    show _ = pl.length
    lia
   ·exact fun x hx=>hlb x (List.dropLast_subset _ hx)
 ·rintro σ H1 ⟨v4,v5,zs,ls,rfl,s1,k1,k2,hzl,hN,hll,hlb⟩
  refine ⟨_,rfl,pf,rfl,⟨_,SqL.of k1⟩,fun pr hpr=>Zf0 (K:=K) (a:=pf) (p:=pr) (xs:=zs) (fun j us σ H2=>∃ (v0:Option V) (qs:List Srd.Qd),σ = [v0] /\ Zh H1 H2 /\ H2 pr = some (.lst us) /\ QL H2 us qs /\ qs.length <= j /\ QB m qs)
   ⟨none,[],rfl,Zh.new hpr,Zb,.nil,Nat.le_refl _,fun _ h=>(nomatch h)⟩ ?_ ?_ ?_⟩
  ·rintro j us σ H2 _ ⟨_,_,_,sm,h,_⟩
   exact ⟨SqL.of (sm _ _ k1),h⟩
  ·rintro j us x σ H2 hj hx ⟨v0,qs,rfl,sm,h,hQ,hql,hqb⟩
   refine ⟨_,rfl,rfl,_,rfl,?_⟩
   rcases hN x (List.mem_of_getElem? hx) with rfl | ⟨t,q1,rfl,e1,e2⟩
   ·exact Za3 (CW.next hj ⟨_,qs,rfl,sm,h,hQ,by lia,hqb⟩)
   ·refine Zcj ⟨_,rfl,h,Zi (by rw [hQ.length]; lia),CW.next hj ⟨_,qs ++ [q1],rfl,sm.upd_new hpr,Zb,(QL.snoc (sm _ _ e1) hQ).keep (Zat h),?_,fun y hy=>?_⟩⟩
    ·rw [List.length_append,List.length_singleton]
     lia
    ·rcases List.mem_append.mp hy with hy | hy
     ·exact hqb y hy
     ·exact e2 y hy
  ·rintro us σ H2 ⟨v0,qs,rfl,sm,h,hQ,hql,hqb⟩
   exact q pr us qs H2 (s1.trans sm) (s1.free hpr) h hQ (by lia) hqb
def ZdF (K:PySem.W.Frag):Sp:=fun vs H Q _=>∃ (a b:Addr) (ns:List Int) (ws:List Str) (m:Int),vs = [.ref a,.ref b,.int m] /\ SqL K H a (ns.map V.int) /\ ns.length <= 63 /\ SqL K H b (ws.map V.str) /\ Can SL 0 ws /\ ws.length <= 120 /\ 1 <= m /\ m <= 64 /\ ∀ (r:Addr) (f:FQ) (H':Hp),Zh H H' -> FmQ H' r f -> Okk 64 130 f -> Q (.ref r) H'
set_option maxHeartbeats 4000000 in
theorem ZgX (B:∀ x ∈ ZcY,mg x = none) (g_l_kinds:Has P w K mg base "_law_kinds" ["_law_script","_law_words_here","_law_many_here"] 3 (ZcH K)) (g_l_steps:Has P w K mg base "_law_steps" ["_law_words_here","_law_kinds_here"] 1 (ZcC K)) (g_l_cell:Has P w K mg base "_law_cell" ["_law_script","_law_k"] 1 (Za4 K)) (g_l_tag:Has P w K mg base "_law_tag" ["_law_seed","_law_v"] 1 ZeY) (g_l_tails:Has P w K mg base "_law_tails" ["_law_script","_law_many_here"] 2 (Zdh K)) (F:Fun K "_law_form" "_law_form" Zbt f fd):FnOk P w K mg base CX0 4 f fd ["_law_script","_law_words_here","_law_many_here"] (ZdF K):=by
 refine F.ok Zaz (fun vs H Q E h=>?_) (fun cdv A outer s H vs Q E hr h=>?_)
 ·obtain ⟨a,b,ns,ws,m,rfl,_⟩:=h
  rfl
 obtain ⟨a,b,ns,ws,m,rfl,hS,h63,hB,hcan,hwl,m1,m64,q⟩:=h
 have hu:=Zb7 hr
 have hm0:(0:Int) < m:=by lia
 refine cut 4 (fun σ' H'=>∃ (ch:Int) (pk pr:Addr) (ks:List Int) (zs:List V) (qs:List Srd.Qd),σ' = [some (.ref a),some (.ref b),some (.int m),some (.ref pk),some (.ref pr),some (.int ch),none,none,none,none] /\ Zh H H' /\ H pr = none /\ pk ≠ pr /\ H' pk = some (.lst (ks.map V.int)) /\ H' pr = some (.lst zs) /\ QL H' zs qs /\ ks ≠ [] /\ qs.length <= 120 /\ QB m qs)
  ⟨_,(Zd (ZaD PassesOwn.never rfl (Z4 rfl (B "range" (by decide)) (Za (Zm Z3 (Zm Z7 (pv 5) Ze) Ze) Zc)) (Zj (i:=6) Zaz.nd rfl (Or.inl rfl))
   (Zd (Zn (i:=7) Zaz.nd rfl (Or.inl rfl) (Zm Z7 (Zw g_l_cell hr rfl (Za (pv 0) (Za (Zm Zae (Zm Zbv Ze (pv 6)) Ze) Zc))) Ze))
    (Zd (Zn (i:=8) Zaz.nd rfl (Or.inl rfl) (Zw g_l_tag hr rfl (Za (Zw g_l_cell hr rfl (Za (pv 0) (Za Ze Zc))) (Za (Zm Z3 (Zm Z7 (pv 7) Ze) Ze) Zc))))
    (Zf (Zar (Zba PySem.F.plainAttrs_list PySem.F.slot_list_append PySem.F.type_list_append ZP (pv 4) (Za (Z1 (Za (Zm Z3 (pv 7) (pv 2)) (Za (pv 8) (Za (Zm Z3 (Zm Z7 (pv 7) Ze) (pv 2)) (Za (Zm Z3 (Zm Z7 (pv 7) Ze) (pv 2)) Zc))))) Zc)))))))
  (Zd (ZbG (cl:=_) (n0:=9) Zaz.nd rfl (Or.inl rfl) ["_law_k"] [("_law_many_here",2),("_law_kinds_here",3)] (Z4 rfl (B "range" (by decide)) (Za (Zm Z3 (Zm Z7 (pv 5) Ze) Ze) Zc)) (fun _ _ _ _=>(Zj (i:=0) (show List.Nodup (["_law_k","_law_many_here","_law_kinds_here"]:List Str) by decide) rfl (Or.inl rfl))) (fun _ _ _ _=>(Zm Z3 (Zm Zae (Zr (Zcq (K:=K) rfl) (pv 2) Ze (fun _ _=>rfl)) (Zm Zbv (pv 0) (pv 0))) (pv 1))) rfl rfl (by decide) rfl (by decide) (ZaM (by (repeat' first | exact List.forall_mem_nil _ | refine List.forall_mem_cons.mpr ⟨?_,?_⟩) <;> rfl)) (Zaq (by (repeat' first | exact List.forall_mem_nil _ | refine List.forall_mem_cons.mpr ⟨?_,?_⟩) <;> first | (intro h; exact ⟨_,rfl⟩) | (intro h; exact absurd h (by decide)))) (fun _=>by (repeat' first | exact List.forall_mem_nil _ | refine List.forall_mem_cons.mpr ⟨?_,?_⟩) <;> exact ⟨rfl,rfl,Or.inl rfl⟩) (fun _=>rfl) rfl)
  (Zf (ZQ (Z1 (Za (pv 2) (Za (ZD ZG rfl (B "tuple" (by decide)) Zas (Za (Zab rfl hu rfl (B "sorted" (by decide)) rfl (B "set" (by decide)) (Za (pv 9) Zc)) Zc)) (Za (ZD ZG rfl (B "tuple" (by decide)) Zas (Za (Zw g_l_tails hr rfl (Za (pv 0) (Za (pv 2) Zc))) Zc)) (Za (ZD ZG rfl (B "tuple" (by decide)) Zas (Za (Zab rfl hu rfl (B "sorted" (by decide)) rfl (B "set" (by decide)) (Za (pv 4) Zc)) Zc)) Zc))))))))),?_⟩ (fun u hu6 hR=>⟨_,(Zd (Zn (i:=3) Zaz.nd rfl (Or.inr rfl) (Zw g_l_kinds hr rfl (Za (pv 0) (Za (pv 1) (Za (pv 2) Zc)))))
  (Zd (Zn (i:=4) Zaz.nd rfl (Or.inl rfl) (Zw g_l_steps hr rfl (Za (pv 1) (Za (pv 3) Zc))))
  (Zd (Zn (i:=5) Zaz.nd rfl (Or.inl rfl) (Zw g_l_cell hr rfl (Za (pv 0) (Za Ze Zc))))
  (Zd (ZaK (PW.pt (ZaZ (Zv ZbW (Zm Z3 (pv 5) Ze) Ze (ZX _)) (Za9 (Zv ZfI (Zt Zq rfl (B "len" (by decide)) PySem.boot_len (Za (pv 4) Zc)) Ze (ZX _)))))
   (Zf (Zar (Zba PySem.F.plainAttrs_list PySem.F.slot_list_pop PySem.F.type_list_pop ZiA (pv 4) (Za (Zm Z3 (Zm Z7 (pv 5) Ze) (Zt Zq rfl (B "len" (by decide)) PySem.boot_len (Za (pv 4) Zc))) Zc))))
   Z6)
  hu6)))),?_⟩)
 rotate_left
 ·refine ⟨_,rfl,_,rfl,_,rfl,a,b,ns,ws,m,rfl,hS,h63,hB,by lia,m1,fun pk ks H1 s1 hpk e1 hkl hkb=>?_⟩
  refine ⟨_,rfl,_,rfl,b,pk,ws,ks,m,rfl,s1.seq hB,hcan,by lia,SqL.of e1,hkl,hkb,fun pr zs qs H2 s2 hpr e2 hQ hql hqb=>?_⟩
  have npr:pk ≠ pr:=Zo e1 hpr
  have s12:=s1.trans s2
  refine ⟨_,rfl,a,ns,2,rfl,s12.seq hS,h63,by decide,by decide,fun ch ch0 ch1=>?_⟩
  have hzl:=hQ.length
  have hkn:ks ≠ []:=fun z=>by rw [z] at hkl; cases hkl
  have skip:=hR _ _ ⟨ch,pk,pr,ks,zs,qs,rfl,s12,s1.free hpr,npr,s2 _ _ e1,e2,hQ,hkn,by lia,hqb⟩
  refine ⟨_,rfl,_,_,rfl,rfl,(by show (0:Int) < 3; decide),rfl,_,rfl,ZbE (fun c1=>?_) (fun c1=>Za3 skip)⟩
  refine ⟨_,rfl,pr,_,rfl,.inl (SqL.of e2),_,_,rfl,rfl,_,rfl,ZbE (fun c2=>?_) (fun c2=>skip)⟩
  have c2':0 < zs.length:=by
   have:=of_decide_eq_true c2
   lia
  obtain ⟨n,en,hn⟩:=Zkx (ch / 3) (n:=zs.length) c2'
  refine ⟨_,rfl,.inl ⟨rfl,_,SqL.of e2⟩,_,rfl,_,_,rfl,rfl,⟨by decide,by decide⟩,_,rfl,pr,_,rfl,.inl (SqL.of e2),_,_,rfl,rfl,(by show (0:Int) < (zs.length:Int); lia),pr,_,(n:Int),n,_,rfl,congrArg (fun z=>[V.int z]) en,e2,by lia,by lia,PySem.StrLaws.seqIndex_nonneg (by lia) (by lia),List.getElem?_eq_getElem hn,?_⟩
  refine hR _ _ ⟨ch,pk,pr,ks,zs.eraseIdx n,qs.eraseIdx n,rfl,s12.upd_new (s1.free hpr),s1.free hpr,npr,?_,Zb,(QL.erase n hQ).keep (Zat e2),hkn,?_,fun x hx=>hqb x (List.mem_of_mem_eraseIdx hx)⟩
  ·rw [Zk npr]
   exact s2 _ _ e1
  ·exact Nat.le_trans (List.length_eraseIdx_le ..) (by lia)
 rintro σ0 H0 ⟨ch,pk,pr,ks,zs,qs,rfl,s0,hpr,npr2,k2,k3,hQ,hkn,hql,hqb⟩
 have h4:=Zgh (ch / 9) (n:=7) (by decide)
 refine ⟨_,rfl,_,_,rfl,rfl,⟨by decide,by decide⟩,_,_,rfl,rfl,(by show (0:Int) < 7; decide),_,rfl,by lia,by lia,Zay (lo:=0) (fun i σ H1=>∃ (v6 v7 v8:Option V) (zs:List V) (qs:List Srd.Qd),σ = [some (.ref a),some (.ref b),some (.int m),some (.ref pk),some (.ref pr),some (.int ch),v6,v7,v8,none] /\ Zh H H1 /\ H1 pk = some (.lst (ks.map V.int)) /\ H1 pr = some (.lst zs) /\ QL H1 zs qs /\ qs.length <= 120 + i /\ QB m qs)
  ⟨none,none,none,zs,qs,rfl,s0,k2,k3,hQ,by lia,hqb⟩ ?_ ?_⟩
 ·rintro i σ H1 hi ⟨v6,v7,v8,zs,qs,rfl,s1,k2,k3,hQ,hql,hqb⟩
  have hi4:i < 7:=by lia
  refine ⟨_,rfl,_,rfl,_,_,rfl,rfl,.inl ⟨by decide,by decide⟩,_,_,rfl,rfl,a,ns,2 * (0 + (i:Int)) + 3,rfl,s1.seq hS,h63,by lia,by lia,fun d d0 d1=>⟨_,_,rfl,rfl,⟨by decide,by decide⟩,?_⟩⟩
  refine ⟨_,rfl,a,ns,0,rfl,s1.seq hS,h63,by decide,by decide,fun se e0 e1=>⟨_,rfl,_,_,rfl,rfl,⟨by decide,by decide⟩,_,_,rfl,rfl,(by show (0:Int) < 4; decide),_,_,rfl,fun t ht h8=>?_⟩⟩
  refine ⟨_,rfl,.inl ⟨rfl,_,SqL.of k3⟩,_,rfl,_,rfl,_,_,rfl,rfl,hm0,_,rfl,_,rfl,_,_,rfl,rfl,⟨by decide,by decide⟩,_,rfl,_,_,rfl,rfl,hm0,_,rfl,_,_,rfl,rfl,⟨by decide,by decide⟩,_,rfl,_,_,rfl,rfl,hm0,by show (4:Nat) <= sizeLine; decide,fun p hp=>?_⟩
  have t5:Zh H1 (upd H1 p (tq (d / 7 % m,t,d / 7 / 256 % m,d / 7 / 16384 % m))):=Zh.new hp
  have e5:(upd H1 p (tq (d / 7 % m,t,d / 7 / 256 % m,d / 7 / 16384 % m))) p = some (tq (d / 7 % m,t,d / 7 / 256 % m,d / 7 / 16384 % m)):=Zb
  have hzl:=hQ.length
  refine ⟨pr,_,_,rfl,rfl,t5 _ _ k3,Zi (by lia),?_⟩
  refine ⟨_,_,_,_,qs ++ [(d / 7 % m,t,d / 7 / 256 % m,d / 7 / 16384 % m)],rfl,(s1.trans t5).upd_new hpr,?_,Zb,?_,?_,?_⟩
  ·rw [Zk npr2]
   exact t5 _ _ k2
  ·exact (QL.snoc e5 (hQ.keep fun b xs e=>t5 _ _ e)).keep (Zat (t5 _ _ k3))
  ·rw [List.length_append,List.length_singleton]
   lia
  ·intro x hx
   rcases List.mem_append.mp hx with hx | hx
   ·exact hqb x hx
   ·rw [List.mem_singleton.mp hx]
    exact ⟨Zgh _ m1,Zgh _ m1,Zgh _ m1⟩
 rintro σ H1 ⟨v6,v7,v8,zs,qs,rfl,s1,k2,k3,hQ,hql,hqb⟩
 have hql':qs.length <= 130:=by lia
 have h3:=Zgh (ch / 63) (n:=4) (by decide)
 obtain ⟨kf,kt,rfl⟩:∃ x t,ks = x :: t:=by
  cases ks with
  | nil=>exact absurd rfl hkn
  | cons x t=>exact ⟨x,t,rfl⟩
 refine ⟨_,rfl,_,_,rfl,rfl,⟨by decide,by decide⟩,_,_,rfl,rfl,(by show (0:Int) < 4; decide),_,rfl,by lia,by lia,fun ph hph=>?_⟩
 refine ZaS (lo:=0) (p:=ph) (fun i ys σ H2=>∃ (v0:Option V) (hs:List Int),σ = [v0,some (.int m),some (.ref pk)] /\ Zh H1 H2 /\ H2 ph = some (.lst ys) /\ ys = hs.map V.int /\ hs.length = i /\ IB m hs)
  ⟨none,[],rfl,Zh.new hph,Zb,rfl,rfl,fun _ h=>(nomatch h)⟩ ?_ ?_ ?_
 ·rintro i ys σ H2 _ ⟨v0,hs,_,_,h,_⟩
  exact h
 ·rintro i ys σ H2 hi ⟨v0,hs,rfl,sm,hp,rfl,hl,hh⟩
  have hi4:i < 4:=by lia
  refine ⟨_,rfl,pk,_,0,_,rfl,rfl,SqL.of (sm _ _ k2),ZV (j:=0) rfl,_,rfl,_,rfl,_,_,rfl,rfl,.inl ⟨by lia,by lia⟩,_,_,rfl,rfl,_,rfl,_,_,rfl,rfl,hm0,hp,?_,CW.next hi ⟨_,hs ++ [(kf + (0 + (i:Int)) * (0 + (i:Int))) % m],rfl,sm.upd_new hph,Zb,?_,?_,hh.snoc (Zgh _ m1)⟩⟩
  ·rw [List.length_map]
   exact Zi (by lia)
  ·rw [List.map_append]
   rfl
  ·rw [List.length_append,hl]
   rfl
 rintro ys σ H2 ⟨v0,hs,rfl,sm,hp,rfl,hl,hh⟩
 have hhl:hs.length <= 4:=by lia
 refine ⟨_,rfl,_,rfl,.inr ⟨ph,hs,rfl,SqL.of hp,by lia,fun r1 x1 hr1 hri1 hme1=>⟨r1,_,rfl,.inl ⟨SqL.of Zb,fun u1 hu1=>?_⟩⟩⟩⟩
 have s4:Zh H2 (upd (upd H2 r1 (.lst (x1.map V.int))) u1 (.tup (x1.map V.int))):=(Zh.new hr1).trans (Zh.new hu1)
 have e4:(upd (upd H2 r1 (.lst (x1.map V.int))) u1 (.tup (x1.map V.int))) u1 = some (.tup (x1.map V.int)):=Zb
 generalize upd (upd H2 r1 (.lst (x1.map V.int))) u1 (.tup (x1.map V.int)) = H4 at s4 e4 ⊢
 have s14:=sm.trans s4
 refine ⟨_,rfl,_,rfl,a,ns,m,rfl,(s1.trans s14).seq hS,h63,m1,fun pt ts H4' t4 hpt et hrt htn htl htb=>⟨pt,_,rfl,.inl ⟨SqL.of et,fun u2 hu2=>?_⟩⟩⟩
 have s5:Zh H4 (upd H4' u2 (.tup (ts.map V.int))):=t4.trans (Zh.new hu2)
 have e5:(upd H4' u2 (.tup (ts.map V.int))) u2 = some (.tup (ts.map V.int)):=Zb
 generalize upd H4' u2 (.tup (ts.map V.int)) = H5 at s5 e5 ⊢
 have s15:=s14.trans s5
 have hzl:=hQ.length
 refine ⟨_,rfl,.inl ⟨pr,zs,qs,rfl,SqL.of (s15 _ _ k3),by lia,hQ.keep fun b xs e=>s15 _ _ e,fun r3 z3 x3 hr3 hri3 hme3 hQ3=>⟨r3,_,rfl,.inl ⟨SqL.of Zb,fun u3 hu3=>?_⟩⟩⟩⟩
 have s6:Zh H5 (upd (upd H5 r3 (.lst z3)) u3 (.tup z3)):=(Zh.new hr3).trans (Zh.new hu3)
 have e6:(upd (upd H5 r3 (.lst z3)) u3 (.tup z3)) u3 = some (.tup z3):=Zb
 generalize upd (upd H5 r3 (.lst z3)) u3 (.tup z3) = H6 at s6 e6 ⊢
 refine ⟨by show (4:Nat) <= sizeLine; decide,fun r hr=>?_⟩
 have s7:Zh H6 (upd H6 r (.tup [.int m,.ref u1,.ref u2,.ref u3])):=Zh.new hr
 refine q r ⟨m,x1,ts,x3⟩ _ (((s1.trans s15).trans s6).trans s7) ⟨u1,u2,u3,z3,Zb,s7 _ _ (s6 _ _ (s5 _ _ e4)),s7 _ _ (s6 _ _ e5),s7 _ _ e6,hQ3.keep fun b xs e=>s7 _ _ (s6 _ _ e)⟩
  ⟨by show 0 <= m; lia,m64,hri1,hrt,hri3,fun x hx=>hh x ((hme1 x).mp hx),htb,fun x hx=>hqb x ((hme3 x).mp hx),?_,htl,?_⟩
 ·exact Nat.le_trans (Za6 (Zbm hri1) fun x hx=>(hme1 x).mp hx) hhl
 ·exact Nat.le_trans (Za6 (ZcU hri3) fun x hx=>(hme3 x).mp hx) hql'
def Zck (f:FQ) (w:Str) (lc lb:List Int) (qs:List Srd.Qd):List Int:=(qs.filter fun q=>decide (V.str q.2.1 = V.str w) && (decide (q.2.2.1 ∈ lc) && decide (q.2.2.2 ∈ lb))).map (·.1)
theorem Zgr {f:FQ} {w:Str} {lc lb:List Int} {c b:Gr Str} (hc:∀ x,x ∈ lc ↔ ofK f c x) (hb:∀ x,x ∈ lb ↔ ofK f b x) (x:Int):x ∈ Zck f w lc lb f.qs ↔ ofK f (.cons w c b) x:=by
 unfold Zck
 rw [List.mem_map]
 show _ ↔ ∃ p r,(x,w,p,r) ∈ f.qs /\ ofK f c p /\ ofK f b r
 constructor
 ·rintro ⟨⟨q,t,p,r⟩,hm,rfl⟩
  obtain ⟨h1,h2⟩:=List.mem_filter.mp hm
  rw [Bool.and_eq_true,Bool.and_eq_true,decide_eq_true_eq,decide_eq_true_eq,decide_eq_true_eq] at h2
  obtain ⟨e,hp,hr⟩:=h2
  have e':t = w:=by injection e
  subst e'
  exact ⟨p,r,h1,(hc p).mp hp,(hb r).mp hr⟩
 ·rintro ⟨p,r,hm,hp,hr⟩
  refine ⟨(x,w,p,r),List.mem_filter.mpr ⟨hm,?_⟩,rfl⟩
  rw [Bool.and_eq_true,Bool.and_eq_true,decide_eq_true_eq,decide_eq_true_eq,decide_eq_true_eq]
  exact ⟨rfl,(hc p).mpr hp,(hb r).mpr hr⟩
set_option maxHeartbeats 2000000 in
theorem ZfJ (B:∀ x ∈ ZcY,mg x = none) (F:Fun K "_law_rests" "_law_rests" Za0 f fd):FnOk P w K mg base CX0 1 f fd ["_law_one","_law_words_here"] (ZeH K):=by
 refine F.ok ZaG (fun vs H Q E h=>?_) (fun cdv A outer s H vs Q E hr h=>?_)
 ·obtain ⟨a,b,fm,ws,rfl,_⟩:=h
  rfl
 obtain ⟨a,b,fm,ws,rfl,⟨f1,f2,f3,zf,a1,a2,a3,a4,a5⟩,hri,htl,hql,hB,hcan,hwl,q⟩:=h
 have hu:=Zb7 hr
 have hfl:=a5.length
 refine ⟨_,(Zd (Zn (i:=2) ZaG.nd rfl (Or.inr rfl) (ZbJ (Za (ZD Zbc rfl (B "list" (by decide)) ZeI (Za (Zr Zx (pv 0) Ze (fun _ _=>rfl)) Zc)) Zc)))
  (Zd (Zn (i:=3) ZaG.nd rfl (Or.inl rfl) (ZbJ Zc))
  (Zd (ZaD PassesOwn.never rfl (ZiQ rfl (B "reversed" (by decide)) (Za (pv 1) Zc)) (Zj (i:=4) ZaG.nd rfl (Or.inr rfl))
   (Zf (ZaK (Zv ZbW (pv 4) ZbR (ZX _))
     (Zd (Zar (Zba PySem.F.plainAttrs_list PySem.F.slot_list_append PySem.F.type_list_append ZP (pv 3) (Za (Zr ZW (pv 2) (Zkk ZiU Ze) (fun _ _=>rfl)) Zc)))
      (Zf (Zar (Zba PySem.F.plainAttrs_list PySem.F.slot_list_append PySem.F.type_list_append ZP (pv 2) (Za (ZD Zbc rfl (B "list" (by decide)) ZeI (Za (Zr Zx (pv 0) Ze (fun _ _=>rfl)) Zc)) Zc)))))
     (Zd (Zn (i:=5) ZaG.nd rfl (Or.inr rfl) (ZhJ PySem.F.plainAttrs_list PySem.F.slot_list_pop PySem.F.type_list_pop Zhi (pv 3)))
      (Zd (Z8 (cl:=_) (n0:=6) ZaG.nd rfl (Or.inl rfl) ["_law_rule"] [("_law_found",2),("_law_word",4),("_law_behind",5)] (ZaO (Zr Zx (pv 0) Ze (fun _ _=>rfl))) (fun _ _ _ _=>(Zj (i:=0) (show List.Nodup (["_law_rule","_law_found","_law_word","_law_behind"]:List Str) by decide) rfl (Or.inl rfl))) (fun _ _ _ _=>(PW.pt (ZaZ (Zv ZbW (Zr (Zbb (K:=K) rfl) (pv 0) Ze (fun _ _=>rfl)) (pv 2) (ZX _)) (ZaZ (Zv (Zaw (K:=K) rfl) (Zr (Zbb (K:=K) rfl) (pv 0) Ze (fun _ _=>rfl)) (Zr (Zcq (K:=K) rfl) (pv 1) (Zkk ZiU Ze) (fun _ _=>rfl)) (by with_unfolding_all rfl)) (Za9 (Zv (Zaw (K:=K) rfl) (Zr (Zbb (K:=K) rfl) (pv 0) Ze (fun _ _=>rfl)) (pv 3) (by with_unfolding_all rfl))))))) (fun _ _ _ _=>(Zr (Zbb (K:=K) rfl) (pv 0) Ze (fun _ _=>rfl))) rfl rfl (by decide) rfl (by decide) (ZaM (by (repeat' first | exact List.forall_mem_nil _ | refine List.forall_mem_cons.mpr ⟨?_,?_⟩) <;> rfl)) (Zaq (by (repeat' first | exact List.forall_mem_nil _ | refine List.forall_mem_cons.mpr ⟨?_,?_⟩) <;> first | (intro h; exact ⟨_,rfl⟩) | (intro h; exact absurd h (by decide)))) (fun _=>by (repeat' first | exact List.forall_mem_nil _ | refine List.forall_mem_cons.mpr ⟨?_,?_⟩) <;> exact ⟨rfl,rfl,Or.inl rfl⟩) (fun _=>rfl) rfl)
      (Zf (Zar (Zba PySem.F.plainAttrs_list PySem.F.slot_list_append PySem.F.type_list_append ZP (pv 2) (Za (Zab rfl hu rfl (B "sorted" (by decide)) rfl (B "set" (by decide)) (Za (pv 6) Zc)) Zc)))))))))
  (Zf (ZQ (ZbF (cl:=[]) ["_law_some"] [] (ZiQ rfl (B "reversed" (by decide)) (Za (pv 2) Zc)) (fun _ _ _ _=>(Zj (i:=0) nd1 rfl (Or.inl rfl))) (fun _ _ _ _=>(pv 0)) rfl rfl (by decide) rfl (by decide) (fun _ _ h=>nomatch h) (ZbS (by decide)) (fun _ _ h=>nomatch h) (fun _=>rfl))))))),?_⟩
 refine ⟨_,rfl,a,_,2,_,rfl,rfl,SqT.of a1,rfl,f2,_,rfl,.inr (SqT.of a3),fun l0 hl0=>⟨(by show (1:Nat) <= sizeLine; decide),fun pf hpf=>?_⟩⟩
 obtain ⟨nf0,hpf0⟩:=Zdo hpf
 refine ⟨by decide,fun pp hpp=>?_⟩
 obtain ⟨npf,hpp1⟩:=Zdo hpp
 obtain ⟨np0,hpp0⟩:=Zdo hpp1
 have s0:Zh H (upd (upd (upd H l0 (.lst (fm.ts.map V.int))) pf (.lst [.ref l0])) pp (.lst [])):=((Zh.new hl0).upd_new hpf0).upd_new hpp0
 have keepO:∀ {H1 H2:Hp} {o1 o2:HO},Zh H1 H2 -> ∀ b o,b ∉ [pf,pp] -> H1 b = some o -> (upd (upd H2 pf o1) pp o2) b = some o:=by
  intro H1 H2 o1 o2 sm b o hb h
  simp only [List.mem_cons,List.not_mem_nil,or_false,not_or] at hb
  rw [Zk hb.2,Zk hb.1]
  exact sm _ _ h
 have keepF:∀ {H1 H2:Hp} {o1:HO},Zh H1 H2 -> ∀ b o,b ∉ [pf,pp] -> H1 b = some o -> (upd H2 pf o1) b = some o:=by
  intro H1 H2 o1 sm b o hb h
  simp only [List.mem_cons,List.not_mem_nil,or_false,not_or] at hb
  rw [Zk hb.1]
  exact sm _ _ h
 have keepP:∀ {H1 H2:Hp} {o1:HO},Zh H1 H2 -> ∀ b o,b ∉ [pf,pp] -> H1 b = some o -> (upd H2 pp o1) b = some o:=by
  intro H1 H2 o1 sm b o hb h
  simp only [List.mem_cons,List.not_mem_nil,or_false,not_or] at hb
  rw [Zk hb.2]
  exact sm _ _ h
 refine ⟨_,rfl,b,_,rfl,s0.seq hB,Zi8 (K:=K) (a:=b) (xs:=ws.map V.str) (fun i σ H1=>∃ (v4 v5 v6:Option V) (zs ys:List V),σ = [some (.ref a),some (.ref b),some (.ref pf),some (.ref pp),v4,v5,v6] /\ Zh H H1 /\ H1 pf = some (.lst zs) /\ H1 pp = some (.lst ys) /\ RL [pf,pp] H1 fm zs (Zcz ws i) /\ RL [pf,pp] H1 fm ys (bk (ws.drop (ws.length - i))).2.reverse)
  ⟨none,none,none,[.ref l0],[],rfl,s0,?_,Zb,?_,?_⟩ ?_ ?_ ?_⟩
 ·rw [Zk npf.symm]
  exact Zb
 ·rw [ZfL]
  refine .cons ⟨l0,fm.ts,rfl,?_,?_,htl,hri,fun x=>Iff.rfl⟩ .nil
  ·simp only [List.mem_cons,List.not_mem_nil,or_false,not_or]
   exact ⟨nf0.symm,np0.symm⟩
  ·rw [Zk np0.symm,Zk nf0.symm]
   exact Zb
 ·rw [Nat.sub_zero,List.drop_length]
  exact .nil
 ·rintro i σ H1 _ ⟨_,_,_,_,_,_,s1,_⟩
  exact s1.seq hB
 ·rintro i y σ H1 hi hy ⟨v4,v5,v6,zs,ys,rfl,s1,k1,k2,hZ,hY⟩
  rw [List.length_map] at hi
  rw [List.length_map,List.getElem?_map,List.getElem?_eq_getElem (by lia)] at hy
  injection hy with hy
  subst hy
  have hzl:=hZ.length
  rw [ZdT] at hzl
  obtain ⟨pc,lc,hc1,hc2,hc3,hc4,hc5,hc6⟩:=hZ.get i _ (Zf4 ws i)
  have hat:atI zs (-1) = some (.ref pc):=by
   have e:zs = zs.dropLast ++ [.ref pc]:=by
    have hne:zs ≠ []:=fun z=>by rw [z] at hzl; cases hzl
    have e1:=List.dropLast_concat_getLast hne
    rw [List.getElem?_eq_getElem (by lia)] at hc1
    injection hc1 with hc1
    rw [List.getLast_eq_getElem] at e1
    have e2:zs[zs.length - 1]'(by lia) = .ref pc:=by
     rw [<- hc1]
     congr 1
     lia
    rw [e2] at e1
    exact e1.symm
   rw [e]
   exact Zia _ _
  refine ⟨_,rfl,rfl,_,rfl,ZbE (fun c=>?_) (fun c=>?_)⟩
  ·have ew:ws[ws.length - 1 - i]'(by lia) = SL:=by
    have:=of_decide_eq_true c
    injection this
   have hb:=Zfy hi ew
   refine ⟨_,rfl,.inl ⟨rfl,_,SqL.of k2⟩,_,rfl,1,rfl,pf,_,-1,.ref pc,rfl,rfl,SqL.of k1,hat,pp,_,_,rfl,rfl,k2,Zi (by rw [hY.length,List.length_reverse]; have:=ZeT (ws.drop (ws.length - i)); rw [List.length_drop] at this; lia),?_⟩
   have s2:Zh H (upd H1 pp (.lst (ys ++ [.ref pc]))):=s1.upd_new hpp0
   have k12:(upd H1 pp (.lst (ys ++ [.ref pc]))) pf = some (.lst zs):=by rw [Zk npf.symm]; exact k1
   refine ⟨_,rfl,.inl ⟨rfl,_,SqL.of k12⟩,_,rfl,a,_,2,_,rfl,rfl,SqT.of (s2 _ _ a1),rfl,f2,_,rfl,.inr (SqT.of (s2 _ _ a3)),fun l1 hl1=>?_⟩
   have t3:Zh (upd H1 pp (.lst (ys ++ [.ref pc]))) (upd (upd H1 pp (.lst (ys ++ [.ref pc]))) l1 (.lst (fm.ts.map V.int))):=Zh.new hl1
   have e3:(upd (upd H1 pp (.lst (ys ++ [.ref pc]))) l1 (.lst (fm.ts.map V.int))) l1 = some (.lst (fm.ts.map V.int)):=Zb
   have d3:(upd (upd H1 pp (.lst (ys ++ [.ref pc]))) l1 (.lst (fm.ts.map V.int))) pp = some (.lst (ys ++ [.ref pc])):=t3 _ _ Zb
   have n1f:l1 ≠ pf:=fun z=>by rw [z,k12] at hl1; cases hl1
   have n1p:l1 ≠ pp:=fun z=>by rw [z,Zb] at hl1; cases hl1
   have kk:∀ b o,b ∉ [pf,pp] -> H1 b = some o -> (upd (upd H1 pp (.lst (ys ++ [.ref pc]))) l1 (.lst (fm.ts.map V.int))) b = some o:=fun b o hb h=>t3 _ _ (keepP (fun _ _ h=>h) b o hb h)
   generalize upd (upd H1 pp (.lst (ys ++ [.ref pc]))) l1 (.lst (fm.ts.map V.int)) = H3 at t3 e3 d3 kk
   refine ⟨pf,_,_,rfl,rfl,t3 _ _ k12,Zi (by lia),?_⟩
   have kk2:∀ b o,b ∉ [pf,pp] -> H1 b = some o -> (upd H3 pf (.lst (zs ++ [.ref l1]))) b = some o:=fun b o hb h=>keepF (fun _ _ h=>h) b o hb (kk b o hb h)
   refine ⟨_,_,_,zs ++ [.ref l1],ys ++ [.ref pc],rfl,(s2.trans t3).upd_new hpf0,Zb,?_,?_,?_⟩
   ·rw [Zk npf]
    exact d3
   ·rw [Zdf,hb]
    refine RL.one ?_ ?_ htl hri (fun x=>Iff.rfl) (hZ.keep kk2)
    ·simp only [List.mem_cons,List.not_mem_nil,or_false,not_or]
     exact ⟨n1f,n1p⟩
    ·rw [Zk n1f]
     exact e3
   ·rw [hb,List.reverse_cons]
    exact RL.one hc2 (kk2 _ _ hc2 hc3) hc4 hc5 hc6 (hY.keep kk2)
  ·have ew:ws[ws.length - 1 - i]'(by lia) ≠ SL:=fun e=>c (decide_eq_true (congrArg V.str e))
   obtain ⟨g0,pl,e1,e2⟩:=Zfv hcan hi ew
   rw [e1,List.reverse_cons] at hY
   have hyl:=hY.length
   rw [List.length_append,List.length_reverse,List.length_singleton] at hyl
   obtain ⟨pb,lb,hb1,hb2,hb3,hb4,hb5,hb6⟩:=hY.get pl.length g0 (by rw [List.getElem?_append_right (by rw [List.length_reverse]; exact Nat.le_refl _),List.length_reverse,Nat.sub_self]; rfl)
   refine ⟨_,rfl,.inl ⟨rfl,_,SqL.of k2⟩,pp,_,_,rfl,rfl,k2,(show ys[ys.length - 1]? = some (.ref pb) by rw [hyl]; exact hb1),?_⟩
   have s2:Zh H (upd H1 pp (.lst ys.dropLast)):=s1.upd_new hpp0
   have k12:(upd H1 pp (.lst ys.dropLast)) pf = some (.lst zs):=by rw [Zk npf.symm]; exact k1
   have d2:(upd H1 pp (.lst ys.dropLast)) pp = some (.lst ys.dropLast):=Zb
   have kk:∀ b o,b ∉ [pf,pp] -> H1 b = some o -> (upd H1 pp (.lst ys.dropLast)) b = some o:=fun b o hb h=>keepP (fun _ _ h=>h) b o hb h
   generalize upd H1 pp (.lst ys.dropLast) = H2 at s2 k12 d2 kk
   generalize ws[ws.length - 1 - i]'(by lia) = wd at e2
   refine ⟨_,rfl,a,_,3,_,rfl,rfl,SqT.of (s2 _ _ a1),rfl,f3,rfl,⟨zf,SqT.of (s2 _ _ a4)⟩,fun ps hps=>Zap (K:=K) (a:=f3) (p:=ps) (xs:=zf) (fun j us σ H3=>∃ v0:Option V,σ = [v0,some (.ref pf),some (.str wd),some (.ref pb)] /\ Zh H2 H3 /\ H3 ps = some (.lst us) /\ us = (Zck fm wd lc lb (fm.qs.take j)).map V.int)
    ⟨none,rfl,Zh.new hps,Zb,rfl⟩ ?_ ?_ ?_⟩
   ·rintro j us σ H3 _ ⟨v0,_,sm,h,_⟩
    exact ⟨SqT.of (sm _ _ (s2 _ _ a4)),h⟩
   ·rintro j us x σ H3 hj hx ⟨v0,rfl,sm,h,rfl⟩
    obtain ⟨p,q1,e3,rfl,e4⟩:=a5.get j x hx
    have e4':=SqT.of (K:=K) (sm _ _ (s2 _ _ e4))
    have hstep:∀ bb,bb = (decide (V.str q1.2.1 = V.str wd) && (decide (q1.2.2.1 ∈ lc) && decide (q1.2.2.2 ∈ lb))) -> Zck fm wd lc lb (fm.qs.take (j + 1)) = Zck fm wd lc lb (fm.qs.take j) ++ (if bb = true then [q1.1] else []):=by
     rintro bb rfl
     unfold Zck
     rw [ZJ e3,List.filter_append,List.map_append]
     congr 1
     split
     ·rename_i hh
      rw [List.filter_cons,if_pos hh]
      rfl
     ·rename_i hh
      rw [List.filter_cons,if_neg hh]
      rfl
    have hsl:(Zck fm wd lc lb (fm.qs.take j)).length <= 900:=by
     unfold Zck
     rw [List.length_map]
     refine Nat.le_trans (List.length_filter_le ..) ?_
     rw [List.length_take]
     lia
    have fin:∀ bb,bb = (decide (V.str q1.2.1 = V.str wd) && (decide (q1.2.2.1 ∈ lc) && decide (q1.2.2.2 ∈ lb))) -> bb = false -> ∃ m',m' < zf.length - j /\ CW zf.length (fun j us σ H3=>∃ v0:Option V,σ = [v0,some (.ref pf),some (.str wd),some (.ref pb)] /\ Zh H2 H3 /\ H3 ps = some (.lst us) /\ us = (Zck fm wd lc lb (fm.qs.take j)).map V.int) (j + 1) m' ((Zck fm wd lc lb (fm.qs.take j)).map V.int) [some (.ref p),some (.ref pf),some (.str wd),some (.ref pb)] H3:=by
     intro bb hbb hf
     refine CW.next hj ⟨_,rfl,sm,h,?_⟩
     rw [hstep bb hbb,hf,if_neg (by decide),List.append_nil]
    refine ⟨_,rfl,p,_,1,_,rfl,rfl,e4',rfl,_,rfl,rfl,_,rfl,ZbE (fun c1=>?_) (fun c1=>Za3 ?_)⟩
    ·refine ⟨_,rfl,p,_,2,_,rfl,rfl,e4',rfl,_,rfl,1,rfl,pf,_,-1,_,rfl,rfl,SqL.of (sm _ _ k12),hat,pc,_,rfl,.inl (SqL.of (sm _ _ (kk _ _ hc2 hc3))),rfl,ZaC _,?_⟩
     rw [if_neg (by decide),ZaN]
     refine ⟨_,rfl,ZbE (fun c2=>?_) (fun c2=>Za3 ?_)⟩
     ·refine ⟨_,rfl,p,_,3,_,rfl,rfl,e4',rfl,_,rfl,pb,_,rfl,.inl (SqL.of (sm _ _ (kk _ _ hb2 hb3))),rfl,ZaC _,?_⟩
      rw [if_neg (by decide),ZaN]
      refine ⟨_,rfl,ZbE (fun c3=>?_) (fun c3=>?_)⟩
      ·refine ⟨_,rfl,p,_,0,_,rfl,rfl,e4',rfl,h,Zi (by rw [List.length_map]; lia),CW.next hj ⟨_,rfl,sm.upd_new hps,Zb,?_⟩⟩
       rw [hstep true (by rw [c1,c2,c3]; rfl),if_pos rfl,List.map_append]
       rfl
      ·exact fin _ rfl (by rw [Bool.not_eq_true] at c3; rw [c1,c2,c3]; rfl)
     ·exact fin _ rfl (by rw [Bool.not_eq_true] at c2; rw [c1,c2]; rfl)
    ·exact fin _ rfl (by rw [Bool.not_eq_true] at c1; rw [c1]; rfl)
   ·rintro us σ H3 ⟨v0,rfl,sm,h,rfl⟩
    rw [hfl,List.take_length] at h
    have hsl:(Zck fm wd lc lb fm.qs).length <= 900:=by
     unfold Zck
     rw [List.length_map]
     exact Nat.le_trans (List.length_filter_le ..) hql
    have hmem:=Zgr (f:=fm) (w:=wd) hc6 hb6
    refine ⟨_,rfl,.inl ⟨rfl,_,SqL.of (sm _ _ k12)⟩,_,rfl,.inr ⟨ps,_,rfl,SqL.of h,hsl,fun r1 m1 hr1 hri1 hme1=>?_⟩⟩
    have t4:Zh H3 (upd H3 r1 (.lst (m1.map V.int))):=Zh.new hr1
    have e4:(upd H3 r1 (.lst (m1.map V.int))) r1 = some (.lst (m1.map V.int)):=Zb
    have n1f:r1 ≠ pf:=fun z=>by rw [z,sm _ _ k12] at hr1; cases hr1
    have n1p:r1 ≠ pp:=fun z=>by rw [z,sm _ _ d2] at hr1; cases hr1
    generalize upd H3 r1 (.lst (m1.map V.int)) = H4 at t4 e4
    have t24:=sm.trans t4
    refine ⟨pf,_,_,rfl,rfl,t24 _ _ k12,Zi (by lia),?_⟩
    have kk2:∀ b o,b ∉ [pf,pp] -> H1 b = some o -> (upd H4 pf (.lst (zs ++ [.ref r1]))) b = some o:=fun b o hb h=>keepF (fun _ _ h=>h) b o hb (t24 _ _ (kk b o hb h))
    refine ⟨_,_,_,zs ++ [.ref r1],ys.dropLast,rfl,(s2.trans t24).upd_new hpf0,Zb,?_,?_,?_⟩
    ·rw [Zk npf]
     exact t24 _ _ d2
    ·rw [Zdf,e2]
     refine RL.one ?_ ?_ (Nat.le_trans (Za6 (Zbm hri1) fun x hx=>(hme1 x).mp hx) hsl) hri1 (fun x=>(hme1 x).trans (hmem x)) (hZ.keep kk2)
     ·simp only [List.mem_cons,List.not_mem_nil,or_false,not_or]
      exact ⟨n1f,n1p⟩
     ·rw [Zk n1f]
      exact e4
    ·rw [e2]
     exact (RL.init hY).keep kk2
 ·rintro σ H1 ⟨v4,v5,v6,zs,ys,rfl,s1,k1,k2,hZ,hY⟩
  rw [List.length_map] at hZ
  refine ⟨_,rfl,pf,zs,rfl,SqL.of k1,fun pn hpn=>Zii (K:=K) (a:=pf) (p:=pn) (xs:=zs) (fun j us σ H2=>∃ v0:Option V,σ = [v0] /\ Zh H1 H2 /\ H2 pn = some (.lst us) /\ us = zs.reverse.take j)
   ⟨none,rfl,Zh.new hpn,Zb,rfl⟩ ?_ ?_ ?_⟩
  ·rintro j us σ H2 _ ⟨v0,_,sm,h,_⟩
   exact ⟨SqL.of (sm _ _ k1),h⟩
  ·rintro j us x σ H2 hj hx ⟨v0,rfl,sm,h,rfl⟩
   refine ⟨_,rfl,h,Zi ?_,CW.next hj ⟨_,rfl,sm.upd_new hpn,Zb,?_⟩⟩
   ·rw [List.length_take,List.length_reverse,hZ.length,ZdT]
    lia
   ·rw [ZJ (show zs.reverse[j]? = some x by rw [List.getElem?_reverse hj]; exact hx)]
  ·rintro us σ H2 ⟨v0,rfl,sm,h,rfl⟩
   rw [List.take_of_length_le (by rw [List.length_reverse]; exact Nat.le_refl _)] at h
   refine q pn _ H2 (s1.trans sm) (s1.free hpn) h ?_
   rw [<- Zhw]
   exact ((RL.rev hZ).less (ex':=[]) fun b hb=>nomatch hb).keep fun b o _ h=>sm _ _ h
def ZgV (K:PySem.W.Frag):Sp:=fun vs H Q _=>∃ (a:Addr) (ws:List Str) (n:Nat),vs = [.ref a,.int (n:Int)] /\ SqL K H a (ws.map V.str) /\ Can SL 0 ws /\ ws.length <= 300 /\ n <= ws.length /\ ∀ (r:Addr) (H':Hp),Zh H H' -> H r = none -> H' r = some (.lst ((words SL (bk (ws.drop n)).1).map V.str)) -> Q (.ref r) H'
set_option maxHeartbeats 1000000 in
theorem Zgt (B:∀ x ∈ ZcY,mg x = none) (F:Fun K "_law_rest" "_law_rest" Zbn f fd):FnOk P w K mg base CX0 1 f fd ["_law_words_here","_law_at"] (ZgV K):=by
 refine F.ok Zbk (fun vs H Q E h=>?_) (fun cdv A outer s H vs Q E hr h=>?_)
 ·obtain ⟨a,ws,n,rfl,_⟩:=h
  rfl
 obtain ⟨a,ws,n,rfl,hS,hcan,hwl,hn,q⟩:=h
 obtain ⟨k,hk⟩:=Zcr hcan n
 obtain ⟨u1,u2,u3⟩:=ZcA hk
 have hcl:=u2
 have hW:∀ j,j <= (words SL (bk (ws.drop n)).1).length -> (ws.drop n).take j = (words SL (bk (ws.drop n)).1).take j:=fun j hj=>by
  refine (congrArg (fun l:List Str=>l.take j) u1).trans ?_
  show (words SL (bk (ws.drop n)).1 ++ unb (bk (ws.drop n)).2).take j = _
  rw [List.take_append_of_le_length hj]
 have hlen:(words SL (bk (ws.drop n)).1).length <= ws.length - n:=by
  have:=congrArg List.length u1
  rw [List.length_append,List.length_drop] at this
  lia
 have hend:ws.length = n + (words SL (bk (ws.drop n)).1).length \/ ws[n + (words SL (bk (ws.drop n)).1).length]? = some SL:=by
  cases hp:(bk (ws.drop n)).2 with
  | nil =>
   rw [hp,show unb [] = [] from rfl,List.append_nil] at u1
   have:=congrArg List.length u1
   rw [List.length_drop] at this
   exact .inl (by lia)
  | cons g gs =>
   right
   rw [hp] at u1
   rw [<- List.getElem?_drop]
   have h2:=congrArg (fun l:List Str=>l[(words SL (bk (ws.drop n)).1).length]?) u1
   refine h2.trans ?_
   show (words SL (bk (ws.drop n)).1 ++ unb (g :: gs))[(words SL (bk (ws.drop n)).1).length]? = some SL
   rw [List.getElem?_append_right (Nat.le_refl _),Nat.sub_self]
   rfl
 have hat:∀ j,j < (words SL (bk (ws.drop n)).1).length -> ws[n + j]? = (words SL (bk (ws.drop n)).1)[j]? := fun j hj=>by
  rw [<- List.getElem?_drop]
  have h2:=congrArg (fun l:List Str=>l[j]?) u1
  refine h2.trans ?_
  show (words SL (bk (ws.drop n)).1 ++ unb (bk (ws.drop n)).2)[j]? = _
  rw [List.getElem?_append_left hj]
 generalize hw:words SL (bk (ws.drop n)).1 = us at *
 have hpos:∀ i,0 <= hgt SL (us.take i):=fun i=>by rw [<- hw]; exact ZdE hcl i
 have hz:hgt SL us = 0:=by rw [<- hw]; exact ZbM hcl
 refine ⟨_,(Zd (Zn (i:=2) Zbk.nd rfl (Or.inl rfl) Ze)
  (Zd (Zn (i:=3) Zbk.nd rfl (Or.inl rfl) (ZbJ Zc))
  (Zd (ZdI PassesOwn.never (PW.pt (ZaZ (Zv ZjI (pv 1) (Zt Zq rfl (B "len" (by decide)) PySem.boot_len (Za (pv 0) Zc)) (ZX _)) (Za9 (PW.pt (Zf9 (Zv Zix (Zr ZW (pv 0) (pv 1) (fun _ _=>rfl)) ZbR (ZX _)) (Zc3 (Zv ZfI (pv 2) Ze (ZX _))))))))
   (Zd (Zn (i:=2) Zbk.nd rfl (Or.inl rfl) (Zm Zek (Zm Zae (pv 2) Ze) (Zm Zbv Ze (ZD ZdS rfl (B "int" (by decide)) ZhK (Za (ZbI ZbW (Zr ZW (pv 0) (pv 1) (fun _ _=>rfl)) ZbR (ZX _)) Zc)))))
    (Zd (Zar (Zba PySem.F.plainAttrs_list PySem.F.slot_list_append PySem.F.type_list_append ZP (pv 3) (Za (Zr ZW (pv 0) (pv 1) (fun _ _=>rfl)) Zc)))
    (Zf (Zn (i:=1) Zbk.nd rfl (Or.inl rfl) (Zm Zae (pv 1) Ze))))))
  (Zf (ZQ (pv 3)))))),?_⟩
 refine ⟨by decide,fun p hp=>?_⟩
 have s0:Zh H (upd H p (.lst [])):=Zh.new hp
 let W:Nat -> St -> Hp -> Prop:=fun m σ H1=>∃ j:Nat,m = us.length - j /\ j <= us.length /\ σ = [some (.ref a),some (.int ((n:Int) + (j:Int))),some (.int (hgt SL (us.take j))),some (.ref p)] /\ Zh H H1 /\ H1 p = some (.lst ((us.take j).map V.str))
 refine ⟨W,⟨_,0,rfl,Nat.zero_le _,?_,s0,Zb⟩,?_⟩
 ·rw [show ((n:Int) + ((0:Nat):Int)) = (n:Int) by lia]
  rfl
 rintro m σ H1 ⟨j,rfl,hj,rfl,s1,e1⟩
 have hstep:∀ hj':j < us.length,hgt SL (us.take (j + 1)) = hgt SL (us.take j) + 1 - 2 * (if decide (V.str us[j] = V.str SL) = true then 1 else 0):=by
  intro hj'
  rw [List.take_succ_eq_append_getElem hj',Zbs]
  by_cases e:us[j] = SL
  ·rw [if_pos (decide_eq_true (congrArg V.str e))]
   simp only [hgt,if_pos e]
   lia
  ·rw [if_neg (fun h=>e (by have:=of_decide_eq_true h; injection this))]
   simp only [hgt,if_neg e]
   lia
 have ei:(n:Int) + (j:Int) = ((n + j:Nat):Int):=by lia
 refine ⟨_,rfl,_,rfl,a,_,rfl,.inl (s1.seq hS),_,_,rfl,rfl,_,rfl,?_⟩
 by_cases hjl:j < us.length
 ·have hx0:ws[n + j]? = some us[j]:=by rw [hat j hjl,List.getElem?_eq_getElem hjl]
  have hx:(ws.map V.str)[n + j]? = some (.str us[j]):=by rw [List.getElem?_map,hx0]; rfl
  have hlt:=(List.getElem?_eq_some_iff.mp hx0).1
  rw [decide_eq_true (show (n:Int) + (j:Int) < (((ws.map V.str).length:Nat):Int) by rw [List.length_map]; lia)]
  refine Zcj ⟨_,rfl,_,rfl,a,_,_,_,rfl,congrArg V.int ei,s1.seq hS,ZV hx,rfl,_,rfl,?_⟩
  have hpo:=hpos (j + 1)
  have hst:=hstep hjl
  have goOn:∀ N:St -> Hp -> Prop,(∀ σ' H',(∃ m',m' < us.length - j /\ W m' σ' H') -> N σ' H') -> ∀ H2,Zh H H2 -> H2 p = some (.lst ((us.take (j + 1)).map V.str)) -> N [some (.ref a),some (.int ((n:Int) + (j:Int) + 1)),some (.int (hgt SL (us.take j) + 1 - 2 * (if decide (V.str us[j] = V.str SL) = true then 1 else 0))),some (.ref p)] H2:=by
   intro N hN H2 s2 e2
   refine hN _ _ ⟨us.length - (j + 1),by lia,j + 1,rfl,by lia,?_,s2,e2⟩
   rw [hst,show ((n:Int) + ((j + 1:Nat):Int)) = (n:Int) + (j:Int) + 1 by lia]
  by_cases e:us[j] = SL
  ·rw [decide_eq_true (congrArg V.str e)] at hst ⊢
   rw [if_pos rfl] at hst
   refine Za3 ⟨_,rfl,_,_,rfl,rfl,_,rfl,?_⟩
   rw [decide_eq_true (show hgt SL (us.take j) > 0 by lia)]
   refine Zcj ⟨fun σ' H'=>∃ m',m' < us.length - j /\ W m' σ' H',fun _ _ h=>h,?_⟩
   refine ⟨_,rfl,_,_,rfl,rfl,_,rfl,_,rfl,a,_,_,_,rfl,congrArg V.int ei,s1.seq hS,ZV hx,rfl,_,rfl,_,_,rfl,rfl,.inl ⟨by decide,by decide⟩,_,_,rfl,rfl,?_⟩
   refine ⟨_,rfl,.inl ⟨rfl,_,SqL.of e1⟩,_,rfl,_,rfl,a,_,_,_,rfl,congrArg V.int ei,s1.seq hS,ZV hx,p,_,_,rfl,rfl,e1,Zi (by rw [List.length_map,List.length_take]; lia),?_⟩
   refine ⟨_,rfl,_,_,rfl,rfl,?_⟩
   exact goOn _ (fun _ _ h=>h) _ (s1.upd_new hp) (by rw [Zb,List.take_succ_eq_append_getElem hjl,List.map_append]; rfl)
  ·rw [decide_eq_false (fun h=>e (by injection h))]
   refine Zcj (Zcj ⟨fun σ' H'=>∃ m',m' < us.length - j /\ W m' σ' H',fun _ _ h=>h,?_⟩)
   refine ⟨_,rfl,_,_,rfl,rfl,_,rfl,_,rfl,a,_,_,_,rfl,congrArg V.int ei,s1.seq hS,ZV hx,rfl,_,rfl,_,_,rfl,rfl,.inl ⟨by decide,by decide⟩,_,_,rfl,rfl,?_⟩
   refine ⟨_,rfl,.inl ⟨rfl,_,SqL.of e1⟩,_,rfl,_,rfl,a,_,_,_,rfl,congrArg V.int ei,s1.seq hS,ZV hx,p,_,_,rfl,rfl,e1,Zi (by rw [List.length_map,List.length_take]; lia),?_⟩
   refine ⟨_,rfl,_,_,rfl,rfl,?_⟩
   exact goOn _ (fun _ _ h=>h) _ (s1.upd_new hp) (by rw [Zb,List.take_succ_eq_append_getElem hjl,List.map_append]; rfl)
 ·have ej:j = us.length:=by lia
  subst ej
  rw [List.take_length] at e1 ⊢
  rw [hz]
  by_cases c1:n + us.length < ws.length
  ·have hx0:ws[n + us.length]? = some SL:=hend.resolve_left (by lia)
   have hx:(ws.map V.str)[n + us.length]? = some (.str SL):=by rw [List.getElem?_map,hx0]; rfl
   rw [decide_eq_true (show (n:Int) + (us.length:Int) < (((ws.map V.str).length:Nat):Int) by rw [List.length_map]; lia)]
   refine Zcj ⟨_,rfl,_,rfl,a,_,_,_,rfl,congrArg V.int ei,s1.seq hS,ZV hx,rfl,_,rfl,?_⟩
   rw [decide_eq_true rfl]
   refine Za3 ⟨_,rfl,_,_,rfl,rfl,_,rfl,Za3 ?_⟩
   exact ⟨_,rfl,q p H1 s1 hp e1⟩
  ·rw [decide_eq_false (show ¬ (n:Int) + (us.length:Int) < (((ws.map V.str).length:Nat):Int) by rw [List.length_map]; lia)]
   refine Za3 (Za3 ?_)
   exact ⟨_,rfl,q p H1 s1 hp e1⟩
def both (hs l:List Int):List Int:=hs.filter fun x=>decide (x ∈ l)
theorem Ziu {f:FQ} {g:Gr Str} {l:List Int} (h:∀ x,x ∈ l ↔ ofK f g x):((!((both f.hs l).map V.int).isEmpty) = true) ↔ ZgG f g:=by
 unfold both ZgG
 constructor
 ·intro h1
  cases e:f.hs.filter (fun x=>decide (x ∈ l)) with
  | nil =>
   rw [e] at h1
   cases h1
  | cons x t =>
   have:x ∈ f.hs.filter (fun x=>decide (x ∈ l)):=by rw [e]; exact List.mem_cons_self ..
   obtain ⟨h2,h3⟩:=List.mem_filter.mp this
   exact ⟨x,h2,(h x).mp (of_decide_eq_true h3)⟩
 ·rintro ⟨s,hs,ho⟩
  have:s ∈ f.hs.filter (fun x=>decide (x ∈ l)):=List.mem_filter.mpr ⟨hs,decide_eq_true ((h s).mpr ho)⟩
  cases e:f.hs.filter (fun x=>decide (x ∈ l)) with
  | nil =>
   rw [e] at this
   cases this
  | cons x t=>rfl
theorem Zgo {hs l:List Int} {j:Nat} {y:Int} (h:hs[j]? = some y):both (hs.take (j + 1)) l = both (hs.take j) l ++ (if decide (y ∈ l) = true then [y] else []):=by
 unfold both
 rw [ZJ h,List.filter_append]
 congr 1
 split
 ·rename_i hh
  rw [List.filter_cons,if_pos hh]
  rfl
 ·rename_i hh
  rw [List.filter_cons,if_neg hh]
  rfl
theorem Zh6 (hs l:List Int) (j:Nat):(both (hs.take j) l).length <= hs.length:=by
 unfold both
 refine Nat.le_trans (List.length_filter_le ..) ?_
 rw [List.length_take]
 lia
set_option maxHeartbeats 1000000 in
theorem ZgE (B:∀ x ∈ ZcY,mg x = none) (g_l_rests:Has P w K mg base "_law_rests" ["_law_one","_law_words_here"] 1 (ZeH K)) (F:Fun K "_law_good" "_law_good" Zbo f fd):FnOk P w K mg base CX0 2 f fd ["_law_one","_law_words_here"] (ZgU K):=by
 refine F.ok Zeo (fun vs H Q E h=>?_) (fun cdv A outer s H vs Q E hr h=>?_)
 ·obtain ⟨a,b,fm,ws,rfl,_⟩:=h
  rfl
 obtain ⟨a,b,fm,ws,rfl,hF,hri,htl,hql,hhl,hB,hcan,hwl,q⟩:=h
 obtain ⟨f1,f2,f3,zf,a1,a2,a3,a4,a5⟩:=id hF
 have hu:=Zb7 hr
 refine ⟨_,(Zd (Zn (i:=2) Zeo.nd rfl (Or.inr rfl) (Zr ZW (Zw g_l_rests hr rfl (Za (pv 0) (Za (pv 1) Zc))) Ze (fun _ _=>rfl)))
  (Zf (ZQ (ZbI (Zhb hu) (ZaU (cl:=_) ["_law_kind"] [("_law_kinds_here",2)] (ZaO (Zr Zx (pv 0) Ze (fun _ _=>rfl))) (fun _ _ _ _=>(Zj (i:=0) (show List.Nodup (["_law_kind","_law_kinds_here"]:List Str) by decide) rfl (Or.inl rfl))) (fun _ _ _ _=>(Zv (Zaw (K:=K) rfl) (pv 0) (pv 1) (by with_unfolding_all rfl))) (fun _ _ _ _=>(pv 0)) rfl rfl (by decide) rfl (by decide) (ZaM (by (repeat' first | exact List.forall_mem_nil _ | refine List.forall_mem_cons.mpr ⟨?_,?_⟩) <;> rfl)) (Zaq (by (repeat' first | exact List.forall_mem_nil _ | refine List.forall_mem_cons.mpr ⟨?_,?_⟩) <;> first | (intro h; exact ⟨_,rfl⟩) | (intro h; exact absurd h (by decide)))) (fun _=>by (repeat' first | exact List.forall_mem_nil _ | refine List.forall_mem_cons.mpr ⟨?_,?_⟩) <;> exact ⟨rfl,rfl,Or.inl rfl⟩) (fun _=>rfl)) (ZbJ Zc) (ZX _))))),?_⟩
 refine ⟨_,rfl,_,rfl,a,b,fm,ws,rfl,hF,hri,htl,hql,hB,hcan,hwl,fun r zs H1 s1 hr1 e1 hZ=>?_⟩
 obtain ⟨pc,lc,hc1,_,hc3,hc4,hc5,hc6⟩:=hZ.get 0 _ (ZgT (Nat.zero_le _))
 rw [List.drop_zero] at hc6
 refine ⟨r,_,0,_,rfl,rfl,SqL.of e1,ZV hc1,?_⟩
 refine ⟨_,rfl,a,_,1,_,rfl,rfl,SqT.of (s1 _ _ a1),rfl,f1,rfl,⟨_,SqT.of (s1 _ _ a2)⟩,fun ps hps=>Zap (K:=K) (a:=f1) (p:=ps) (xs:=fm.hs.map V.int) (fun j us σ H3=>∃ v0:Option V,σ = [v0,some (.ref pc)] /\ Zh H1 H3 /\ H3 ps = some (.lst us) /\ us = (both (fm.hs.take j) lc).map V.int)
  ⟨none,rfl,Zh.new hps,Zb,rfl⟩ ?_ ?_ ?_⟩
 ·rintro j us σ H3 _ ⟨v0,_,sm,h,_⟩
  exact ⟨SqT.of (sm _ _ (s1 _ _ a2)),h⟩
 ·rintro j us x σ H3 hj hx ⟨v0,rfl,sm,h,rfl⟩
  rw [List.getElem?_map] at hx
  obtain ⟨y,hy,rfl⟩:=Option.map_eq_some_iff.mp hx
  have hst:=Zgo (l:=lc) hy
  refine ⟨_,rfl,_,rfl,pc,_,rfl,.inl (SqL.of (sm _ _ hc3)),rfl,ZaC _,?_⟩
  rw [if_neg (by decide),ZaN]
  refine ⟨_,rfl,ZbE (fun c=>?_) (fun c=>?_)⟩
  ·refine ⟨_,rfl,h,Zi (by rw [List.length_map]; have:=Zh6 fm.hs lc j; lia),CW.next hj ⟨_,rfl,sm.upd_new hps,Zb,?_⟩⟩
   rw [hst,if_pos c,List.map_append]
   rfl
  ·refine CW.next hj ⟨_,rfl,sm,h,?_⟩
   rw [hst,if_neg c,List.append_nil]
 ·rintro us σ H3 ⟨v0,rfl,sm,h,rfl⟩
  rw [List.length_map,List.take_length] at h
  refine ⟨by decide,fun pe hpe=>⟨ps,pe,_,rfl,rfl,SqL.of ((Zh.new hpe) _ _ h),SqL.of Zb,?_⟩⟩
  exact q _ _ ((s1.trans sm).trans (Zh.new hpe)) (Ziu hc6)
set_option maxHeartbeats 1000000 in
theorem ZcV (B:∀ x ∈ ZcY,mg x = none) (Cc1:∃ t:Tok,mg "MOST_KINDS" = some (.int 64 t)) (Cc2:∃ t:Tok,mg "MOST_RULES" = some (.int 400 t)) (F:Fun K "sorted_form" "sorted_form" Zah f fd):FnOk P w K mg base CX0 1 f fd ["many","starts","ends","rules"] (Zbh K):=by
 refine F.ok Zbw (fun vs H Q E h=>?_) (fun cdv A outer s H vs Q E hr h=>?_)
 ·obtain ⟨n,s0,e0,r0,hs,ts,ys,qs,rfl,_⟩:=h
  rfl
 obtain ⟨n,s0,e0,r0,hs,ts,ys,qs,rfl,hS,hsl,hT,htl,hR,hql,hqn,hn,hm,q⟩:=h
 obtain ⟨t1,c_MOST_KINDS⟩:=Cc1
 obtain ⟨t2,c_MOST_RULES⟩:=Cc2
 have hu:=Zb7 hr
 have hyl:=hql.length
 refine ⟨_,(Zd (Zn (i:=4) Zbw.nd rfl (Or.inl rfl) (Zab rfl hu rfl (B "sorted" (by decide)) rfl (B "set" (by decide)) (Za (ZbF (cl:=[]) ["kind","tag","inner","rest"] [] (ZbB (pv 3)) (fun _ _ _ _=>(Zjh (K:=K) (n:=4) rfl rfl (Z0 (Zj (i:=0) (show List.Nodup (["kind","tag","inner","rest"]:List Str) by decide) rfl (Or.inl rfl)) (Z0 (Zj (i:=1) (show List.Nodup (["kind","tag","inner","rest"]:List Str) by decide) rfl (Or.inl rfl)) (Z0 (Zj (i:=2) (show List.Nodup (["kind","tag","inner","rest"]:List Str) by decide) rfl (Or.inl rfl)) (Z0 (Zj (i:=3) (show List.Nodup (["kind","tag","inner","rest"]:List Str) by decide) rfl (Or.inl rfl)) Zdz)))))) (fun _ _ _ _=>(Z1 (Za (pv 0) (Za (pv 1) (Za (pv 2) (Za (pv 3) Zc)))))) rfl rfl (by decide) rfl (by decide) (fun _ _ h=>nomatch h) (ZbS (by decide)) (fun _ _ h=>nomatch h) (fun _=>rfl)) Zc)))
  (Zd (ZaK (Zv ZfI (pv 0) (ZhD (v:=.int 64) rfl c_MOST_KINDS ⟨_,rfl⟩) (ZX _))
   (Zf Zfz)
   Z6)
  (Zd (ZaK (Zv ZfI (Zt Zq rfl (B "len" (by decide)) PySem.boot_len (Za (pv 4) Zc)) (ZhD (v:=.int 400) rfl c_MOST_RULES ⟨_,rfl⟩) (ZX _))
   (Zf Zfz)
   Z6)
  (Zf (ZQ (Z1 (Za (pv 0) (Za (ZD ZG rfl (B "tuple" (by decide)) Zas (Za (Zab rfl hu rfl (B "sorted" (by decide)) rfl (B "set" (by decide)) (Za (pv 1) Zc)) Zc)) (Za (ZD ZG rfl (B "tuple" (by decide)) Zas (Za (Zab rfl hu rfl (B "sorted" (by decide)) rfl (B "set" (by decide)) (Za (pv 2) Zc)) Zc)) (Za (ZD ZG rfl (B "tuple" (by decide)) Zas (Za (pv 4) Zc)) Zc)))))))))),?_⟩
 refine ⟨_,rfl,r0,rfl,⟨ys,hR⟩,fun pl hpl=>ZcB (K:=K) (a:=r0) (p:=pl) (xs:=ys) (fun i zs σ H2=>∃ v0 v1 v2 v3:Option V,σ = [v0,v1,v2,v3] /\ Zh H H2 /\ H2 pl = some (.lst zs) /\ QL H2 zs (qs.take i))
  ⟨none,none,none,none,rfl,Zh.new hpl,Zb,.nil⟩ ?_ ?_ ?_⟩
 ·rintro i zs σ H2 _ ⟨v0,v1,v2,v3,_,sm,hp2,_⟩
  exact ⟨sm.seq hR,hp2⟩
 ·rintro i zs x σ H2 hi hx ⟨v0,v1,v2,v3,rfl,sm,hp2,hz⟩
  obtain ⟨p,q1,e1,rfl,e2⟩:=hql.get i x hx
  refine ⟨p,_,rfl,SqT.of (sm _ _ e2),rfl,_,_,rfl,_,_,rfl,_,_,rfl,_,_,rfl,rfl,?_⟩
  refine ⟨_,rfl,_,rfl,_,rfl,_,rfl,by show (4:Nat) <= sizeLine; decide,fun t ht=>?_⟩
  have s2:Zh H2 (upd H2 t (tq q1)):=Zh.new ht
  refine ⟨s2 _ _ hp2,Zi (by rw [hz.length,List.length_take]; lia),CW.next hi ⟨_,_,_,_,rfl,(sm.trans s2).upd_new hpl,Zb,?_⟩⟩
  obtain ⟨hil,hie⟩:=List.getElem?_eq_some_iff.mp e1
  rw [List.take_succ_eq_append_getElem hil,hie]
  have hz2:QL (upd H2 t (tq q1)) (zs ++ [.ref t]) (qs.take i ++ [q1]):=QL.snoc Zb (hz.keep fun b xs e=>s2 _ _ e)
  exact hz2.keep (Zat (s2 _ _ hp2))
 ·rintro zs σ H2 ⟨v0,v1,v2,v3,rfl,sm,hp2,hz⟩
  rw [hyl,List.take_length] at hz
  refine .inl ⟨pl,zs,qs,rfl,SqL.of hp2,(by rw [hz.length]; exact hqn),hz,fun r3 z3 m3 hr3 hrise hmem hQ3=>?_⟩
  have s3:Zh H2 (upd H2 r3 (.lst z3)):=Zh.new hr3
  have e3:(upd H2 r3 (.lst z3)) r3 = some (.lst z3):=Zb
  have hQ3':=hQ3.keep (H':=upd H2 r3 (.lst z3)) fun b xs e=>s3 _ _ e
  have hm3:=hm m3 hrise fun q hq=>(hmem q).mp hq
  generalize upd H2 r3 (.lst z3) = H3 at s3 e3 hQ3' ⊢
  have s03:=sm.trans s3
  refine ⟨_,rfl,_,_,rfl,rfl,_,rfl,ZbE (fun c=>absurd hn (by have:=of_decide_eq_true c; lia)) (fun _=>?_)⟩
  refine ⟨_,rfl,r3,_,rfl,.inl (SqL.of e3),_,_,rfl,rfl,_,rfl,ZbE (fun c=>absurd hm3 (by have:=of_decide_eq_true c; rw [hQ3.length] at this; lia)) (fun _=>?_)⟩
  refine ⟨_,rfl,_,rfl,.inr ⟨s0,hs,rfl,s03.seq hS,hsl,fun r1 m1 hr1 hri1 hme1=>⟨r1,_,rfl,.inl ⟨SqL.of Zb,fun u1 hu1=>?_⟩⟩⟩⟩
  have s4:Zh H3 (upd (upd H3 r1 (.lst (m1.map V.int))) u1 (.tup (m1.map V.int))):=(Zh.new hr1).trans (Zh.new hu1)
  have e4:(upd (upd H3 r1 (.lst (m1.map V.int))) u1 (.tup (m1.map V.int))) u1 = some (.tup (m1.map V.int)):=Zb
  generalize upd (upd H3 r1 (.lst (m1.map V.int))) u1 (.tup (m1.map V.int)) = H4 at s4 e4 ⊢
  have s04:=s03.trans s4
  refine ⟨_,rfl,.inr ⟨e0,ts,rfl,s04.seq hT,htl,fun r2 m2 hr2 hri2 hme2=>⟨r2,_,rfl,.inl ⟨SqL.of Zb,fun u2 hu2=>?_⟩⟩⟩⟩
  have s5:Zh H4 (upd (upd H4 r2 (.lst (m2.map V.int))) u2 (.tup (m2.map V.int))):=(Zh.new hr2).trans (Zh.new hu2)
  have e5:(upd (upd H4 r2 (.lst (m2.map V.int))) u2 (.tup (m2.map V.int))) u2 = some (.tup (m2.map V.int)):=Zb
  generalize upd (upd H4 r2 (.lst (m2.map V.int))) u2 (.tup (m2.map V.int)) = H5 at s5 e5 ⊢
  have s05:=s04.trans s5
  refine ⟨_,rfl,r3,_,rfl,.inl ⟨SqL.of (s5 _ _ (s4 _ _ e3)),fun u3 hu3=>?_⟩⟩
  have s6:Zh H5 (upd H5 u3 (.tup z3)):=Zh.new hu3
  have e6:(upd H5 u3 (.tup z3)) u3 = some (.tup z3):=Zb
  generalize upd H5 u3 (.tup z3) = H6 at s6 e6 ⊢
  refine ⟨by show (4:Nat) <= sizeLine; decide,fun a ha=>?_⟩
  have s7:Zh H6 (upd H6 a (.tup [.int n,.ref u1,.ref u2,.ref u3])):=Zh.new ha
  have s36:=((s4.trans s5).trans s6).trans s7
  exact q a ⟨n,m1,m2,m3⟩ _ (s03.trans s36) ⟨u1,u2,u3,z3,Zb,s7 _ _ (s6 _ _ (s5 _ _ e4)),s7 _ _ (s6 _ _ e5),s7 _ _ e6,hQ3'.keep fun b xs e=>s36 _ _ e⟩ rfl hri1 hme1 hri2 hme2 hrise hmem
inductive LvQ (f:FQ):Int -> Prop
 | e {x:Int}:x ∈ f.ts -> LvQ f x
 | r {q:Srd.Qd}:q ∈ f.qs -> LvQ f q.2.2.1 -> LvQ f q.2.2.2 -> LvQ f q.1
inductive RcL (xs:List Int) (qs:List Srd.Qd):Int -> Prop
 | s {x:Int}:x ∈ xs -> RcL xs qs x
 | i {q:Srd.Qd}:q ∈ qs -> RcL xs qs q.1 -> RcL xs qs q.2.2.1
 | o {q:Srd.Qd}:q ∈ qs -> RcL xs qs q.1 -> RcL xs qs q.2.2.2
def hsA (f:FQ) (A:List Int):List Int:=f.hs.filter fun x=>decide (x ∈ A)
def qsA (f:FQ) (A:List Int):List Srd.Qd:=f.qs.filter fun q=>decide (q.2.2.1 ∈ A) && decide (q.2.2.2 ∈ A)
def Kp (f:FQ) (kp:List Int):Prop:=Zca kp /\ ∃ A:List Int,(∀ x,x ∈ A ↔ LvQ f x) /\ ∀ x,x ∈ kp ↔ RcL (hsA f A) (qsA f A) x
section
variable {f:FQ} {kp:List Int}
theorem Kp.one {kp':List Int} (h:Kp f kp) (h':Kp f kp'):kp = kp':=by
 obtain ⟨r,A,hA,hk⟩:=h
 obtain ⟨r',A',hA',hk'⟩:=h'
 have hAA:∀ x,x ∈ A ↔ x ∈ A':=fun x=>(hA x).trans (hA' x).symm
 have e1:hsA f A = hsA f A':=List.filter_congr fun x _=>by rw [Bool.eq_iff_iff,decide_eq_true_eq,decide_eq_true_eq]; exact hAA x
 have e2:qsA f A = qsA f A':=List.filter_congr fun q _=>by rw [Bool.eq_iff_iff,Bool.and_eq_true,Bool.and_eq_true,decide_eq_true_eq,decide_eq_true_eq,decide_eq_true_eq,decide_eq_true_eq,hAA,hAA]
 refine Zdi r r' fun x=>(hk x).trans ?_
 rw [e1,e2]
 exact (hk' x).symm
theorem Kp.lv (h:Kp f kp) {x:Int} (hx:x ∈ kp):LvQ f x:=by
 obtain ⟨r,A,hA,hk⟩:=h
 have h1:=(hk x).mp hx
 refine (hA x).mp ?_
 cases h1 with
 | s h=>exact of_decide_eq_true (List.mem_filter.mp h).2
 | i h _ =>
  have:=(List.mem_filter.mp h).2
  rw [Bool.and_eq_true] at this
  exact of_decide_eq_true this.1
 | o h _ =>
  have:=(List.mem_filter.mp h).2
  rw [Bool.and_eq_true] at this
  exact of_decide_eq_true this.2
theorem Kp.start (h:Kp f kp) {x:Int} (hx:x ∈ f.hs) (hl:LvQ f x):x ∈ kp:=by
 obtain ⟨r,A,hA,hk⟩:=h
 exact (hk x).mpr (.s (List.mem_filter.mpr ⟨hx,decide_eq_true ((hA x).mpr hl)⟩))
theorem Kp.rule (h:Kp f kp) {q:Srd.Qd} (hq:q ∈ f.qs) (h1:q.1 ∈ kp) (h2:LvQ f q.2.2.1) (h3:LvQ f q.2.2.2):q.2.2.1 ∈ kp /\ q.2.2.2 ∈ kp:=by
 obtain ⟨r,A,hA,hk⟩:=h
 have hm:q ∈ qsA f A:=List.mem_filter.mpr ⟨hq,by rw [decide_eq_true ((hA _).mpr h2),decide_eq_true ((hA _).mpr h3)]; rfl⟩
 exact ⟨(hk _).mpr (.i hm ((hk _).mp h1)),(hk _).mpr (.o hm ((hk _).mp h1))⟩
def ixI (kp:List Int) (x:Int):Int:=((kp.idxOf x:Nat):Int)
def ixQ (kp:List Int) (q:Srd.Qd):Srd.Qd:=(ixI kp q.1,q.2.1,ixI kp q.2.2.1,ixI kp q.2.2.2)
theorem ZfZ (r:Zca kp) {x y:Int} (hx:x ∈ kp) (hy:y ∈ kp) (h:x < y):ixI kp x < ixI kp y:=by
 unfold ixI
 have lx:=List.idxOf_lt_length_of_mem hx
 have ly:=List.idxOf_lt_length_of_mem hy
 have ex:=List.getElem_idxOf lx
 have ey:=List.getElem_idxOf ly
 by_cases c:kp.idxOf x < kp.idxOf y
 ·lia
 ·exfalso
  by_cases e:kp.idxOf y = kp.idxOf x
  ·have:kp[kp.idxOf y] = kp[kp.idxOf x]:=by congr 1
   lia
  ·have:=List.pairwise_iff_getElem.mp r _ _ ly lx (by lia)
   lia
theorem ZiN (r:Zca kp) {x y:Int} (hx:x ∈ kp) (hy:y ∈ kp) (h:ixI kp x = ixI kp y):x = y:=by
 by_cases c1:x < y
 ·have:=ZfZ r hx hy c1
  lia
 ·by_cases c2:y < x
  ·have:=ZfZ r hy hx c2
   lia
  ·lia
def inQ (kp:List Int) (q:Srd.Qd):Bool:=decide (q.1 ∈ kp) && (decide (q.2.2.1 ∈ kp) && decide (q.2.2.2 ∈ kp))
theorem ZbH {q:Srd.Qd}:inQ kp q = true ↔ q.1 ∈ kp /\ q.2.2.1 ∈ kp /\ q.2.2.2 ∈ kp:=by
 unfold inQ
 rw [Bool.and_eq_true,Bool.and_eq_true,decide_eq_true_eq,decide_eq_true_eq,decide_eq_true_eq]
def trF (f:FQ) (kp:List Int):FQ:=⟨kp.length,(f.hs.filter fun x=>decide (x ∈ kp)).map (ixI kp),(f.ts.filter fun x=>decide (x ∈ kp)).map (ixI kp),(f.qs.filter (inQ kp)).map (ixQ kp)⟩
theorem ZeQ (r:Zca kp) {l:List Int} (h:Zca l):Zca ((l.filter fun x=>decide (x ∈ kp)).map (ixI kp)):=by
 refine List.pairwise_map.mpr (List.Pairwise.imp_of_mem (fun {a b} ha hb hab=>?_) (h.filter _))
 exact ZfZ r (of_decide_eq_true (List.mem_filter.mp ha).2) (of_decide_eq_true (List.mem_filter.mp hb).2) hab
theorem Zi7 {a b:Srd.Qd}:Srd.qLt a b = true ↔ a.1 < b.1 \/ (a.1 = b.1 /\ (a.2.1.cps.toList < b.2.1.cps.toList \/ (a.2.1 = b.2.1 /\ (a.2.2.1 < b.2.2.1 \/ (a.2.2.1 = b.2.2.1 /\ a.2.2.2 < b.2.2.2))))):=by
 simp only [Srd.qLt,Srd.ZiM,Bool.or_eq_true,Bool.and_eq_true,decide_eq_true_eq]
theorem Ziq (r:Zca kp) {l:List Srd.Qd} (h:ZfP l):ZfP ((l.filter (inQ kp)).map (ixQ kp)):=by
 refine List.pairwise_map.mpr (List.Pairwise.imp_of_mem (fun {a b} ha hb hab=>?_) (h.filter _))
 obtain ⟨a1,a2,a3⟩:=ZbH.mp (List.mem_filter.mp ha).2
 obtain ⟨b1,b2,b3⟩:=ZbH.mp (List.mem_filter.mp hb).2
 rw [Zi7] at hab ⊢
 rcases hab with h | ⟨e1,h | ⟨e2,h | ⟨e3,h⟩⟩⟩
 ·exact .inl (ZfZ r a1 b1 h)
 ·exact .inr ⟨congrArg (ixI kp) e1,.inl h⟩
 ·exact .inr ⟨congrArg (ixI kp) e1,.inr ⟨e2,.inl (ZfZ r a2 b2 h)⟩⟩
 ·exact .inr ⟨congrArg (ixI kp) e1,.inr ⟨e2,.inr ⟨congrArg (ixI kp) e3,ZfZ r a3 b3 h⟩⟩⟩
theorem Zg6:∀ (G:Gr Str) {x:Int},ofK f G x -> LvQ f x
 | .nil,_,h=>.e h
 | .cons t w o,x,⟨p,r,hm,hw,ho⟩=>.r (q:=(x,t,p,r)) hm (Zg6 w hw) (Zg6 o ho)
theorem ZfF (h:Kp f kp):∀ (G:Gr Str) {x:Int},x ∈ kp -> (ofK (trF f kp) G (ixI kp x) ↔ ofK f G x)
 | .nil,x,hx=>by
  show ixI kp x ∈ (f.ts.filter fun x=>decide (x ∈ kp)).map (ixI kp) ↔ x ∈ f.ts
  constructor
  ·intro hm
   obtain ⟨y,hy,e⟩:=List.mem_map.mp hm
   obtain ⟨hy1,hy2⟩:=List.mem_filter.mp hy
   rw [<- ZiN h.1 (of_decide_eq_true hy2) hx e]
   exact hy1
  ·intro hm
   exact List.mem_map.mpr ⟨x,List.mem_filter.mpr ⟨hm,decide_eq_true hx⟩,rfl⟩
 | .cons t w o,x,hx=>by
  show (∃ p r,(ixI kp x,t,p,r) ∈ (f.qs.filter (inQ kp)).map (ixQ kp) /\ ofK (trF f kp) w p /\ ofK (trF f kp) o r) ↔ ∃ p r,(x,t,p,r) ∈ f.qs /\ ofK f w p /\ ofK f o r
  constructor
  ·rintro ⟨p,r,hm,hw,ho⟩
   obtain ⟨⟨q1,q2,q3,q4⟩,hq,e⟩:=List.mem_map.mp hm
   obtain ⟨hq1,hq2⟩:=List.mem_filter.mp hq
   obtain ⟨a1,a2,a3⟩:=ZbH.mp hq2
   have e1:ixI kp q1 = ixI kp x:=congrArg (·.1) e
   have e2:q2 = t:=congrArg (·.2.1) e
   have e3:ixI kp q3 = p:=congrArg (·.2.2.1) e
   have e4:ixI kp q4 = r:=congrArg (·.2.2.2) e
   have e1':=ZiN h.1 a1 hx e1
   subst e1' e2 e3 e4
   exact ⟨q3,q4,hq1,(ZfF h w a2).mp hw,(ZfF h o a3).mp ho⟩
  ·rintro ⟨p,r,hm,hw,ho⟩
   obtain ⟨a2,a3⟩:=h.rule hm hx (Zg6 w hw) (Zg6 o ho)
   exact ⟨ixI kp p,ixI kp r,List.mem_map.mpr ⟨_,List.mem_filter.mpr ⟨hm,ZbH.mpr ⟨hx,a2,a3⟩⟩,rfl⟩,(ZfF h w a2).mpr hw,(ZfF h o a3).mpr ho⟩
theorem ZgY (h:Kp f kp) (G:Gr Str):ZgG (trF f kp) G ↔ ZgG f G:=by
 constructor
 ·rintro ⟨s,hs,ho⟩
  obtain ⟨y,hy,rfl⟩:=List.mem_map.mp hs
  obtain ⟨hy1,hy2⟩:=List.mem_filter.mp hy
  exact ⟨y,hy1,(ZfF h G (of_decide_eq_true hy2)).mp ho⟩
 ·rintro ⟨s,hs,ho⟩
  have hk:=h.start hs (Zg6 G ho)
  exact ⟨ixI kp s,List.mem_map.mpr ⟨s,List.mem_filter.mpr ⟨hs,decide_eq_true hk⟩,rfl⟩,(ZfF h G hk).mpr ho⟩
end
def ZbA (n:Nat) (S:List Int):Nat:=((List.range n).map fun k:Nat=>if (k:Int) ∈ S then 0 else 1).sum
theorem ZhG {g g':Nat -> Nat}:∀ {l:List Nat},(∀ x ∈ l,g' x <= g x) -> (l.map g').sum <= (l.map g).sum
 | [],_=>Nat.le_refl _
 | y :: l,h=>by
  rw [List.map_cons,List.map_cons,List.sum_cons,List.sum_cons]
  have h1:=h y (List.mem_cons_self ..)
  have h2:=ZhG fun x hx=>h x (List.mem_cons_of_mem (a:=x) y hx)
  lia
theorem Zfp {g g':Nat -> Nat} {k:Nat} (hs:g' k + 1 <= g k):∀ {l:List Nat},(∀ x ∈ l,g' x <= g x) -> k ∈ l -> (l.map g').sum + 1 <= (l.map g).sum
 | [],_,hk=>nomatch hk
 | y :: l,h,hk=>by
  rw [List.map_cons,List.map_cons,List.sum_cons,List.sum_cons]
  have hy:=h y (List.mem_cons_self ..)
  have hl:=fun x hx=>h x (List.mem_cons_of_mem (a:=x) y hx)
  rcases List.mem_cons.mp hk with rfl | hk
  ·have:=ZhG hl
   lia
  ·have:=Zfp hs hl hk
   lia
theorem Zd6 {n:Nat} {S S':List Int} (h:∀ x ∈ S,x ∈ S'):ZbA n S' <= ZbA n S:=by
 unfold ZbA
 refine ZhG fun x _=>?_
 by_cases hx:(x:Int) ∈ S
 ·rw [if_pos hx,if_pos (h _ hx)]
  exact Nat.le_refl _
 ·rw [if_neg hx]
  split <;> lia
theorem Zcw {n:Nat} {k:Int} {S:List Int} (h0:0 <= k) (hk:k < (n:Int)) (h:k ∉ S):ZbA n (S ++ [k]) + 1 <= ZbA n S:=by
 unfold ZbA
 have ek:((k.toNat:Nat):Int) = k:=Int.toNat_of_nonneg h0
 refine Zfp (k:=k.toNat) ?_ (fun x _=>?_) (List.mem_range.mpr (by lia))
 ·rw [ek,if_pos (List.mem_append_right _ (List.mem_singleton.mpr rfl)),if_neg h]
  exact Nat.le_refl _
 ·by_cases hx:(x:Int) ∈ S
  ·rw [if_pos (List.mem_append_left _ hx),if_pos hx]
   exact Nat.le_refl _
  ·rw [if_neg hx]
   split <;> lia
theorem ZgM (n:Nat) (S:List Int):ZbA n S <= n:=by
 have h:∀ l:List Nat,(l.map fun k:Nat=>if (k:Int) ∈ S then 0 else 1).sum <= l.length:=by
  intro l
  induction l with
  | nil=>exact Nat.le_refl _
  | cons a l ih =>
   rw [List.map_cons,List.sum_cons,List.length_cons]
   split <;> lia
 have:=h (List.range n)
 rw [List.length_range] at this
 exact this
def PT (H:Hp) (ys:List V) (es:List Int):Prop:=Paired (fun (y:V) (e:Int)=>∃ t,y = V.ref t /\ H t = some (.tup [.int e,.bl true])) ys es
theorem PT.keep {H H':Hp}:∀ {ys:List V} {es:List Int},PT H ys es -> (∀ b xs,H b = some (.tup xs) -> H' b = some (.tup xs)) -> PT H' ys es
 | _,_,.nil,_=>.nil
 | _,_,.cons ⟨p,e1,e2⟩ t,k=>.cons ⟨p,e1,k _ _ e2⟩ (PT.keep t k)
theorem PT.snoc {H:Hp} {e:Int} {p:Addr} (h:H p = some (.tup [.int e,.bl true])):∀ {ys:List V} {es:List Int},PT H ys es -> PT H (ys ++ [.ref p]) (es ++ [e])
 | _,_,.nil=>.cons ⟨p,rfl,h⟩ .nil
 | _,_,.cons r t=>.cons r (PT.snoc h t)
theorem PT.length {H:Hp}:∀ {ys:List V} {es:List Int},PT H ys es -> ys.length = es.length
 | _,_,.nil=>rfl
 | _,_,.cons _ t=>by rw [List.length_cons,List.length_cons,PT.length t]
def kB (e:Int):Key × V:=(Sum.inl e,V.bl true)
theorem PT.pairs {H:Hp}:∀ {ys:List V} {es:List Int},PT H ys es -> Paired (fun (y:V) (kv:Key × V)=>∃ t,y = .ref t /\ H t = some (.tup [kV kv.1,kv.2])) ys (es.map kB)
 | _,_,.nil=>.nil
 | _,_,.cons ⟨p,e1,e2⟩ t=>.cons ⟨p,e1,e2⟩ (PT.pairs t)
def ZbZ (S:List Int) (x:Int):List Int:=if x ∈ S then S else S ++ [x]
theorem Zaj {S:List Int} {x y:Int}:y ∈ ZbZ S x ↔ y ∈ S \/ y = x:=by
 unfold ZbZ
 split
 ·rename_i h
  exact ⟨.inl,fun z=>z.elim id fun z=>z ▸ h⟩
 ·rw [List.mem_append,List.mem_singleton]
theorem Zfb {n:Nat} {S:List Int} {x:Int} (h0:0 <= x) (h1:x < (n:Int)):(ZbZ S x).length + ZbA n (ZbZ S x) <= S.length + ZbA n S:=by
 unfold ZbZ
 split
 ·exact Nat.le_refl _
 ·rename_i h
  have:=Zcw h0 h1 h
  rw [List.length_append,List.length_singleton]
  lia
theorem Zht:∀ (es:List Int) (m:List (Key × V)) (S:List Int),m.map (·.1) = S.map Sum.inl -> ∃ S':List Int,((es.map kB).foldl (fun m kv=>putK m kv.1 kv.2) m).map (·.1) = S'.map Sum.inl /\ ∀ x,x ∈ S' ↔ x ∈ S \/ x ∈ es
 | [],m,S,h=>⟨S,h,fun x=>⟨.inl,fun z=>z.elim id fun z=>nomatch z⟩⟩
 | e :: es,m,S,h=>by
  obtain ⟨S',h1,h2⟩:=Zht es (putK m (Sum.inl e) (V.bl true)) (ZbZ S e) (DI.put h e (V.bl true))
  refine ⟨S',h1,fun x=>(h2 x).trans ?_⟩
  rw [Zaj,List.mem_cons,or_assoc]
theorem Zbl {m:List (Key × V)} {S:List Int} (h:m.map (·.1) = S.map Sum.inl):m.length = S.length:=by
 have:=congrArg List.length h
 simpa using this
def Zie (qs:List Srd.Qd) (S:List Int):Prop := ∀ q ∈ qs,q.2.2.1 ∈ S -> q.2.2.2 ∈ S -> q.1 ∈ S
theorem Zh7 {f:FQ} {S:List Int} (he:∀ e ∈ f.ts,e ∈ S) (hs:Zie f.qs S) {k:Int} (h:LvQ f k):k ∈ S:=by
 induction h with
 | e h=>exact he _ h
 | r h _ _ h1 h2=>exact hs _ h h1 h2
def ZeU (K:PySem.W.Frag):Sp:=fun vs H Q _=>∃ (a:Addr) (f:FQ),vs = [.ref a] /\ FmQ H a f /\ Okk 64 130 f /\ ∀ (d:Addr) (S:List Int) (H':Hp),Zh H H' -> H d = none -> DI H' d S -> S.length <= 200 -> (∀ x,x ∈ S ↔ LvQ f x) -> Q (.ref d) H'
set_option maxHeartbeats 2000000 in
theorem Zdv (B:∀ x ∈ ZcY,mg x = none) (F:Fun K "live_kinds" "live_kinds" Zaf f fd):FnOk P w K mg base CX0 1 f fd ["form"] (ZeU K):=by
 refine F.ok ZF (fun vs H Q E h=>?_) (fun cdv A outer s H vs Q E hr h=>?_)
 ·obtain ⟨a,fm,rfl,_⟩:=h
  rfl
 obtain ⟨a,fm,rfl,hF,ok,q⟩:=h
 obtain ⟨f1,f2,f3,zf,a1,a2,a3,a4,a5⟩:=id hF
 have n0:=ok.n0
 have n64:=ok.n8
 have htl:=ok.tl
 have zfl:=a5.length
 obtain ⟨N,hN⟩:∃ N:Nat,fm.n = (N:Int):=⟨fm.n.toNat,(Int.toNat_of_nonneg n0).symm⟩
 have hu1:(A.deeper (PyProof.Rows.envOfC (Str.ofString "live_kinds") (Zg Zaf) s.heap.objs.size f cdv)).units + 1 < cLine:=by have:=hr.un; lia
 refine ⟨_,(Zd (Zn (i:=1) ZF.nd rfl (Or.inl rfl) (ZD (Zbx rfl) rfl (B "dict" (by decide)) Zg0 (Za (ZbF (cl:=[]) ["end"] [] (ZaO (Zr Zx (pv 0) Ze (fun _ _=>rfl))) (fun _ _ _ _=>(Zj (i:=0) nd1 rfl (Or.inl rfl))) (fun _ _ _ _=>(Z1 (Za (pv 0) (Za Zbf Zc)))) rfl rfl (by decide) rfl (by decide) (fun _ _ h=>nomatch h) (ZbS (by decide)) (fun _ _ h=>nomatch h) (fun _=>rfl)) Zc)))
  (Zd (Zn (i:=2) ZF.nd rfl (Or.inl rfl) Zbf)
  (Zd (ZdI PassesOwn.never (ZR (pv 2) (fun _=>rfl))
   (Zd (Zn (i:=2) ZF.nd rfl (Or.inl rfl) Zbf)
    (Zf (ZaD PassesOwn.never rfl (ZaO (Zr Zx (pv 0) Ze (fun _ _=>rfl))) (Zfd rfl (Z0 (Zj (i:=3) ZF.nd rfl (Or.inl rfl)) (Z0 (Zj (i:=4) ZF.nd rfl (Or.inl rfl)) (Z0 (Zj (i:=5) ZF.nd rfl (Or.inl rfl)) (Z0 (Zj (i:=6) ZF.nd rfl (Or.inl rfl)) Zdz)))))
     (Zf (ZaK (PW.pt (ZaZ (Zbz (Zec hu1 (pv 3) (pv 1))) (ZaZ (Zbz (Zce hu1 (pv 5) (pv 1))) (Za9 (Zbz (Zce hu1 (pv 6) (pv 1)))))))
       (Zd (ZdB hu1 (pv 1) (pv 3) Zbf rfl)
        (Zf (Zn (i:=2) ZF.nd rfl (Or.inl rfl) Zbf)))
       Z6))))))
  (Zf (ZQ (pv 1)))))),?_⟩
 refine ⟨_,rfl,a,_,2,_,rfl,rfl,SqT.of a1,rfl,f2,rfl,⟨_,SqT.of a3⟩,fun pl hpl=>Zh1 (K:=K) (a:=f2) (p:=pl) (xs:=fm.ts.map V.int) (fun i ys σ H2=>∃ v0:Option V,σ = [v0] /\ Zh H H2 /\ H2 pl = some (.lst ys) /\ PT H2 ys (fm.ts.take i))
  ⟨none,rfl,Zh.new hpl,Zb,.nil⟩ ?_ ?_ ?_⟩
 ·rintro i ys σ H2 _ ⟨v0,_,sm,h,_⟩
  exact ⟨SqT.of (sm _ _ a3),h⟩
 ·rintro i ys x σ H2 hi hx ⟨v0,rfl,sm,hp,hz⟩
  rw [List.getElem?_map] at hx
  obtain ⟨e,he,rfl⟩:=Option.map_eq_some_iff.mp hx
  refine ⟨_,rfl,by show (2:Nat) <= sizeLine; decide,fun t ht0=>?_⟩
  have s2:Zh H2 (upd H2 t (.tup [V.int e,.bl true])):=Zh.new ht0
  refine ⟨s2 _ _ hp,Zi (by rw [hz.length,List.length_take]; lia),CW.next hi ⟨_,rfl,(sm.trans s2).upd_new hpl,Zb,?_⟩⟩
  rw [ZJ he]
  have hz2:PT (upd H2 t (.tup [V.int e,.bl true])) (ys ++ [.ref t]) (fm.ts.take i ++ [e]):=PT.snoc Zb (hz.keep fun b xs e=>s2 _ _ e)
  exact hz2.keep (Zat (s2 _ _ hp))
 rintro ys σ H2 ⟨v0,rfl,sm,hp,hz⟩
 rw [List.length_map,List.take_length] at hz
 refine ⟨pl,_,fm.ts.map kB,rfl,SqL.of hp,by rw [hz.length]; lia,hz.pairs,fun d hd=>?_⟩
 have hd0:=sm.free hd
 obtain ⟨S0,kn0,hS0⟩:=Zht fm.ts [] [] rfl
 have hm0:(putAll (fm.ts.map kB)).length <= fm.ts.length:=by
  have:=Zb9 (fm.ts.map kB)
  rw [List.length_map] at this
  exact this
 have kn0':(putAll (fm.ts.map kB)).map (·.1) = S0.map Sum.inl:=kn0
 generalize putAll (fm.ts.map kB) = m0 at kn0' hm0
 have hS0l:S0.length <= fm.ts.length:=by rw [<- Zbl kn0']; exact hm0
 have sm1:Zh H (upd H2 d (.dK m0)):=sm.upd_new hd0
 let W:Nat -> St -> Hp -> Prop:=fun j σ H1=>∃ (S:List Int) (m:List (Key × V)) (fl:Bool) (v3 v4 v5 v6:Option V),σ = [some (.ref a),some (.ref d),some (.bl fl),v3,v4,v5,v6] /\ Zh H H1 /\ H1 d = some (.dK m) /\ m.map (·.1) = S.map Sum.inl /\
  (∀ e ∈ fm.ts,e ∈ S) /\ (∀ k ∈ S,LvQ fm k) /\ S.length + ZbA N S <= 4 + N /\ j = 2 * ZbA N S + (if fl = true then 1 else 0) /\ (fl = false -> Zie fm.qs S)
 have ho0:=ZgM N S0
 refine ⟨W,⟨_,S0,m0,true,none,none,none,none,rfl,sm1,Zb,kn0',fun e he=>(hS0 e).mpr (.inr he),fun k hk=>.e (((hS0 k).mp hk).resolve_left (fun z=>nomatch z)),by lia,rfl,fun z=>nomatch z⟩,?_⟩
 rintro j σ H1 ⟨S,m,fl,v3,v4,v5,v6,rfl,smw,hdm,kn,hen,hsd,hsz,rfl,hsh⟩
 cases fl with
 | false =>
  refine ⟨_,rfl,false,rfl,Za3 ⟨_,rfl,q d S H1 smw hd0 ⟨m,hdm,kn⟩ ?_ fun k=>⟨hsd k,fun hk=>Zh7 hen (hsh rfl) hk⟩⟩⟩
  lia
 | true =>
  refine ⟨_,rfl,true,rfl,Zcj ⟨fun σ' H'=>∃ m',m' < 2 * ZbA N S + (if true = true then 1 else 0) /\ W m' σ' H',fun _ _ h=>h,?_⟩⟩
  refine ⟨_,rfl,a,_,3,_,rfl,rfl,SqT.of (smw _ _ a1),rfl,f3,rfl,⟨_,SqT.of (smw _ _ a4)⟩,Zdp (K:=K) (a:=f3) (xs:=zf) (fun i σ H2=>∃ (S':List Int) (m':List (Key × V)) (fl':Bool) (v3 v4 v5 v6:Option V),σ = [some (.ref a),some (.ref d),some (.bl fl'),v3,v4,v5,v6] /\ Zh H H2 /\ H2 d = some (.dK m') /\ m'.map (·.1) = S'.map Sum.inl /\
   (∀ e ∈ fm.ts,e ∈ S') /\ (∀ k ∈ S',LvQ fm k) /\ S'.length + ZbA N S' <= 4 + N /\ (fl' = false -> S' = S /\ Zie (fm.qs.take i) S) /\ (fl' = true -> ZbA N S' + 1 <= ZbA N S)) ⟨S,m,false,v3,v4,v5,v6,rfl,smw,hdm,kn,hen,hsd,hsz,fun _=>⟨rfl,fun _ h=>nomatch h⟩,fun z=>nomatch z⟩ ?_ ?_ ?_⟩
  ·rintro i σ H2 _ ⟨S',m',fl',v3,v4,v5,v6,_,sm2,_⟩
   exact SqT.of (sm2 _ _ a4)
  ·rintro i x σ H2 hi ⟨S',m',fl',v3,v4,v5,v6,rfl,sm2,hdm2,kn2,hen2,hsd2,hsz2,hf1,hf2⟩
   obtain ⟨pq,q1,hq1,rfl,e4⟩:=a5.get i x hi
   have hqm:q1 ∈ fm.qs:=List.mem_of_getElem? hq1
   have hkn:=(ok.qb q1 hqm).1
   rw [hN] at hkn
   have hq4:=sm2 _ _ e4
   rw [ZJ hq1]
   have hg:=fun k:Int=>Zds.k (k:=Sum.inl k) hdm2
   have no:(q1.2.2.1 ∈ S' -> q1.2.2.2 ∈ S' -> q1.1 ∈ S') -> ∃ (S'':List Int) (m'':List (Key × V)) (fl'':Bool) (w3 w4 w5 w6:Option V),[some (V.ref a),some (.ref d),some (.bl fl'),some (.int q1.1),some (.str q1.2.1),some (.int q1.2.2.1),some (.int q1.2.2.2)] = [some (.ref a),some (.ref d),some (.bl fl''),w3,w4,w5,w6] /\ Zh H H2 /\ H2 d = some (.dK m'') /\ m''.map (·.1) = S''.map Sum.inl /\
     (∀ e ∈ fm.ts,e ∈ S'') /\ (∀ k ∈ S'',LvQ fm k) /\ S''.length + ZbA N S'' <= 4 + N /\ (fl'' = false -> S'' = S /\ Zie (fm.qs.take i ++ [q1]) S) /\ (fl'' = true -> ZbA N S'' + 1 <= ZbA N S):=fun hc=>by
    refine ⟨S',m',fl',_,_,_,_,rfl,sm2,hdm2,kn2,hen2,hsd2,hsz2,fun hf=>?_,hf2⟩
    obtain ⟨rfl,h2⟩:=hf1 hf
    refine ⟨rfl,fun z hz=>?_⟩
    rcases List.mem_append.mp hz with hz | hz
    ·exact h2 z hz
    ·rw [List.mem_singleton.mp hz]
     exact hc
   refine ⟨pq,_,rfl,SqT.of hq4,rfl,_,_,rfl,_,_,rfl,_,_,rfl,_,_,rfl,rfl,?_⟩
   refine ⟨_,rfl,_,rfl,d,_,rfl,hg q1.1,_,rfl,?_⟩
   rw [DI.has kn2]
   by_cases k1:q1.1 ∈ S'
   ·rw [decide_eq_true k1]
    exact Za3 (Za3 (no fun _ _=>k1))
   rw [decide_eq_false k1]
   refine Zcj ⟨_,rfl,_,rfl,d,_,rfl,hg q1.2.2.1,_,rfl,?_⟩
   rw [DI.has kn2]
   by_cases k2:q1.2.2.1 ∈ S'
   ·rw [decide_eq_true k2]
    refine Zcj ⟨_,rfl,_,rfl,d,_,rfl,hg q1.2.2.2,_,rfl,?_⟩
    rw [DI.has kn2]
    by_cases k3:q1.2.2.2 ∈ S'
    ·rw [decide_eq_true k3]
     have hml:m'.length < sizeLine:=by
      rw [Zbl kn2]
      exact Zi (by lia)
     refine Zcj ⟨_,rfl,_,rfl,d,_,rfl,ZiH.k (k:=Sum.inl q1.1) hdm2 hml,?_⟩
     have hless:=Zcw hkn.1 hkn.2 k1
     have kn3:=DI.put kn2 q1.1 (V.bl true)
     rw [if_neg k1] at kn3
     refine ⟨S' ++ [q1.1],_,true,_,_,_,_,rfl,sm2.upd_new hd0,Zb,kn3,fun e he=>List.mem_append_left _ (hen2 e he),fun k hk=>?_,?_,fun z=>(nomatch z),fun _=>?_⟩
     ·rcases List.mem_append.mp hk with hk | hk
      ·exact hsd2 k hk
      ·rw [List.mem_singleton.mp hk]
       exact .r hqm (hsd2 _ k2) (hsd2 _ k3)
     ·rw [List.length_append,List.length_singleton]
      lia
     ·cases fl' with
      | true=>have:=hf2 rfl; lia
      | false=>obtain ⟨rfl,_⟩:=hf1 rfl; exact hless
    ·rw [decide_eq_false k3]
     exact Za3 (no fun _ z=>absurd z k3)
   ·rw [decide_eq_false k2]
    exact Za3 (Za3 (no fun z=>absurd z k2))
  ·rintro σ H2 ⟨S',m',fl',v3,v4,v5,v6,rfl,sm2,hdm2,kn2,hen2,hsd2,hsz2,hf1,hf2⟩
   rw [zfl,List.take_length] at hf1
   refine ⟨_,?_,S',m',fl',v3,v4,v5,v6,rfl,sm2,hdm2,kn2,hen2,hsd2,hsz2,rfl,fun hf=>?_⟩
   ·cases fl' with
    | true=>have:=hf2 rfl; rw [if_pos rfl]; lia
    | false=>obtain ⟨rfl,_⟩:=hf1 rfl; rw [if_neg (by decide),if_pos rfl]; lia
   ·obtain ⟨rfl,h⟩:=hf1 hf
    exact h
def news (S:List Int) (p r:Int):List Int:=[p,r].filter fun x=>decide (x ∉ S)
theorem news_mem {S:List Int} {p r x:Int}:x ∈ news S p r ↔ (x = p \/ x = r) /\ x ∉ S:=by
 unfold news
 rw [List.mem_filter,List.mem_cons,List.mem_singleton,decide_eq_true_eq]
theorem Zir {n:Nat} {S:List Int} {p r:Int} (hp:0 <= p /\ p < (n:Int)) (hr:0 <= r /\ r < (n:Int)):(news S p r).length + 2 * ZbA n (ZbZ (ZbZ S p) r) <= 2 * ZbA n S:=by
 have m1:ZbA n (ZbZ (ZbZ S p) r) <= ZbA n (ZbZ S p):=Zd6 fun x hx=>Zaj.mpr (.inl hx)
 have m2:ZbA n (ZbZ S p) <= ZbA n S:=Zd6 fun x hx=>Zaj.mpr (.inl hx)
 unfold news
 by_cases h1:p ∈ S
 ·have e1:ZbZ S p = S:=if_pos h1
  rw [List.filter_cons,if_neg (by rw [decide_eq_true_eq]; exact fun z=>z h1),List.filter_cons]
  by_cases h2:r ∈ S
  ·rw [if_neg (by rw [decide_eq_true_eq]; exact fun z=>z h2),List.filter_nil,List.length_nil]
   lia
  ·rw [if_pos (decide_eq_true h2),List.filter_nil,List.length_singleton]
   have e2:ZbZ (ZbZ S p) r = S ++ [r]:=by rw [e1]; exact if_neg h2
   have:=Zcw hr.1 hr.2 h2
   rw [e2]
   lia
 ·have e1:ZbZ S p = S ++ [p]:=if_neg h1
  have h3:=Zcw hp.1 hp.2 h1
  rw [<- e1] at h3
  have h4:([p,r].filter fun x=>decide (x ∉ S)).length <= 2:=List.length_filter_le ..
  lia
def Cl (qs:List Srd.Qd) (S:List Int) (x:Int):Prop := ∀ q ∈ qs,q.1 = x -> q.2.2.1 ∈ S /\ q.2.2.2 ∈ S
theorem Zkf {xs:List Int} {qs:List Srd.Qd} {S:List Int} (h0:∀ x ∈ xs,x ∈ S) (h1:∀ x ∈ S,Cl qs S x) {x:Int} (h:RcL xs qs x):x ∈ S:=by
 induction h with
 | s h=>exact h0 _ h
 | i h _ ih=>exact (h1 _ ih _ h rfl).1
 | o h _ ih=>exact (h1 _ ih _ h rfl).2
def Zcy (K:PySem.W.Frag):Sp:=fun vs H Q _=>∃ (a b:Addr) (xs:List Int) (zs:List V) (qs:List Srd.Qd) (n:Nat),vs = [.ref a,.ref b] /\ H a = some (.lst (xs.map V.int)) /\ xs.length <= 100 /\ H b = some (.lst zs) /\ QL H zs qs /\ n <= 64 /\ IB (n:Int) xs /\ QB (n:Int) qs /\ ∀ (d:Addr) (S:List Int) (H':Hp),Zh H H' -> H d = none -> DI H' d S -> S.length <= 200 -> (∀ x,x ∈ S ↔ RcL xs qs x) -> Q (.ref d) H'
set_option maxHeartbeats 4000000 in
theorem ZfS (B:∀ x ∈ ZcY,mg x = none) (F:Fun K "reached" "reached" ZaL f fd):FnOk P w K mg base CX0 1 f fd ["starts","rules"] (Zcy K):=by
 refine F.ok Zan (fun vs H Q E h=>?_) (fun cdv A outer s H vs Q E hr h=>?_)
 ·obtain ⟨a,b,xs,zs,qs,n,rfl,_⟩:=h
  rfl
 obtain ⟨a,b,xs,zs,qs,n,rfl,ha,hxl,hb,hQ,n64,hxb,hqb,q⟩:=h
 have hzl:=hQ.length
 have hu1:(A.deeper (PyProof.Rows.envOfC (Str.ofString "reached") (Zg ZaL) s.heap.objs.size f cdv)).units + 1 < cLine:=by have:=hr.un; lia
 refine ⟨_,(Zd (Zn (i:=2) Zan.nd rfl (Or.inr rfl) (ZD (Zbx rfl) rfl (B "dict" (by decide)) Zg0 (Za (ZbF (cl:=[]) ["start"] [] (ZbB (pv 0)) (fun _ _ _ _=>(Zj (i:=0) nd1 rfl (Or.inl rfl))) (fun _ _ _ _=>(Z1 (Za (pv 0) (Za Zbf Zc)))) rfl rfl (by decide) rfl (by decide) (fun _ _ h=>nomatch h) (ZbS (by decide)) (fun _ _ h=>nomatch h) (fun _=>rfl)) Zc)))
  (Zd (Zn (i:=3) Zan.nd rfl (Or.inl rfl) (ZD Zbc rfl (B "list" (by decide)) ZeI (Za (pv 0) Zc)))
  (Zd (ZdI PassesOwn.never (ZR (pv 3) (fun _=>rfl))
   (Zd (Zn (i:=4) Zan.nd rfl (Or.inl rfl) (ZhJ PySem.F.plainAttrs_list PySem.F.slot_list_pop PySem.F.type_list_pop Zhi (pv 3)))
    (Zf (ZaD PassesOwn.never rfl (ZbB (pv 1)) (Zfd rfl (Z0 (Zj (i:=5) Zan.nd rfl (Or.inl rfl)) (Z0 (Zj (i:=6) Zan.nd rfl (Or.inl rfl)) (Z0 (Zj (i:=7) Zan.nd rfl (Or.inl rfl)) (Z0 (Zj (i:=8) Zan.nd rfl (Or.inl rfl)) Zdz)))))
     (Zf (ZaK (Zv ZbW (pv 5) (pv 4) (ZX _))
       (Zd (Zar (Zba PySem.F.plainAttrs_list PySem.F.slot_list_extend PySem.F.type_list_extend ZhA (pv 3) (Za (ZaU (cl:=_) ["other"] [("found",2)] (ZaO (Z1 (Za (pv 7) (Za (pv 8) Zc)))) (fun _ _ _ _=>(Zj (i:=0) (show List.Nodup (["other","found"]:List Str) by decide) rfl (Or.inl rfl))) (fun _ _ _ _=>(Zbz (Zec hu1 (pv 0) (pv 1)))) (fun _ _ _ _=>(pv 0)) rfl rfl (by decide) rfl (by decide) (ZaM (by (repeat' first | exact List.forall_mem_nil _ | refine List.forall_mem_cons.mpr ⟨?_,?_⟩) <;> rfl)) (Zaq (by (repeat' first | exact List.forall_mem_nil _ | refine List.forall_mem_cons.mpr ⟨?_,?_⟩) <;> first | (intro h; exact ⟨_,rfl⟩) | (intro h; exact absurd h (by decide)))) (fun _=>by (repeat' first | exact List.forall_mem_nil _ | refine List.forall_mem_cons.mpr ⟨?_,?_⟩) <;> exact ⟨rfl,rfl,Or.inl rfl⟩) (fun _=>rfl)) Zc)))
        (Zd (ZdB hu1 (pv 2) (pv 7) Zbf rfl)
        (Zf (ZdB hu1 (pv 2) (pv 8) Zbf rfl))))
       Z6))))))
  (Zf (ZQ (pv 2)))))),?_⟩
 refine ⟨_,rfl,a,rfl,⟨_,SqL.of ha⟩,fun pl hpl=>ZcB (K:=K) (a:=a) (p:=pl) (xs:=xs.map V.int) (fun i ys σ H2=>∃ v0:Option V,σ = [v0] /\ Zh H H2 /\ H2 pl = some (.lst ys) /\ PT H2 ys (xs.take i))
  ⟨none,rfl,Zh.new hpl,Zb,.nil⟩ ?_ ?_ ?_⟩
 ·rintro i ys σ H2 _ ⟨v0,_,sm,h,_⟩
  exact ⟨SqL.of (sm _ _ ha),h⟩
 ·rintro i ys x σ H2 hi hx ⟨v0,rfl,sm,hp,hz⟩
  rw [List.getElem?_map] at hx
  obtain ⟨e,he,rfl⟩:=Option.map_eq_some_iff.mp hx
  refine ⟨_,rfl,by show (2:Nat) <= sizeLine; decide,fun t ht0=>?_⟩
  have s2:Zh H2 (upd H2 t (.tup [V.int e,.bl true])):=Zh.new ht0
  refine ⟨s2 _ _ hp,Zi (by rw [hz.length,List.length_take]; lia),CW.next hi ⟨_,rfl,(sm.trans s2).upd_new hpl,Zb,?_⟩⟩
  rw [ZJ he]
  have hz2:PT (upd H2 t (.tup [V.int e,.bl true])) (ys ++ [.ref t]) (xs.take i ++ [e]):=PT.snoc Zb (hz.keep fun b xs e=>s2 _ _ e)
  exact hz2.keep (Zat (s2 _ _ hp))
 rintro ys σ H2 ⟨v0,rfl,sm,hp,hz⟩
 rw [List.length_map,List.take_length] at hz
 refine ⟨pl,_,xs.map kB,rfl,SqL.of hp,by rw [hz.length]; lia,hz.pairs,fun d hd=>?_⟩
 have hd0:=sm.free hd
 obtain ⟨S0,kn0,hS0⟩:=Zht xs [] [] rfl
 have hm0:(putAll (xs.map kB)).length <= xs.length:=by
  have:=Zb9 (xs.map kB)
  rw [List.length_map] at this
  exact this
 have kn0':(putAll (xs.map kB)).map (·.1) = S0.map Sum.inl:=kn0
 generalize putAll (xs.map kB) = m0 at kn0' hm0
 have hS0l:S0.length <= xs.length:=by rw [<- Zbl kn0']; exact hm0
 have sm1:Zh H (upd H2 d (.dK m0)):=sm.upd_new hd0
 have d1:(upd H2 d (.dK m0)) d = some (.dK m0):=Zb
 generalize upd H2 d (.dK m0) = H3 at sm1 d1 ⊢
 refine ⟨_,rfl,a,_,rfl,.inl (SqL.of (sm1 _ _ ha)),fun wl hwl=>?_⟩
 have hwl0:=sm1.free hwl
 have nwd:d ≠ wl:=Zo d1 hwl
 have sm2:Zh H (upd H3 wl (.lst (xs.map V.int))):=sm1.upd_new hwl0
 let W:Nat -> St -> Hp -> Prop:=fun j σ H1=>∃ (S ws:List Int) (m:List (Key × V)) (v4 v5 v6 v7 v8:Option V),σ = [some (.ref a),some (.ref b),some (.ref d),some (.ref wl),v4,v5,v6,v7,v8] /\ Zh H H1 /\ H1 d = some (.dK m) /\ m.map (·.1) = S.map Sum.inl /\ H1 wl = some (.lst (ws.map V.int)) /\
  (∀ x ∈ xs,x ∈ S) /\ (∀ x ∈ S,RcL xs qs x) /\ (∀ x ∈ ws,x ∈ S) /\ (∀ x ∈ S,x ∈ ws \/ Cl qs S x) /\ S.length + ZbA n S <= 100 + n /\ j = 2 * ZbA n S + ws.length /\ j <= 2 * n + 100
 have ho0:=ZgM n S0
 refine ⟨W,⟨_,S0,xs,m0,none,none,none,none,none,rfl,sm2,by rw [Zk nwd]; exact d1,kn0',Zb,fun e he=>(hS0 e).mpr (.inr he),fun k hk=>.s (((hS0 k).mp hk).resolve_left (fun z=>nomatch z)),fun e he=>(hS0 e).mpr (.inr he),fun k hk=>.inl (((hS0 k).mp hk).resolve_left (fun z=>nomatch z)),by lia,rfl,by lia⟩,?_⟩
 rintro j σ H1 ⟨S,ws,m,v4,v5,v6,v7,v8,rfl,smw,hdm,kn,hwm,hxs,hsd,hws,hcl,hsz,rfl,hjb⟩
 refine ⟨_,rfl,_,.inl ⟨_,SqL.of hwm,rfl⟩,?_⟩
 rcases List.eq_nil_or_concat ws with rfl | ⟨ws',c,rfl⟩
 ·refine Za3 ⟨_,rfl,q d S H1 smw hd0 ⟨m,hdm,kn⟩ (by lia) fun x=>⟨hsd x,fun hx=>Zkf hxs (fun y hy=>?_) hx⟩⟩
  exact (hcl y hy).resolve_left (fun z=>nomatch z)
 rw [List.concat_eq_append] at hwm hws hcl hjb ⊢
 have hne:(!((ws' ++ [c]).map V.int).isEmpty) = true:=by
  rw [List.map_append]
  cases ws' <;> rfl
 have hwl1:(ws' ++ [c]).length = ws'.length + 1:=by rw [List.length_append]; rfl
 have hcS:c ∈ S:=hws c (List.mem_append_right _ (List.mem_singleton.mpr rfl))
 rw [hne]
 refine Zcj ⟨fun σ' H'=>∃ m',m' < 2 * ZbA n S + (ws' ++ [c]).length /\ W m' σ' H',fun _ _ h=>h,?_⟩
 have hpop:((ws' ++ [c]).map V.int)[((ws' ++ [c]).map V.int).length - 1]? = some (.int c):=by
  rw [List.map_append,List.length_append,List.length_map]
  show (ws'.map V.int ++ [V.int c])[ws'.length + 1 - 1]? = _
  rw [Nat.add_sub_cancel,List.getElem?_append_right (by rw [List.length_map]; exact Nat.le_refl _),List.length_map,Nat.sub_self]
  rfl
 have hdl:((ws' ++ [c]).map V.int).dropLast = ws'.map V.int:=by
  rw [List.map_append]
  exact List.dropLast_concat ..
 refine ⟨_,rfl,.inl ⟨rfl,_,SqL.of hwm⟩,wl,_,_,rfl,rfl,hwm,hpop,?_⟩
 rw [hdl]
 have t1:Zh H (upd H1 wl (.lst (ws'.map V.int))):=smw.upd_new hwl0
 have t2:(upd H1 wl (.lst (ws'.map V.int))) wl = some (.lst (ws'.map V.int)):=Zb
 have t3:(upd H1 wl (.lst (ws'.map V.int))) d = some (.dK m):=by rw [Zk nwd]; exact hdm
 generalize upd H1 wl (.lst (ws'.map V.int)) = H4 at t1 t2 t3
 have hcl':∀ x ∈ S,x ∈ ws' \/ x = c \/ Cl qs S x:=fun x hx=>by
  rcases hcl x hx with h | h
  ·rcases List.mem_append.mp h with h | h
   ·exact .inl h
   ·exact .inr (.inl (List.mem_singleton.mp h))
  ·exact .inr (.inr h)
 refine ⟨_,rfl,b,rfl,⟨_,SqL.of (t1 _ _ hb)⟩,ZdG (K:=K) (a:=b) (xs:=zs) (fun i σ H2=>∃ (S' ws2:List Int) (m':List (Key × V)) (v5 v6 v7 v8:Option V),σ = [some (.ref a),some (.ref b),some (.ref d),some (.ref wl),some (.int c),v5,v6,v7,v8] /\ Zh H H2 /\ H2 d = some (.dK m') /\ m'.map (·.1) = S'.map Sum.inl /\ H2 wl = some (.lst (ws2.map V.int)) /\
   (∀ x ∈ S,x ∈ S') /\ (∀ x ∈ S',RcL xs qs x) /\ (∀ x ∈ ws2,x ∈ S') /\ (∀ x ∈ S',x ∈ ws2 \/ x = c \/ Cl qs S' x) /\ Cl (qs.take i) S' c /\ S'.length + ZbA n S' <= 100 + n /\ 2 * ZbA n S' + ws2.length <= 2 * ZbA n S + ws'.length)
  ⟨S,ws',m,v5,v6,v7,v8,rfl,t1,t3,kn,t2,fun _ h=>h,hsd,fun x hx=>hws x (List.mem_append_left _ hx),hcl',fun _ h=>(nomatch h),hsz,Nat.le_refl _⟩ ?_ ?_ ?_⟩
 ·rintro i σ H2 _ ⟨_,_,_,_,_,_,_,_,sm3,_⟩
  exact SqL.of (sm3 _ _ hb)
 ·rintro i x σ H2 hi ⟨S',ws2,m',v5,v6,v7,v8,rfl,sm3,hdm2,kn2,hwm2,hss,hsd2,hws2,hcl2,hcc,hsz2,hms⟩
  obtain ⟨pq,q1,hq1,rfl,e4⟩:=hQ.get i x hi
  have hqm:q1 ∈ qs:=List.mem_of_getElem? hq1
  obtain ⟨_,bp,br⟩:=hqb q1 hqm
  rw [ZJ hq1]
  refine ⟨pq,_,rfl,SqT.of (sm3 _ _ e4),rfl,_,_,rfl,_,_,rfl,_,_,rfl,_,_,rfl,rfl,?_⟩
  refine ⟨_,rfl,_,rfl,rfl,_,rfl,ZbE (fun cc=>?_) (fun cc=>?_)⟩
  ·have ec:q1.1 = c:=by
    have:=of_decide_eq_true cc
    injection this
   have hcr:RcL xs qs c:=hsd2 c (hss c hcS)
   refine ⟨_,rfl,.inl ⟨rfl,_,SqL.of hwm2⟩,_,rfl,_,rfl,by show (2:Nat) <= sizeLine; decide,fun tp htp=>?_⟩
   have s5:Zh H2 (upd H2 tp (.tup [.int q1.2.2.1,.int q1.2.2.2])):=Zh.new htp
   have x5:(upd H2 tp (.tup [.int q1.2.2.1,.int q1.2.2.2])) tp = some (.tup [.int q1.2.2.1,.int q1.2.2.2]):=Zb
   generalize upd H2 tp (.tup [.int q1.2.2.1,.int q1.2.2.2]) = H5 at s5 x5 ⊢
   refine ⟨tp,rfl,⟨_,SqT.of x5⟩,fun pc hpc=>Zap (K:=K) (a:=tp) (p:=pc) (xs:=[q1.2.2.1,q1.2.2.2].map V.int) (fun i us σ H6=>∃ v0:Option V,σ = [v0,some (.ref d)] /\ Zh H5 H6 /\ H6 pc = some (.lst us) /\ us = (([q1.2.2.1,q1.2.2.2].take i).filter fun x=>decide (x ∉ S')).map V.int)
    ⟨none,rfl,Zh.new hpc,Zb,rfl⟩ ?_ ?_ ?_⟩
   ·rintro i us σ H6 _ ⟨v0,_,sm6,h,_⟩
    exact ⟨SqT.of (sm6 _ _ x5),h⟩
   ·rintro i us x σ H6 hi6 hx ⟨v0,rfl,sm6,h,rfl⟩
    rw [List.getElem?_map] at hx
    obtain ⟨y,hy,rfl⟩:=Option.map_eq_some_iff.mp hx
    have hlen:(([q1.2.2.1,q1.2.2.2].take i).filter fun x=>decide (x ∉ S')).length <= 2:=Nat.le_trans (List.length_filter_le ..) (by rw [List.length_take]; exact Nat.min_le_right ..)
    refine ⟨_,rfl,_,rfl,d,_,rfl,Zds.k (k:=Sum.inl y) (sm6 _ _ (s5 _ _ hdm2)),_,rfl,?_⟩
    rw [DI.has kn2]
    by_cases ky:y ∈ S'
    ·rw [decide_eq_true ky]
     refine Za3 (CW.next hi6 ⟨_,rfl,sm6,h,?_⟩)
     rw [ZJ hy,List.filter_append,List.filter_cons,if_neg (by rw [decide_eq_true_eq]; exact fun z=>z ky),List.filter_nil,List.append_nil]
    ·rw [decide_eq_false ky]
     refine Zcj ⟨_,rfl,h,Zi (by rw [List.length_map]; lia),CW.next hi6 ⟨_,rfl,sm6.upd_new hpc,Zb,?_⟩⟩
     rw [ZJ hy,List.filter_append,List.filter_cons,if_pos (decide_eq_true ky),List.filter_nil,List.map_append]
     rfl
   rintro us σ H6 ⟨v0,rfl,sm6,h6,rfl⟩
   have h6':H6 pc = some (.lst ((news S' q1.2.2.1 q1.2.2.2).map V.int)):=h6
   have s56:=s5.trans sm6
   have hno:=Zir (S:=S') bp br
   have hjb2:2 * ZbA n S + (ws'.length + 1) <= 2 * n + 100:=by rw [<- hwl1]; exact hjb
   refine ⟨wl,pc,_,_,rfl,rfl,s56 _ _ hwm2,h6',ZeD (by rw [List.length_map,List.length_map]; lia),?_⟩
   have s07:Zh H (upd H6 wl (.lst (ws2.map V.int ++ (news S' q1.2.2.1 q1.2.2.2).map V.int))):=(sm3.trans s56).upd_new hwl0
   have x7:(upd H6 wl (.lst (ws2.map V.int ++ (news S' q1.2.2.1 q1.2.2.2).map V.int))) wl = some (.lst ((ws2 ++ news S' q1.2.2.1 q1.2.2.2).map V.int)):=by rw [Zb,List.map_append]
   have y7:(upd H6 wl (.lst (ws2.map V.int ++ (news S' q1.2.2.1 q1.2.2.2).map V.int))) d = some (.dK m'):=by rw [Zk nwd]; exact s56 _ _ hdm2
   generalize upd H6 wl (.lst (ws2.map V.int ++ (news S' q1.2.2.1 q1.2.2.2).map V.int)) = H7 at s07 x7 y7
   have hml:m'.length <= 200:=by
    rw [Zbl kn2]
    lia
   refine ⟨_,rfl,_,rfl,d,_,rfl,ZiH.k (k:=Sum.inl q1.2.2.1) y7 (Zi (by lia)),?_⟩
   have kn3:(putK m' (Sum.inl q1.2.2.1) (V.bl true)).map (·.1) = (ZbZ S' q1.2.2.1).map Sum.inl:=DI.put kn2 q1.2.2.1 (V.bl true)
   have s08:Zh H (upd H7 d (.dK (putK m' (Sum.inl q1.2.2.1) (V.bl true)))):=s07.upd_new hd0
   have x8:(upd H7 d (.dK (putK m' (Sum.inl q1.2.2.1) (V.bl true)))) wl = some (.lst ((ws2 ++ news S' q1.2.2.1 q1.2.2.2).map V.int)):=by rw [Zk nwd.symm]; exact x7
   have y8:(upd H7 d (.dK (putK m' (Sum.inl q1.2.2.1) (V.bl true)))) d = some (.dK (putK m' (Sum.inl q1.2.2.1) (V.bl true))):=Zb
   generalize upd H7 d (.dK (putK m' (Sum.inl q1.2.2.1) (V.bl true))) = H8 at s08 x8 y8
   generalize putK m' (Sum.inl q1.2.2.1) (V.bl true) = m2 at kn3 y8
   have l1:=Zfb (S:=S') bp.1 bp.2
   have l2:=Zfb (S:=ZbZ S' q1.2.2.1) br.1 br.2
   refine ⟨_,rfl,_,rfl,d,_,rfl,ZiH.k (k:=Sum.inl q1.2.2.2) y8 (Zi (by rw [Zbl kn3]; lia)),?_⟩
   have kn4:(putK m2 (Sum.inl q1.2.2.2) (V.bl true)).map (·.1) = (ZbZ (ZbZ S' q1.2.2.1) q1.2.2.2).map Sum.inl:=DI.put kn3 q1.2.2.2 (V.bl true)
   have up:∀ x ∈ S',x ∈ ZbZ (ZbZ S' q1.2.2.1) q1.2.2.2:=fun x hx=>Zaj.mpr (.inl (Zaj.mpr (.inl hx)))
   have hpm:q1.2.2.1 ∈ ZbZ (ZbZ S' q1.2.2.1) q1.2.2.2:=Zaj.mpr (.inl (Zaj.mpr (.inr rfl)))
   have hrm:q1.2.2.2 ∈ ZbZ (ZbZ S' q1.2.2.1) q1.2.2.2:=Zaj.mpr (.inr rfl)
   refine ⟨ZbZ (ZbZ S' q1.2.2.1) q1.2.2.2,ws2 ++ news S' q1.2.2.1 q1.2.2.2,_,_,_,_,_,rfl,s08.upd_new hd0,Zb,kn4,by rw [Zk nwd.symm]; exact x8,fun x hx=>up x (hss x hx),fun x hx=>?_,fun x hx=>?_,fun x hx=>?_,fun z hz hzc=>?_,by lia,?_⟩
   ·rcases Zaj.mp hx with hx | rfl
    ·rcases Zaj.mp hx with hx | rfl
     ·exact hsd2 x hx
     ·exact .i hqm (ec ▸ hcr)
    ·exact .o hqm (ec ▸ hcr)
   ·rcases List.mem_append.mp hx with hx | hx
    ·exact up x (hws2 x hx)
    ·rcases (news_mem.mp hx).1 with rfl | rfl
     ·exact hpm
     ·exact hrm
   ·by_cases hxS:x ∈ S'
    ·rcases hcl2 x hxS with h | h | h
     ·exact .inl (List.mem_append_left _ h)
     ·exact .inr (.inl h)
     ·exact .inr (.inr fun z hz e=>⟨up _ (h z hz e).1,up _ (h z hz e).2⟩)
    ·refine .inl (List.mem_append_right _ (news_mem.mpr ⟨?_,hxS⟩))
     rcases Zaj.mp hx with hx | hx
     ·rcases Zaj.mp hx with hx | hx
      ·exact absurd hx hxS
      ·exact .inl hx
     ·exact .inr hx
   ·rcases List.mem_append.mp hz with hz | hz
    ·exact ⟨up _ (hcc z hz hzc).1,up _ (hcc z hz hzc).2⟩
    ·rw [List.mem_singleton.mp hz]
     exact ⟨hpm,hrm⟩
   ·rw [List.length_append]
    lia
  ·have ec:q1.1 ≠ c:=fun e=>cc (decide_eq_true (congrArg V.int e))
   refine ⟨S',ws2,m',_,_,_,_,rfl,sm3,hdm2,kn2,hwm2,hss,hsd2,hws2,hcl2,fun z hz hzc=>?_,hsz2,hms⟩
   rcases List.mem_append.mp hz with hz | hz
   ·exact hcc z hz hzc
   ·rw [List.mem_singleton.mp hz] at hzc
    exact absurd hzc ec
 ·rintro σ H2 ⟨S',ws2,m',v5,v6,v7,v8,rfl,sm3,hdm2,kn2,hwm2,hss,hsd2,hws2,hcl2,hcc,hsz2,hms⟩
  rw [hzl,List.take_length] at hcc
  refine ⟨2 * ZbA n S' + ws2.length,by rw [hwl1]; lia,S',ws2,m',_,_,_,_,_,rfl,sm3,hdm2,kn2,hwm2,fun x hx=>hss x (hxs x hx),hsd2,hws2,fun x hx=>?_,hsz2,rfl,by rw [hwl1] at hjb; lia⟩
  rcases hcl2 x hx with h | h | h
  ·exact .inl h
  ·rw [h]
   exact .inr hcc
  ·exact .inr h
theorem Ziy {l:List Int} {N:Nat} (r:Zca l) (h:∀ x ∈ l,0 <= x /\ x < (N:Int)):l.length <= N:=by
 have:=Za6 (m:=(List.range N).map fun k:Nat=>(k:Int)) (Zbm r) fun x hx=>by
  have b:=h x hx
  exact List.mem_map.mpr ⟨x.toNat,List.mem_range.mpr (by lia),Int.toNat_of_nonneg b.1⟩
 rw [List.length_map,List.length_range] at this
 exact this
theorem Zk5 {xs:List Int} {qs:List Srd.Qd} {n:Int} (h1:IB n xs) (h2:QB n qs) {x:Int} (h:RcL xs qs x):0 <= x /\ x < n:=by
 cases h with
 | s h=>exact h1 _ h
 | i h _=>exact (h2 _ h).2.1
 | o h _=>exact (h2 _ h).2.2
theorem Zjd {kp:List Int} (r:Zca kp) {i:Nat} {x:Int} (h:kp[i]? = some x):ixI kp x = (i:Int):=by
 obtain ⟨hi,ei⟩:=List.getElem?_eq_some_iff.mp h
 have hx:x ∈ kp:=List.mem_of_getElem? h
 have lx:=List.idxOf_lt_length_of_mem hx
 have ex:=List.getElem_idxOf lx
 unfold ixI
 by_cases c1:kp.idxOf x < i
 ·have:=List.pairwise_iff_getElem.mp r _ _ lx hi c1
  lia
 ·by_cases c2:i < kp.idxOf x
  ·have:=List.pairwise_iff_getElem.mp r _ _ hi lx c2
   lia
  ·lia
def kvK (kp:List Int) (i:Nat):List (Key × V):=(kp.take i).map fun x=>((Sum.inl x:Key),V.int (ixI kp x))
theorem Zft (kp:List Int) (i:Nat):(kvK kp i).map (·.1) = (kp.take i).map Sum.inl:=by
 unfold kvK
 rw [List.map_map]
 rfl
theorem Zjx {kp:List Int} (r:Zca kp) {i:Nat} {x:Int} (h:kp[i]? = some x):putK (kvK kp i) (Sum.inl x) (V.int (i:Int)) = kvK kp (i + 1):=by
 have hn:x ∉ kp.take i:=fun z=>by
  obtain ⟨j,hj⟩:=List.mem_iff_getElem?.mp z
  have hjl:j < i:=by
   have:=(List.getElem?_eq_some_iff.mp hj).1
   rw [List.length_take] at this
   lia
  rw [List.getElem?_take_of_lt hjl] at hj
  have e1:=Zjd r hj
  have e2:=Zjd r h
  lia
 have hh:=DI.has (Zft kp i) x
 rw [decide_eq_false hn,<- ZbP] at hh
 unfold putK
 rw [if_neg (by rw [hh]; decide)]
 unfold kvK
 rw [ZJ h,List.map_append,<- Zjd r h]
 rfl
theorem Zd0 {g:Int -> V} {x:Int}:∀ {l:List Int},x ∈ l -> ZeX (l.map fun y=>((Sum.inl y:Key),g y)) (Sum.inl x) = some (g x)
 | [],h=>nomatch h
 | y :: l,h=>by
  rw [List.map_cons]
  by_cases e:y = x
  ·subst e
   rw [Zcu rfl]
  ·rw [Zcm (fun z=>e (by injection z))]
   rcases List.mem_cons.mp h with h | h
   ·exact absurd h.symm e
   ·exact Zd0 h
theorem Zkh {f:FQ} {A kp:List Int} (hA:∀ x,x ∈ A ↔ LvQ f x) (hk:∀ x,x ∈ kp ↔ RcL (hsA f A) (qsA f A) x) (r:Zca kp):(qsA f A).filter (fun q=>decide (q.1 ∈ kp)) = f.qs.filter (inQ kp):=by
 have K0:Kp f kp:=⟨r,A,hA,hk⟩
 unfold qsA
 rw [List.filter_filter]
 refine List.filter_congr fun q hq=>?_
 rw [Bool.eq_iff_iff,ZbH,Bool.and_eq_true,Bool.and_eq_true,decide_eq_true_eq,decide_eq_true_eq,decide_eq_true_eq]
 constructor
 ·rintro ⟨h1,h2,h3⟩
  obtain ⟨a,b⟩:=K0.rule hq h1 ((hA _).mp h2) ((hA _).mp h3)
  exact ⟨h1,a,b⟩
 ·rintro ⟨h1,h2,h3⟩
  exact ⟨h1,(hA _).mpr (K0.lv h2),(hA _).mpr (K0.lv h3)⟩
def Zdd (K:PySem.W.Frag):Sp:=fun vs H Q _=>∃ (a:Addr) (f:FQ),vs = [.ref a] /\ FmQ H a f /\ Okk 64 130 f /\ ∀ (r:Addr) (kp:List Int) (H':Hp),Zh H H' -> Kp f kp -> FmQ H' r (trF f kp) -> Q (.ref r) H'
theorem ZaA {α : Type} {P : α -> Bool} {l:List α} {i:Nat} {x : α} (h:l[i]? = some x):(l.take (i + 1)).filter P = (l.take i).filter P ++ if P x = true then [x] else []:=by
 rw [ZJ h,List.filter_append,List.filter_cons,List.filter_nil]
set_option maxHeartbeats 4000000 in
theorem Zf1 (B:∀ x ∈ ZcY,mg x = none) (g_live_kinds:Has P w K mg base "live_kinds" ["form"] 1 (ZeU K)) (g_reached:Has P w K mg base "reached" ["starts","rules"] 1 (Zcy K)) (g_sorted_form:Has P w K mg base "sorted_form" ["many","starts","ends","rules"] 1 (Zbh K)) (F:Fun K "trimmed" "trimmed" ZaI f fd):FnOk P w K mg base CX0 2 f fd ["form"] (Zdd K):=by
 refine F.ok ZK (fun vs H Q E h=>?_) (fun cdv A outer s H vs Q E hr h=>?_)
 ·obtain ⟨a,fm,rfl,_⟩:=h
  rfl
 obtain ⟨a,fm,rfl,hF,ok,q⟩:=h
 obtain ⟨f1,f2,f3,zf,a1,a2,a3,a4,a5⟩:=id hF
 have n0:=ok.n0
 have n64:=ok.n8
 have fhl:=ok.hl
 have ftl:=ok.tl
 have fql:=ok.ql
 have zfl:=a5.length
 obtain ⟨N,hN⟩:∃ N:Nat,fm.n = (N:Int):=⟨fm.n.toNat,(Int.toNat_of_nonneg n0).symm⟩
 have hu1:(A.deeper (PyProof.Rows.envOfC (Str.ofString "trimmed") (Zg ZaI) s.heap.objs.size f cdv)).units + 1 < cLine:=by have:=hr.un; lia
 refine cut 3 (fun σ' H'=>∃ (d1 pr d2:Addr) (A S:List Int) (ms:List (Key × V)) (zs:List V),σ' = [some (.ref a),some (.ref d1),some (.ref pr),some (.ref d2),none,none,none,none,none,none,none,none] /\ Zh H H' /\ (∀ x,x ∈ A ↔ LvQ fm x) /\ H' pr = some (.lst zs) /\ QL H' zs (qsA fm A) /\ H' d2 = some (.dK ms) /\ ms.map (·.1) = S.map Sum.inl /\ S.length <= 200 /\ (∀ x,x ∈ S ↔ RcL (hsA fm A) (qsA fm A) x))
  ?_ (fun u hu3 hR=>⟨_,(Zd (Zn (i:=1) ZK.nd rfl (Or.inr rfl) (Zw g_live_kinds hr rfl (Za (pv 0) Zc)))
  (Zd (Z8 (cl:=_) (n0:=2) ZK.nd rfl (Or.inl rfl) ["rule"] [("alive",1)] (ZaO (Zr Zx (pv 0) Ze (fun _ _=>rfl))) (fun _ _ _ _=>(Zj (i:=0) (show List.Nodup (["rule","alive"]:List Str) by decide) rfl (Or.inl rfl))) (fun _ _ _ _=>(PW.pt (ZaZ (Zbz (Zce hu1 (Zr (Zbb (K:=K) rfl) (pv 0) Ze (fun _ _=>rfl)) (pv 1))) (Za9 (Zbz (Zce hu1 (Zr (Zbb (K:=K) rfl) (pv 0) Ze (fun _ _=>rfl)) (pv 1))))))) (fun _ _ _ _=>(pv 0)) rfl rfl (by decide) rfl (by decide) (ZaM (by (repeat' first | exact List.forall_mem_nil _ | refine List.forall_mem_cons.mpr ⟨?_,?_⟩) <;> rfl)) (Zaq (by (repeat' first | exact List.forall_mem_nil _ | refine List.forall_mem_cons.mpr ⟨?_,?_⟩) <;> first | (intro h; exact ⟨_,rfl⟩) | (intro h; exact absurd h (by decide)))) (fun _=>by (repeat' first | exact List.forall_mem_nil _ | refine List.forall_mem_cons.mpr ⟨?_,?_⟩) <;> exact ⟨rfl,rfl,Or.inl rfl⟩) (fun _=>rfl) rfl)
  (Zd (Zn (i:=3) ZK.nd rfl (Or.inl rfl) (Zw g_reached hr rfl (Za (ZaU (cl:=_) ["start"] [("alive",1)] (ZaO (Zr Zx (pv 0) Ze (fun _ _=>rfl))) (fun _ _ _ _=>(Zj (i:=0) (show List.Nodup (["start","alive"]:List Str) by decide) rfl (Or.inl rfl))) (fun _ _ _ _=>(Zbz (Zce hu1 (pv 0) (pv 1)))) (fun _ _ _ _=>(pv 0)) rfl rfl (by decide) rfl (by decide) (ZaM (by (repeat' first | exact List.forall_mem_nil _ | refine List.forall_mem_cons.mpr ⟨?_,?_⟩) <;> rfl)) (Zaq (by (repeat' first | exact List.forall_mem_nil _ | refine List.forall_mem_cons.mpr ⟨?_,?_⟩) <;> first | (intro h; exact ⟨_,rfl⟩) | (intro h; exact absurd h (by decide)))) (fun _=>by (repeat' first | exact List.forall_mem_nil _ | refine List.forall_mem_cons.mpr ⟨?_,?_⟩) <;> exact ⟨rfl,rfl,Or.inl rfl⟩) (fun _=>rfl)) (Za (pv 2) Zc))))
  hu3))),?_⟩)
 rotate_left
 ·refine ⟨_,rfl,a,fm,rfl,hF,ok,fun d1 A H1 s1 hd1 hA hAl hAm=>?_⟩
  obtain ⟨mA,eA,kA⟩:=hA
  refine ⟨_,rfl,a,_,3,_,rfl,rfl,SqT.of (s1 _ _ a1),rfl,f3,rfl,⟨_,SqT.of (s1 _ _ a4)⟩,fun pr hpr=>Zap (K:=K) (a:=f3) (p:=pr) (xs:=zf) (fun i us σ H2=>∃ v0:Option V,σ = [v0,some (.ref d1)] /\ Zh H1 H2 /\ H2 pr = some (.lst us) /\ QL H2 us ((fm.qs.take i).filter fun q=>decide (q.2.2.1 ∈ A) && decide (q.2.2.2 ∈ A)))
   ⟨none,rfl,Zh.new hpr,Zb,.nil⟩ ?_ ?_ ?_⟩
  ·rintro i us σ H2 _ ⟨v0,_,sm,h,_⟩
   exact ⟨SqT.of (sm _ _ (s1 _ _ a4)),h⟩
  ·rintro i us x σ H2 hi hx ⟨v0,rfl,sm,h,hz⟩
   obtain ⟨p,q1,e1,rfl,e2⟩:=a5.get i x hx
   have e2':=sm _ _ (s1 _ _ e2)
   have hfs:=ZaA (P:=fun q:Srd.Qd=>decide (q.2.2.1 ∈ A) && decide (q.2.2.2 ∈ A)) e1
   have no:(decide (q1.2.2.1 ∈ A) && decide (q1.2.2.2 ∈ A)) = false -> QL H2 us ((fm.qs.take (i + 1)).filter fun q=>decide (q.2.2.1 ∈ A) && decide (q.2.2.2 ∈ A)):=fun hc=>by
    rw [hfs,if_neg (by rw [hc]; decide),List.append_nil]
    exact hz
   refine ⟨_,rfl,p,_,2,_,rfl,rfl,SqT.of e2',rfl,_,rfl,d1,_,rfl,Zds.k (k:=Sum.inl q1.2.2.1) (sm _ _ eA),_,rfl,?_⟩
   rw [DI.has kA]
   by_cases k1:q1.2.2.1 ∈ A
   ·rw [decide_eq_true k1]
    refine Zcj ⟨_,rfl,p,_,3,_,rfl,rfl,SqT.of e2',rfl,_,rfl,d1,_,rfl,Zds.k (k:=Sum.inl q1.2.2.2) (sm _ _ eA),_,rfl,?_⟩
    rw [DI.has kA]
    by_cases k2:q1.2.2.2 ∈ A
    ·rw [decide_eq_true k2]
     refine Zcj ⟨_,rfl,h,Zi (by rw [hz.length]; exact Nat.le_trans (List.length_filter_le ..) (by rw [List.length_take]; lia)),CW.next hi ⟨_,rfl,sm.upd_new hpr,Zb,?_⟩⟩
     rw [hfs,if_pos (by rw [decide_eq_true k1,decide_eq_true k2]; rfl)]
     exact (QL.snoc e2' hz).keep (Zat h)
    ·rw [decide_eq_false k2]
     exact Za3 (CW.next hi ⟨_,rfl,sm,h,no (by rw [decide_eq_false k2,Bool.and_false])⟩)
   ·rw [decide_eq_false k1]
    exact Za3 (Za3 (CW.next hi ⟨_,rfl,sm,h,no (by rw [decide_eq_false k1,Bool.false_and])⟩))
  rintro zs σ H2 ⟨v0,rfl,s2,e2,hz⟩
  rw [zfl,List.take_length] at hz
  have s12:=s1.trans s2
  refine ⟨_,rfl,a,_,1,_,rfl,rfl,SqT.of (s12 _ _ a1),rfl,f1,rfl,⟨_,SqT.of (s12 _ _ a2)⟩,fun ps hps=>Zap (K:=K) (a:=f1) (p:=ps) (xs:=fm.hs.map V.int) (fun i us σ H3=>∃ v0:Option V,σ = [v0,some (.ref d1)] /\ Zh H2 H3 /\ H3 ps = some (.lst us) /\ us = ((fm.hs.take i).filter fun x=>decide (x ∈ A)).map V.int)
   ⟨none,rfl,Zh.new hps,Zb,rfl⟩ ?_ ?_ ?_⟩
  ·rintro i us σ H3 _ ⟨v0,_,sm,h,_⟩
   exact ⟨SqT.of (sm _ _ (s12 _ _ a2)),h⟩
  ·rintro i us x σ H3 hi hx ⟨v0,rfl,sm,h,rfl⟩
   rw [List.getElem?_map] at hx
   obtain ⟨y,hy,rfl⟩:=Option.map_eq_some_iff.mp hx
   have hfs:=ZaA (P:=fun x:Int=>decide (x ∈ A)) hy
   refine ⟨_,rfl,_,rfl,d1,_,rfl,Zds.k (k:=Sum.inl y) (sm _ _ (s2 _ _ eA)),_,rfl,?_⟩
   rw [DI.has kA]
   by_cases k1:y ∈ A
   ·rw [decide_eq_true k1]
    refine Zcj ⟨_,rfl,h,Zi (by rw [List.length_map]; exact Nat.le_trans (List.length_filter_le ..) (by rw [List.length_take]; lia)),CW.next hi ⟨_,rfl,sm.upd_new hps,Zb,?_⟩⟩
    rw [hfs,if_pos (decide_eq_true k1),List.map_append]
    rfl
   ·rw [decide_eq_false k1]
    refine Za3 (CW.next hi ⟨_,rfl,sm,h,?_⟩)
    rw [hfs,if_neg (by rw [decide_eq_false k1]; decide),List.append_nil]
  rintro us σ H3 ⟨v0,rfl,s3,e3,rfl⟩
  rw [List.length_map,List.take_length] at e3
  refine ⟨_,rfl,ps,pr,hsA fm A,zs,qsA fm A,N,rfl,e3,Nat.le_trans (List.length_filter_le ..) (by lia),s3 _ _ e2,hz.keep fun b xs e=>s3 _ _ e,by lia,fun x hx=>?_,fun x hx=>?_,fun d2 S H4 s4 hd2 hS hSl hSm=>?_⟩
  ·rw [<- hN]
   exact ok.hb x (List.mem_filter.mp hx).1
  ·rw [<- hN]
   exact ok.qb x (List.mem_filter.mp hx).1
  obtain ⟨mS,eS,kS⟩:=hS
  exact hR _ _ ⟨d1,pr,d2,A,S,mS,zs,rfl,(s12.trans s3).trans s4,hAm,s4 _ _ (s3 _ _ e2),hz.keep fun b xs e=>s4 _ _ (s3 _ _ e),eS,kS,hSl,hSm⟩
 refine ⟨_,(Zd (Zn (i:=4) ZK.nd rfl (Or.inr rfl) Zik)
  (Zd (ZaD PassesOwn.never rfl (ZbB (Zt (ZcZ rfl) rfl (B "sorted" (by decide)) Zg7 (Za (pv 3) Zc))) (Zj (i:=5) ZK.nd rfl (Or.inl rfl))
   (Zf (ZdB hu1 (pv 4) (pv 5) (Zt Zed rfl (B "len" (by decide)) PySem.boot_len (Za (pv 4) Zc)) rfl)))
  (Zd (Z8 (cl:=_) (n0:=6) ZK.nd rfl (Or.inl rfl) ["start"] [("numbers",4)] (ZaO (Zr Zx (pv 0) Ze (fun _ _=>rfl))) (fun _ _ _ _=>(Zj (i:=0) (show List.Nodup (["start","numbers"]:List Str) by decide) rfl (Or.inl rfl))) (fun _ _ _ _=>(Zbz (Zce hu1 (pv 0) (pv 1)))) (fun _ _ _ _=>(ZcQ hu1 (pv 1) (pv 0) (fun _ _=>rfl))) rfl rfl (by decide) rfl (by decide) (ZaM (by (repeat' first | exact List.forall_mem_nil _ | refine List.forall_mem_cons.mpr ⟨?_,?_⟩) <;> rfl)) (Zaq (by (repeat' first | exact List.forall_mem_nil _ | refine List.forall_mem_cons.mpr ⟨?_,?_⟩) <;> first | (intro h; exact ⟨_,rfl⟩) | (intro h; exact absurd h (by decide)))) (fun _=>by (repeat' first | exact List.forall_mem_nil _ | refine List.forall_mem_cons.mpr ⟨?_,?_⟩) <;> exact ⟨rfl,rfl,Or.inl rfl⟩) (fun _=>rfl) rfl)
  (Zd (Z8 (cl:=_) (n0:=7) ZK.nd rfl (Or.inl rfl) ["end"] [("numbers",4)] (ZaO (Zr Zx (pv 0) Ze (fun _ _=>rfl))) (fun _ _ _ _=>(Zj (i:=0) (show List.Nodup (["end","numbers"]:List Str) by decide) rfl (Or.inl rfl))) (fun _ _ _ _=>(Zbz (Zce hu1 (pv 0) (pv 1)))) (fun _ _ _ _=>(ZcQ hu1 (pv 1) (pv 0) (fun _ _=>rfl))) rfl rfl (by decide) rfl (by decide) (ZaM (by (repeat' first | exact List.forall_mem_nil _ | refine List.forall_mem_cons.mpr ⟨?_,?_⟩) <;> rfl)) (Zaq (by (repeat' first | exact List.forall_mem_nil _ | refine List.forall_mem_cons.mpr ⟨?_,?_⟩) <;> first | (intro h; exact ⟨_,rfl⟩) | (intro h; exact absurd h (by decide)))) (fun _=>by (repeat' first | exact List.forall_mem_nil _ | refine List.forall_mem_cons.mpr ⟨?_,?_⟩) <;> exact ⟨rfl,rfl,Or.inl rfl⟩) (fun _=>rfl) rfl)
  (Zd (Zn (i:=8) ZK.nd rfl (Or.inl rfl) (ZbJ Zc))
  (Zd (ZaD PassesOwn.never rfl (ZbB (pv 2)) (Zfd rfl (Z0 (Zj (i:=5) ZK.nd rfl (Or.inl rfl)) (Z0 (Zj (i:=9) ZK.nd rfl (Or.inl rfl)) (Z0 (Zj (i:=10) ZK.nd rfl (Or.inl rfl)) (Z0 (Zj (i:=11) ZK.nd rfl (Or.inl rfl)) Zdz)))))
   (Zf (ZaK (Zbz (Zce hu1 (pv 5) (pv 4)))
     (Zf (Zar (Zba PySem.F.plainAttrs_list PySem.F.slot_list_append PySem.F.type_list_append ZP (pv 8) (Za (Z1 (Za (ZcQ hu1 (pv 4) (pv 5) (fun _ _=>rfl)) (Za (pv 9) (Za (ZcQ hu1 (pv 4) (pv 10) (fun _ _=>rfl)) (Za (ZcQ hu1 (pv 4) (pv 11) (fun _ _=>rfl)) Zc))))) Zc))))
     Z6)))
  (Zf (ZQ (Zw g_sorted_form hr rfl (Za (Zt Zed rfl (B "len" (by decide)) PySem.boot_len (Za (pv 4) Zc)) (Za (pv 6) (Za (pv 7) (Za (pv 8) Zc))))))))))))),?_⟩
 rintro σ0 H0 ⟨d1,pr,d2,A,S,mS,zs,rfl,s0,hAm,ep,hQ,eS,kS,hSl,hSm⟩
 refine fun d3 hd3=>?_
 have s1:Zh H0 (upd H0 d3 (.dK [])):=Zh.new hd3
 have x1:(upd H0 d3 (.dK [])) d3 = some (.dK []):=Zb
 have hd30:=s0.free hd3
 generalize upd H0 d3 (.dK []) = H1 at s1 x1 ⊢
 refine ⟨_,rfl,d2,mS,S,rfl,s1 _ _ eS,by rw [Zbl kS]; lia,kS,fun pk kp hpk hperm hrise=>?_⟩
 have hkm:∀ x,x ∈ kp ↔ RcL (hsA fm A) (qsA fm A) x:=fun x=>hperm.mem_iff.trans (hSm x)
 have K0:Kp fm kp:=⟨hrise,A,hAm,hkm⟩
 have hkl:kp.length <= N:=Ziy hrise fun x hx=>Zk5 (fun x hx=>hN ▸ ok.hb x (List.mem_filter.mp hx).1) (fun x hx=>hN ▸ ok.qb x (List.mem_filter.mp hx).1) ((hkm x).mp hx)
 have npk:d3 ≠ pk:=Zo x1 hpk
 have s2:Zh H1 (upd H1 pk (.lst (kp.map V.int))):=Zh.new hpk
 have x2:(upd H1 pk (.lst (kp.map V.int))) pk = some (.lst (kp.map V.int)):=Zb
 have s02:=s0.trans (s1.trans s2)
 refine ⟨pk,rfl,⟨_,SqL.of x2⟩,ZdG (K:=K) (a:=pk) (xs:=kp.map V.int) (fun i σ H2=>∃ v5:Option V,σ = [some (.ref a),some (.ref d1),some (.ref pr),some (.ref d2),some (.ref d3),v5,none,none,none,none,none,none] /\ Zh H H2 /\ H2 pk = some (.lst (kp.map V.int)) /\ H2 pr = some (.lst zs) /\ QL H2 zs (qsA fm A) /\ H2 d3 = some (.dK (kvK kp i)))
  ⟨none,rfl,s02,x2,s2 _ _ (s1 _ _ ep),hQ.keep fun b xs e=>s2 _ _ (s1 _ _ e),s2 _ _ x1⟩ ?_ ?_ ?_⟩
 ·rintro i σ H2 _ ⟨_,_,_,h,_⟩
  exact SqL.of h
 ·rintro i x σ H2 hx ⟨v5,rfl,sm,h1,h2,h3,h4⟩
  rw [List.getElem?_map] at hx
  obtain ⟨y,hy,rfl⟩:=Option.map_eq_some_iff.mp hx
  have hil:=(List.getElem?_eq_some_iff.mp hy).1
  have hl:(kvK kp i).length = i:=by
   unfold kvK
   rw [List.length_map,List.length_take]
   lia
  have npr:pr ≠ d3:=fun z=>by rw [z,h4] at h2; cases h2
  refine ⟨_,rfl,d3,_,rfl,h4,_,rfl,_,rfl,d3,_,rfl,ZiH.k (k:=Sum.inl y) h4 (Zi (by lia)),?_⟩
  rw [hl,Zjx hrise hy]
  refine ⟨_,rfl,sm.upd_new hd30,?_,?_,h3.keep fun b xs e=>?_,Zb⟩
  ·rw [Zk npk.symm]
   exact h1
  ·rw [Zk npr]
   exact h2
  ·rw [Zk (fun z=>by rw [z,h4] at e; cases e)]
   exact e
 rintro σ H2 ⟨v5,rfl,t2,_,y1,y2,y3⟩
 rw [List.length_map] at y3
 have hkk:(kvK kp kp.length).map (·.1) = kp.map Sum.inl:=by
  have:=Zft kp kp.length
  rw [List.take_length] at this
  exact this
 have hget:∀ {H':Hp} {x:Int},H' d3 = some (.dK (kvK kp kp.length)) -> x ∈ kp -> Zds H' d3 (V.int x) (some (.int (ixI kp x))):=fun {H' x} h hx=>by
  have h1:=Zds.k (k:=Sum.inl x) h
  have h2:ZeX (kvK kp kp.length) (Sum.inl x) = some (.int (ixI kp x)):=by
   unfold kvK
   rw [List.take_length]
   exact Zd0 (g:=fun y=>V.int (ixI kp y)) hx
  rw [h2] at h1
  exact h1
 refine ⟨_,rfl,a,_,1,_,rfl,rfl,SqT.of (t2 _ _ a1),rfl,f1,rfl,⟨_,SqT.of (t2 _ _ a2)⟩,fun ps hps=>Zap (K:=K) (a:=f1) (p:=ps) (xs:=fm.hs.map V.int) (fun i us σ H3=>∃ v0:Option V,σ = [v0,some (.ref d3)] /\ Zh H2 H3 /\ H3 ps = some (.lst us) /\ us = (((fm.hs.take i).filter fun x=>decide (x ∈ kp)).map (ixI kp)).map V.int)
  ⟨none,rfl,Zh.new hps,Zb,rfl⟩ ?_ ?_ ?_⟩
 ·rintro i us σ H3 _ ⟨v0,_,sm,h,_⟩
  exact ⟨SqT.of (sm _ _ (t2 _ _ a2)),h⟩
 ·rintro i us x σ H3 hi hx ⟨v0,rfl,sm,h,rfl⟩
  rw [List.getElem?_map] at hx
  obtain ⟨y,hy,rfl⟩:=Option.map_eq_some_iff.mp hx
  have hfs:=ZaA (P:=fun x:Int=>decide (x ∈ kp)) hy
  have hd':=sm _ _ y3
  refine ⟨_,rfl,_,rfl,d3,_,rfl,Zds.k (k:=Sum.inl y) hd',_,rfl,?_⟩
  rw [DI.has hkk]
  by_cases k1:y ∈ kp
  ·rw [decide_eq_true k1]
   refine Zcj ⟨_,rfl,_,rfl,d3,_,rfl,hget hd' k1,h,Zi (by rw [List.length_map,List.length_map]; exact Nat.le_trans (List.length_filter_le ..) (by rw [List.length_take]; lia)),CW.next hi ⟨_,rfl,sm.upd_new hps,Zb,?_⟩⟩
   rw [hfs,if_pos (decide_eq_true k1),List.map_append,List.map_append]
   rfl
  ·rw [decide_eq_false k1]
   refine Za3 (CW.next hi ⟨_,rfl,sm,h,?_⟩)
   rw [hfs,if_neg (by rw [decide_eq_false k1]; decide),List.append_nil]
 rintro us σ H3 ⟨v0,rfl,s3,e3,rfl⟩
 rw [List.length_map,List.take_length] at e3
 have t3:=t2.trans s3
 refine ⟨_,rfl,a,_,2,_,rfl,rfl,SqT.of (t3 _ _ a1),rfl,f2,rfl,⟨_,SqT.of (t3 _ _ a3)⟩,fun pt hpt=>Zap (K:=K) (a:=f2) (p:=pt) (xs:=fm.ts.map V.int) (fun i us σ H4=>∃ v0:Option V,σ = [v0,some (.ref d3)] /\ Zh H3 H4 /\ H4 pt = some (.lst us) /\ us = (((fm.ts.take i).filter fun x=>decide (x ∈ kp)).map (ixI kp)).map V.int)
  ⟨none,rfl,Zh.new hpt,Zb,rfl⟩ ?_ ?_ ?_⟩
 ·rintro i us σ H4 _ ⟨v0,_,sm,h,_⟩
  exact ⟨SqT.of (sm _ _ (t3 _ _ a3)),h⟩
 ·rintro i us x σ H4 hi hx ⟨v0,rfl,sm,h,rfl⟩
  rw [List.getElem?_map] at hx
  obtain ⟨y,hy,rfl⟩:=Option.map_eq_some_iff.mp hx
  have hfs:=ZaA (P:=fun x:Int=>decide (x ∈ kp)) hy
  have hd':=sm _ _ (s3 _ _ y3)
  refine ⟨_,rfl,_,rfl,d3,_,rfl,Zds.k (k:=Sum.inl y) hd',_,rfl,?_⟩
  rw [DI.has hkk]
  by_cases k1:y ∈ kp
  ·rw [decide_eq_true k1]
   refine Zcj ⟨_,rfl,_,rfl,d3,_,rfl,hget hd' k1,h,Zi (by rw [List.length_map,List.length_map]; exact Nat.le_trans (List.length_filter_le ..) (by rw [List.length_take]; lia)),CW.next hi ⟨_,rfl,sm.upd_new hpt,Zb,?_⟩⟩
   rw [hfs,if_pos (decide_eq_true k1),List.map_append,List.map_append]
   rfl
  ·rw [decide_eq_false k1]
   refine Za3 (CW.next hi ⟨_,rfl,sm,h,?_⟩)
   rw [hfs,if_neg (by rw [decide_eq_false k1]; decide),List.append_nil]
 rintro us σ H4 ⟨v0,rfl,s4,e4,rfl⟩
 rw [List.length_map,List.take_length] at e4
 have t4:=t3.trans s4
 refine ⟨by decide,fun pn hpn=>?_⟩
 have s5:Zh H4 (upd H4 pn (.lst [])):=Zh.new hpn
 have x5:(upd H4 pn (.lst [])) pn = some (.lst []):=Zb
 have hpn0:=t4.free hpn
 have n1:ps ≠ pn:=Zo (s4 _ _ e3) hpn
 have n2:pt ≠ pn:=Zo e4 hpn
 have n3:d3 ≠ pn:=Zo (s4 _ _ (s3 _ _ y3)) hpn
 have n4:pr ≠ pn:=Zo (s4 _ _ (s3 _ _ y1)) hpn
 have s25:=(s3.trans s4).trans s5
 have hzl:=y2.length
 refine ⟨_,rfl,pr,rfl,⟨_,SqL.of (s25 _ _ y1)⟩,ZdG (K:=K) (a:=pr) (xs:=zs) (fun i σ H6=>∃ (w5 w9 w10 w11:Option V) (ns:List V),σ = [some (.ref a),some (.ref d1),some (.ref pr),some (.ref d2),some (.ref d3),w5,some (.ref ps),some (.ref pt),some (.ref pn),w9,w10,w11] /\ Zh H H6 /\ H6 pr = some (.lst zs) /\ H6 d3 = some (.dK (kvK kp kp.length)) /\ H6 ps = some (.lst (((fm.hs.filter fun x=>decide (x ∈ kp)).map (ixI kp)).map V.int)) /\ H6 pt = some (.lst (((fm.ts.filter fun x=>decide (x ∈ kp)).map (ixI kp)).map V.int)) /\ QL H6 zs (qsA fm A) /\ H6 pn = some (.lst ns) /\ QL H6 ns ((((qsA fm A).take i).filter fun q=>decide (q.1 ∈ kp)).map (ixQ kp)))
  ⟨_,none,none,none,[],rfl,t4.trans s5,s25 _ _ y1,s25 _ _ y3,s5 _ _ (s4 _ _ e3),s5 _ _ e4,y2.keep fun b xs e=>s25 _ _ e,x5,.nil⟩ ?_ ?_ ?_⟩
 ·rintro i σ H6 _ ⟨_,_,_,_,_,_,_,h,_⟩
  exact SqL.of h
 ·rintro i x σ H6 hx ⟨w5,w9,w10,w11,ns,rfl,sm,h1,h2,h3,h4,h5,h6,h7⟩
  obtain ⟨p,q1,e1,rfl,e2⟩:=h5.get i x hx
  have hqm:q1 ∈ qsA fm A:=List.mem_of_getElem? e1
  have hfs:=ZaA (P:=fun q:Srd.Qd=>decide (q.1 ∈ kp)) e1
  refine ⟨p,_,rfl,SqT.of e2,rfl,_,_,rfl,_,_,rfl,_,_,rfl,_,_,rfl,rfl,?_⟩
  refine ⟨_,rfl,_,rfl,d3,_,rfl,Zds.k (k:=Sum.inl q1.1) h2,_,rfl,?_⟩
  rw [DI.has hkk]
  by_cases k1:q1.1 ∈ kp
  ·rw [decide_eq_true k1]
   have kin:q1.2.2.1 ∈ kp:=(hkm _).mpr (.i hqm ((hkm _).mp k1))
   have kre:q1.2.2.2 ∈ kp:=(hkm _).mpr (.o hqm ((hkm _).mp k1))
   refine Zcj ⟨_,rfl,.inl ⟨rfl,_,SqL.of h6⟩,_,rfl,_,rfl,d3,_,rfl,hget h2 k1,_,rfl,_,rfl,_,rfl,d3,_,rfl,hget h2 kin,_,rfl,_,rfl,d3,_,rfl,hget h2 kre,by show (4:Nat) <= sizeLine; decide,fun t ht=>?_⟩
   have s7:Zh H6 (upd H6 t (tq (ixQ kp q1))):=Zh.new ht
   have hnl:ns.length <= 130:=by
    rw [h7.length,List.length_map]
    refine Nat.le_trans (List.length_filter_le ..) ?_
    rw [List.length_take]
    refine Nat.le_trans (Nat.min_le_right ..) (Nat.le_trans (List.length_filter_le ..) fql)
   refine ⟨pn,_,_,rfl,rfl,s7 _ _ h6,Zi (by lia),?_⟩
   refine ⟨_,_,_,_,_,rfl,(sm.trans s7).upd_new hpn0,by rw [Zk n4]; exact s7 _ _ h1,by rw [Zk n3]; exact s7 _ _ h2,by rw [Zk n1]; exact s7 _ _ h3,by rw [Zk n2]; exact s7 _ _ h4,(h5.keep fun b xs e=>s7 _ _ e).keep (Zat (s7 _ _ h6)),Zb,?_⟩
   rw [hfs,if_pos (decide_eq_true k1),List.map_append]
   have hz2:QL (upd H6 t (tq (ixQ kp q1))) (ns ++ [.ref t]) ((((qsA fm A).take i).filter fun q=>decide (q.1 ∈ kp)).map (ixQ kp) ++ [ixQ kp q1]):=QL.snoc Zb (h7.keep fun b xs e=>s7 _ _ e)
   exact hz2.keep (Zat (s7 _ _ h6))
  ·rw [decide_eq_false k1]
   refine Za3 ⟨_,_,_,_,ns,rfl,sm,h1,h2,h3,h4,h5,h6,?_⟩
   rw [hfs,if_neg (by rw [decide_eq_false k1]; decide),List.append_nil]
   exact h7
 rintro σ H6 ⟨w5,w9,w10,w11,ns,rfl,sm,h1,h2,h3,h4,h5,h6,h7⟩
 rw [hzl,List.take_length,Zkh hAm hkm hrise] at h7
 have l1:((fm.hs.filter fun x=>decide (x ∈ kp)).map (ixI kp)).length <= 900:=by
  rw [List.length_map]
  exact Nat.le_trans (List.length_filter_le ..) (by lia)
 have l2:((fm.ts.filter fun x=>decide (x ∈ kp)).map (ixI kp)).length <= 900:=by
  rw [List.length_map]
  exact Nat.le_trans (List.length_filter_le ..) (by lia)
 have l3:((fm.qs.filter (inQ kp)).map (ixQ kp)).length <= 130:=by
  rw [List.length_map]
  exact Nat.le_trans (List.length_filter_le ..) fql
 have hkl2:(kvK kp kp.length).length = kp.length:=by
  unfold kvK
  rw [List.length_map,List.take_length]
 refine ⟨_,rfl,d3,_,rfl,h2,_,rfl,_,rfl,_,rfl,((kvK kp kp.length).length:Int),ps,pt,pn,_,_,ns,_,rfl,SqL.of h3,l1,SqL.of h4,l2,SqL.of h6,h7,by lia,by rw [hkl2]; lia,fun ms hms hsub=>?_,fun r g H' s9 hf e1 e2 e3 e4 e5 e6 e7=>?_⟩
 ·exact Nat.le_trans (Za6 (ZcU hms) hsub) (by lia)
 ·refine q r kp H' (sm.trans s9) K0 ?_
  have eg:g = trF fm kp:=by
   obtain ⟨gn,g1,g2,g3⟩:=g
   have b1:gn = (kp.length:Int):=by rw [<- hkl2]; exact e1
   have b2:g1 = (fm.hs.filter fun x=>decide (x ∈ kp)).map (ixI kp):=Zdi e2 (ZeQ hrise ok.hs) e3
   have b3:g2 = (fm.ts.filter fun x=>decide (x ∈ kp)).map (ixI kp):=Zdi e4 (ZeQ hrise ok.ts) e5
   have b4:g3 = (fm.qs.filter (inQ kp)).map (ixQ kp):=Srd.Zdl.one e6 (Ziq hrise ok.qs) e7
   rw [b1,b2,b3,b4]
   rfl
  rw [<- eg]
  exact hf
abbrev Bs:=List Bool
def tB (bs:Bs) (x:Int):Bool:=bs.getD x.toNat false
theorem Ze6 {bs:Bs} {x y:Int} (hx:x.toNat < bs.length) (h0:0 <= x) (h1:0 <= y):tB (bs.set x.toNat true) y = if x = y then true else tB bs y:=by
 unfold tB
 rw [List.getD_eq_getElem?_getD,List.getD_eq_getElem?_getD,List.getElem?_set]
 by_cases e:x = y
 ·subst e
  rw [if_pos rfl,if_pos rfl,if_pos hx]
  rfl
 ·rw [if_neg e,if_neg (fun z=>e (by lia))]
theorem ZdD {bs:Bs} {x:Int} (h0:0 <= x) (h:x.toNat < bs.length):atI (bs.map V.bl) x = some (.bl (tB bs x)):=by
 have e:x = ((x.toNat:Nat):Int):=(Int.toNat_of_nonneg h0).symm
 rw [e]
 refine ZV ?_
 rw [List.getElem?_map,<- e]
 unfold tB
 rw [List.getD_eq_getElem?_getD,List.getElem?_eq_getElem h]
 rfl
theorem Zhd {n:Nat} {x:Int} (h0:0 <= x) (h:x.toNat < n):ixN n x = some x.toNat:=by
 have e:x = ((x.toNat:Nat):Int):=(Int.toNat_of_nonneg h0).symm
 have:=ZiY h
 rw [<- e] at this
 exact this
theorem set_same {bs:Bs} {x:Int} (h:tB bs x = true):bs.set x.toNat true = bs:=by
 refine List.ext_getElem? fun j=>?_
 rw [List.getElem?_set]
 split
 ·rename_i e
  subst e
  unfold tB at h
  rw [List.getD_eq_getElem?_getD] at h
  cases hj:bs[x.toNat]? with
  | none=>rw [hj] at h; cases h
  | some b =>
   rw [hj] at h
   have:b = true:=h
   rw [if_pos (List.getElem?_eq_some_iff.mp hj).1,this]
 ·rfl
def Zcn (bs:Bs):Nat:=(bs.map fun b=>if b = true then 1 else 0).sum
theorem ZcM:∀ {bs:Bs} {k:Nat},k < bs.length -> Zcn (bs.set k true) + (if bs.getD k false = true then 1 else 0) = Zcn bs + 1
 | [],_,h=>absurd h (Nat.not_lt_zero _)
 | b :: bs,0,_=>by
  show (1 + (bs.map fun b=>if b = true then 1 else 0).sum) + (if b = true then 1 else 0) = ((if b = true then 1 else 0) + (bs.map fun b=>if b = true then 1 else 0).sum) + 1
  lia
 | b :: bs,k + 1,h=>by
  have ih:=ZcM (bs:=bs) (Nat.lt_of_succ_lt_succ h)
  show ((if b = true then 1 else 0) + Zcn (bs.set k true)) + (if bs.getD k false = true then 1 else 0) = ((if b = true then 1 else 0) + Zcn bs) + 1
  lia
theorem ZiR {bs:Bs} {x:Int} (hx:x.toNat < bs.length):Zcn bs <= Zcn (bs.set x.toNat true):=by
 have:=ZcM hx
 split at this <;> lia
theorem ZeW {bs:Bs} {x:Int} (hx:x.toNat < bs.length) (h : ¬ tB bs x = true):Zcn bs + 1 <= Zcn (bs.set x.toNat true):=by
 have:=ZcM hx
 rw [if_neg (show ¬ bs.getD x.toNat false = true from h)] at this
 lia
theorem Zgj:∀ bs:Bs,Zcn bs <= bs.length
 | []=>Nat.le_refl _
 | b :: bs=>by
  have:=Zgj bs
  show (if b = true then 1 else 0) + Zcn bs <= bs.length + 1
  split <;> lia
theorem Zcs:∀ {bs:Bs},bs.length <= Zcn bs -> ∀ k,k < bs.length -> bs.getD k false = true
 | [],_,_,hk=>absurd hk (Nat.not_lt_zero _)
 | b :: bs,h,k,hk=>by
  have h1:=Zgj bs
  have h2:bs.length + 1 <= (if b = true then 1 else 0) + Zcn bs:=h
  cases b with
  | false=>rw [if_neg (by decide)] at h2; lia
  | true =>
   rw [if_pos rfl] at h2
   cases k with
   | zero=>rfl
   | succ k=>exact Zcs (bs:=bs) (by lia) k (Nat.lt_of_succ_lt_succ hk)
theorem Zct {n:Nat} {P:Nat -> Bool} {x:Int} (h0:0 <= x):tB ((List.range n).map P) x = true ↔ x < (n:Int) /\ P x.toNat = true:=by
 unfold tB
 rw [List.getD_eq_getElem?_getD,List.getElem?_map]
 by_cases hk:x.toNat < n
 ·rw [List.getElem?_range hk]
  show P x.toNat = true ↔ _
  exact ⟨fun h=>⟨by lia,h⟩,fun h=>h.2⟩
 ·rw [List.getElem?_eq_none (by rw [List.length_range]; lia)]
  constructor
  ·intro z; cases z
  ·intro z; exact absurd z.1 (by lia)
def Zkz (f:FQ) (gs:Bs):Prop:=(gs.length:Int) = f.n /\ ∀ x,0 <= x -> (tB gs x = true ↔ LvQ f x)
theorem LvQ.b {f:FQ} {N:Int} {M:Nat} (ok:Okk N M f) {x:Int} (h:LvQ f x):0 <= x /\ x < f.n:=by
 cases h with
 | e h=>exact ok.tb _ h
 | r h _ _=>exact (ok.qb _ h).1
def ZeO (qs:List Srd.Qd) (bs:Bs):Prop := ∀ q ∈ qs,tB bs q.2.2.1 = true -> tB bs q.2.2.2 = true -> tB bs q.1 = true
theorem Zgz {f:FQ} {bs:Bs} (h1:∀ e ∈ f.ts,tB bs e = true) (h2:ZeO f.qs bs) {x:Int} (h:LvQ f x):tB bs x = true:=by
 induction h with
 | e h=>exact h1 _ h
 | r h _ _ i1 i2=>exact h2 _ h i1 i2
def Zeu (K:PySem.W.Frag):Sp:=fun vs H Q _=>∃ (a:Addr) (f:FQ),vs = [.ref a] /\ FmQ H a f /\ Okk 64 130 f /\ ∀ (r:Addr) (gs:Bs) (H':Hp),Zh H H' -> H r = none -> H' r = some (.lst (gs.map V.bl)) -> Zkz f gs -> Q (.ref r) H'
set_option maxHeartbeats 2000000 in
theorem Zhv (B:∀ x ∈ ZcY,mg x = none) (F:Fun K "_law_live" "_law_live" Zbp f fd):FnOk P w K mg base CX0 1 f fd ["_law_one"] (Zeu K):=by
 refine F.ok ZbY (fun vs H Q E h=>?_) (fun cdv A outer s H vs Q E hr h=>?_)
 ·obtain ⟨a,fm,rfl,_⟩:=h
  rfl
 obtain ⟨a,fm,rfl,hF,ok,q⟩:=h
 obtain ⟨f1,f2,f3,zf,a1,a2,a3,a4,a5⟩:=id hF
 have n0:=ok.n0
 have n64:=ok.n8
 have zfl:=a5.length
 obtain ⟨N,hN⟩:∃ N:Nat,fm.n = (N:Int):=⟨fm.n.toNat,(Int.toNat_of_nonneg n0).symm⟩
 have hNt:fm.n.toNat = N:=by rw [hN]; rfl
 refine ⟨_,(Zd (ZbG (cl:=_) (n0:=1) ZbY.nd rfl (Or.inl rfl) ["_law_kind"] [("_law_one",0)] (Z4 rfl (B "range" (by decide)) (Za (Zr Zx (pv 0) Ze (fun _ _=>rfl)) Zc)) (fun _ _ _ _=>(Zj (i:=0) (show List.Nodup (["_law_kind","_law_one"]:List Str) by decide) rfl (Or.inl rfl))) (fun _ _ _ _=>(ZbI (Zaw (K:=K) rfl) (pv 0) (Zr (Zbb (K:=K) rfl) (pv 1) Ze (fun _ _=>rfl)) (by with_unfolding_all rfl))) rfl rfl (by decide) rfl (by decide) (ZaM (by (repeat' first | exact List.forall_mem_nil _ | refine List.forall_mem_cons.mpr ⟨?_,?_⟩) <;> rfl)) (Zaq (by (repeat' first | exact List.forall_mem_nil _ | refine List.forall_mem_cons.mpr ⟨?_,?_⟩) <;> first | (intro h; exact ⟨_,rfl⟩) | (intro h; exact absurd h (by decide)))) (fun _=>by (repeat' first | exact List.forall_mem_nil _ | refine List.forall_mem_cons.mpr ⟨?_,?_⟩) <;> exact ⟨rfl,rfl,Or.inl rfl⟩) (fun _=>rfl) rfl)
  (Zd (ZaD PassesOwn.never rfl (Z4 rfl (B "range" (by decide)) (Za (Zr Zx (pv 0) Ze (fun _ _=>rfl)) Zc)) (Zj (i:=2) ZbY.nd rfl (Or.inl rfl))
   (Zf (ZaD PassesOwn.never rfl (ZaO (Zr Zx (pv 0) Ze (fun _ _=>rfl))) (Zj (i:=3) ZbY.nd rfl (Or.inl rfl))
     (Zf (ZaK (PW.pt (ZaZ (ZR (Zr ZW (pv 1) (Zr Zx (pv 3) Ze (fun _ _=>rfl)) (fun _ _=>rfl)) (fun _=>rfl)) (Za9 (ZR (Zr ZW (pv 1) (Zr Zx (pv 3) Ze (fun _ _=>rfl)) (fun _ _=>rfl)) (fun _=>rfl)))))
       (Zf (Ze7 Zbf (Zfx (pv 1) (Zr Zx (pv 3) Ze (fun _ _=>rfl)) set_list)))
       Z6)))))
  (Zf (ZQ (pv 1))))),?_⟩
 refine ⟨_,rfl,a,_,0,_,rfl,rfl,SqT.of a1,rfl,fm.n,rfl,by lia,by lia,fun pb hpb=>?_⟩
 refine ZaS (lo:=0) (n:=fm.n.toNat) (p:=pb) (fun i ys σ H2=>∃ (v0:Option V),σ = [v0,some (.ref a)] /\ Zh H H2 /\ H2 pb = some (.lst ys) /\ ys = ((List.range i).map fun k:Nat=>decide ((k:Int) ∈ fm.ts)).map V.bl)
  ⟨none,rfl,Zh.new hpb,Zb,rfl⟩ ?_ ?_ ?_
 ·rintro i ys σ H2 _ ⟨v0,_,_,h,_⟩
  exact h
 ·rintro i ys σ H2 hi ⟨v0,rfl,sm,hp,rfl⟩
  refine ⟨_,rfl,_,rfl,a,_,2,_,rfl,rfl,SqT.of (sm _ _ a1),rfl,f2,_,rfl,.inr (SqT.of (sm _ _ a3)),rfl,ZaC _,hp,?_,CW.next hi ⟨_,rfl,sm.upd_new hpb,Zb,?_⟩⟩
  ·rw [List.length_map,List.length_map,List.length_range]
   exact Zi (by lia)
  ·have e:inV (V.int (0 + (i:Int))) (fm.ts.map V.int) = decide ((i:Int) ∈ fm.ts):=by
    rw [show (0:Int) + (i:Int) = (i:Int) by lia]
    exact ZaN
   show _ ++ [V.bl (inV (V.int (0 + (i:Int))) (fm.ts.map V.int))] = _
   rw [e,List.range_succ,List.map_append,List.map_append]
   rfl
 rintro ys σ H2 ⟨v0,rfl,s2,hp,rfl⟩
 rw [hNt] at hp
 refine ⟨_,rfl,a,_,0,_,rfl,rfl,SqT.of (s2 _ _ a1),rfl,fm.n,rfl,by lia,by lia,Zay (lo:=0) (n:=fm.n.toNat) (fun k σ H3=>∃ (v2 v3:Option V) (bs:Bs),σ = [some (.ref a),some (.ref pb),v2,v3] /\ Zh H H3 /\ H3 pb = some (.lst (bs.map V.bl)) /\ bs.length = N /\ (∀ e ∈ fm.ts,tB bs e = true) /\ (∀ x,0 <= x -> tB bs x = true -> LvQ fm x) /\ (ZeO fm.qs bs \/ k <= Zcn bs))
  ⟨_,_,_,rfl,s2,hp,by rw [List.length_map,List.length_range],fun e he=>?_,fun x h0 hx=>?_,.inr (Nat.zero_le _)⟩ ?_ ?_⟩
 ·have b:=ok.tb e he
  exact (Zct b.1).mpr ⟨by lia,by rw [Int.toNat_of_nonneg b.1]; exact decide_eq_true he⟩
 ·have h1:=((Zct h0).mp hx).2
  rw [Int.toNat_of_nonneg h0] at h1
  exact .e (of_decide_eq_true h1)
 ·rintro k σ H3 hk ⟨v2,v3,b0,rfl,sm,e3,hl,hts,hsd,hor⟩
  refine ⟨_,rfl,a,_,3,_,rfl,rfl,SqT.of (sm _ _ a1),rfl,f3,rfl,⟨_,SqT.of (sm _ _ a4)⟩,Zdp (K:=K) (a:=f3) (xs:=zf) (fun j σ H4=>∃ (v3:Option V) (bs:Bs),σ = [some (.ref a),some (.ref pb),some (.int (0 + (k:Int))),v3] /\ Zh H H4 /\ H4 pb = some (.lst (bs.map V.bl)) /\ bs.length = N /\ (∀ e ∈ fm.ts,tB bs e = true) /\ (∀ x,0 <= x -> tB bs x = true -> LvQ fm x) /\ ((bs = b0 /\ ZeO (fm.qs.take j) b0) \/ (¬ ZeO fm.qs b0 /\ Zcn b0 + 1 <= Zcn bs)))
   ⟨_,b0,rfl,sm,e3,hl,hts,hsd,.inl ⟨rfl,fun _ h=>nomatch h⟩⟩ ?_ ?_ ?_⟩
  ·rintro j σ H4 _ ⟨_,_,_,sm,_⟩
   exact SqT.of (sm _ _ a4)
  ·rintro j x σ H4 hj ⟨v3,bs,rfl,sm,e4,hl4,hts4,hsd4,hor4⟩
   obtain ⟨pq,q1,hq1,rfl,eq1⟩:=a5.get j x hj
   have hqm:q1 ∈ fm.qs:=List.mem_of_getElem? hq1
   obtain ⟨⟨b1,b1'⟩,⟨b2,b2'⟩,b3,b3'⟩:=ok.qb q1 hqm
   have hq4:=sm _ _ eq1
   rw [ZJ hq1]
   have no:(tB bs q1.2.2.1 = true -> tB bs q1.2.2.2 = true -> tB bs q1.1 = true) -> ((bs = b0 /\ ZeO (fm.qs.take j ++ [q1]) b0) \/ (¬ ZeO fm.qs b0 /\ Zcn b0 + 1 <= Zcn bs)):=fun hc=>by
    rcases hor4 with ⟨rfl,h⟩ | h
    ·refine .inl ⟨rfl,fun z hz=>?_⟩
     rcases List.mem_append.mp hz with hz | hz
     ·exact h z hz
     ·rw [List.mem_singleton.mp hz]
      exact hc
    ·exact .inr h
   refine ⟨_,rfl,_,rfl,pq,_,2,_,rfl,rfl,SqT.of hq4,rfl,pb,_,_,_,rfl,rfl,SqL.of e4,ZdD b2 (by lia),tB bs q1.2.2.1,rfl,ZbE (fun c1=>?_) (fun c1=>Za3 ⟨_,bs,rfl,sm,e4,hl4,hts4,hsd4,no fun z=>absurd z c1⟩)⟩
   refine ⟨_,rfl,_,rfl,pq,_,3,_,rfl,rfl,SqT.of hq4,rfl,pb,_,_,_,rfl,rfl,SqL.of e4,ZdD b3 (by lia),tB bs q1.2.2.2,rfl,ZbE (fun c2=>?_) (fun c2=>⟨_,bs,rfl,sm,e4,hl4,hts4,hsd4,no fun _ z=>absurd z c2⟩)⟩
   have hi1:q1.1.toNat < bs.length:=by lia
   refine ⟨_,rfl,_,rfl,pq,_,0,_,rfl,rfl,SqT.of hq4,rfl,pb,_,_,_,rfl,rfl,e4,Zhd b1 (by rw [List.length_map]; exact hi1),?_⟩
   refine ⟨_,bs.set q1.1.toNat true,rfl,sm.upd_new hpb,by rw [Zb,List.map_set],by rw [List.length_set]; exact hl4,fun e he=>?_,fun x h0 hx=>?_,?_⟩
   ·rw [Ze6 hi1 b1 (ok.tb e he).1]
    split
    ·rfl
    ·exact hts4 e he
   ·rw [Ze6 hi1 b1 h0] at hx
    split at hx
    ·rename_i e
     rw [<- e]
     exact .r hqm (hsd4 _ b2 c1) (hsd4 _ b3 c2)
    ·exact hsd4 x h0 hx
   ·by_cases c3:tB bs q1.1 = true
    ·rw [set_same c3]
     exact no fun _ _=>c3
    ·right
     have h1:=ZeW hi1 c3
     rcases hor4 with ⟨rfl,h⟩ | ⟨h,h2⟩
     ·exact ⟨fun z=>c3 (z q1 hqm c1 c2),h1⟩
     ·exact ⟨h,by lia⟩
  ·rintro σ H4 ⟨v3,bs,rfl,sm4,e4,hl4,hts4,hsd4,hor4⟩
   rw [zfl,List.take_length] at hor4
   refine ⟨_,_,bs,rfl,sm4,e4,hl4,hts4,hsd4,?_⟩
   rcases hor4 with ⟨rfl,h⟩ | ⟨h,h2⟩
   ·exact .inl h
   ·rcases hor with z | z
    ·exact absurd z h
    ·exact .inr (by lia)
 ·rintro σ H3 ⟨v2,v3,bs,rfl,sm,e3,hl,hts,hsd,hor⟩
  have hshut:ZeO fm.qs bs:=by
   rcases hor with h | h
   ·exact h
   ·intro z hz _ _
    have b:=(ok.qb z hz).1
    exact Zcs (by rw [hl]; lia) _ (by lia)
  exact ⟨_,rfl,q pb bs H3 sm hpb e3 ⟨by rw [hl,hN],fun x h0=>⟨hsd x h0,fun h=>Zgz hts hshut h⟩⟩⟩
theorem Zdn {lo:Int} {n:Nat} {p:Addr} {g:TG} {tt:TT} {te:TE} {R:Hp -> Prop} {σ0:St} {H0:Hp} (Pv:Nat -> List V -> St -> Hp -> Prop) (h0:Pv 0 [] σ0 H0)
  (hl:∀ i ys σ H,i <= n -> Pv i ys σ H -> H p = some (.lst ys))
  (hs:∀ i ys σ H,i < n -> Pv i ys σ H -> g (.int (lo + i)) σ H fun σ3 H4=>tt σ3 H4 fun b H4'=>if b = true then te σ3 H4' fun v H5=>H5 p = some (.lst ys) /\ ys.length < sizeLine /\ ∃ m',m' < n - i /\ CW n Pv (i + 1) m' (ys ++ [v]) σ3 (upd H5 p (.lst (ys ++ [v])))
   else ∃ m',m' < n - i /\ CW n Pv (i + 1) m' ys σ3 H4')
  (hd:∀ ys σ H,Pv n ys σ H -> R H) :
  ∃ W:Nat -> Nat -> List V -> St -> Hp -> Prop,(∃ m,W 0 m [] σ0 H0) /\ ∀ i m ys σc H2,W i m ys σc H2 -> H2 p = some (.lst ys) /\ (((Itr lo n).stop i H2 /\ R H2) \/ ((Itr lo n).go i H2 /\ ∀ x H3,(Itr lo n).yld i H2 x H3 -> g x σc H3 fun σ3 H4=>tt σ3 H4 fun b H4'=>if b = true then te σ3 H4' fun v H5 =>
   H5 p = some (.lst ys) /\ ys.length < sizeLine /\ ∃ m',m' < m /\ W (i + 1) m' (ys ++ [v]) σ3 (upd H5 p (.lst (ys ++ [v])))
   else ∃ m',m' < m /\ W (i + 1) m' ys σ3 H4')):=by
 refine ⟨CW n Pv,⟨_,rfl,Nat.zero_le _,h0⟩,?_⟩
 rintro i m ys σ H ⟨rfl,hi,hp⟩
 refine ⟨hl i ys σ H hi hp,?_⟩
 by_cases hlt:i < n
 ·refine .inr ⟨hlt,?_⟩
  rintro x H3 ⟨rfl,rfl⟩
  exact hs i ys σ _ hlt hp
 ·have e:i = n:=by lia
  subst e
  exact .inl ⟨Nat.le_refl _,hd ys σ H hp⟩
def ZaB (bs:Bs) (i:Nat):List Int:=((List.range i).filter fun k=>bs.getD k false).map fun k:Nat=>(k:Int)
theorem ZhW {bs:Bs} {i:Nat} (h:bs.getD i false = true):ZaB bs (i + 1) = ZaB bs i ++ [(i:Int)]:=by
 unfold ZaB
 rw [List.range_succ,List.filter_append,List.map_append,List.filter_cons_of_pos (p:=fun k=>bs.getD k false) (a:=i) h]
 rfl
theorem Zjt {bs:Bs} {i:Nat} (h : ¬ bs.getD i false = true):ZaB bs (i + 1) = ZaB bs i:=by
 unfold ZaB
 rw [List.range_succ,List.filter_append,List.map_append,List.filter_cons_of_neg (p:=fun k=>bs.getD k false) (a:=i) h]
 simp
theorem Ze0 (bs:Bs) (i:Nat):(ZaB bs i).length <= i:=by
 unfold ZaB
 rw [List.length_map]
 refine Nat.le_trans (List.length_filter_le _ _) ?_
 rw [List.length_range]
 exact Nat.le_refl _
theorem ZhE (bs:Bs) (i:Nat):Zca (ZaB bs i):=by
 unfold ZaB
 refine List.pairwise_map.mpr (List.Pairwise.imp (fun {a b} h=>?_) (List.Pairwise.filter _ (List.pairwise_lt_range (n:=i))))
 lia
theorem ZbV {bs:Bs} {x:Int}:x ∈ ZaB bs bs.length ↔ 0 <= x /\ tB bs x = true:=by
 unfold ZaB tB
 rw [List.mem_map]
 constructor
 ·rintro ⟨k,hk,rfl⟩
  exact ⟨by lia,by rw [Int.toNat_natCast]; exact (List.mem_filter.mp hk).2⟩
 ·rintro ⟨h0,h⟩
  refine ⟨x.toNat,List.mem_filter.mpr ⟨List.mem_range.mpr ?_,h⟩,Int.toNat_of_nonneg h0⟩
  by_cases c:x.toNat < bs.length
  ·exact c
  ·rw [List.getD_eq_getElem?_getD,List.getElem?_eq_none (by lia)] at h
   cases h
def ZeS (qs:List Srd.Qd) (gs bs:Bs):Prop := ∀ q ∈ qs,tB bs q.1 = true -> tB gs q.2.2.1 = true -> tB gs q.2.2.2 = true -> tB bs q.2.2.1 = true /\ tB bs q.2.2.2 = true
theorem ZkQ {f:FQ} {gs bs:Bs} {N:Int} {M:Nat} (ok:Okk N M f) (hg:Zkz f gs) (h1:∀ x ∈ f.hs,LvQ f x -> tB bs x = true) (h2:∀ x,0 <= x -> tB bs x = true -> RcL (hsA f (ZaB gs gs.length)) (qsA f (ZaB gs gs.length)) x) (h3:ZeS f.qs gs bs):Kp f (ZaB bs bs.length):=by
 have hA:∀ x,x ∈ ZaB gs gs.length ↔ LvQ f x:=fun x=>by
  rw [ZbV]
  exact ⟨fun h=>(hg.2 x h.1).mp h.2,fun h=>⟨(h.b ok).1,(hg.2 x (h.b ok).1).mpr h⟩⟩
 refine ⟨ZhE _ _,_,hA,fun x=>?_⟩
 rw [ZbV]
 refine ⟨fun h=>h2 x h.1 h.2,fun h=>?_⟩
 have hb:∀ {y:Int},RcL (hsA f (ZaB gs gs.length)) (qsA f (ZaB gs gs.length)) y -> 0 <= y:=fun {y} hy=>(Zk5 (fun z hz=>ok.hb z (List.mem_filter.mp hz).1) (fun z hz=>ok.qb z (List.mem_filter.mp hz).1) hy).1
 refine ⟨hb h,?_⟩
 have aux:∀ {q:Srd.Qd},q ∈ qsA f (ZaB gs gs.length) -> q ∈ f.qs /\ tB gs q.2.2.1 = true /\ tB gs q.2.2.2 = true:=fun {q} hq=>by
  obtain ⟨e1,e2⟩:=List.mem_filter.mp hq
  rw [Bool.and_eq_true,decide_eq_true_eq,decide_eq_true_eq] at e2
  exact ⟨e1,(ZbV.mp e2.1).2,(ZbV.mp e2.2).2⟩
 induction h with
 | s h =>
  obtain ⟨e1,e2⟩:=List.mem_filter.mp h
  exact h1 _ e1 ((hA _).mp (of_decide_eq_true e2))
 | i h _ ih =>
  obtain ⟨e1,e2,e3⟩:=aux h
  exact (h3 _ e1 ih e2 e3).1
 | o h _ ih =>
  obtain ⟨e1,e2,e3⟩:=aux h
  exact (h3 _ e1 ih e2 e3).2
def Zdr (K:PySem.W.Frag):Sp:=fun vs H Q _=>∃ (a g:Addr) (f:FQ) (gs:Bs),vs = [.ref a,.ref g] /\ FmQ H a f /\ Okk 64 130 f /\ H g = some (.lst (gs.map V.bl)) /\ Zkz f gs /\ ∀ (r:Addr) (kp:List Int) (H':Hp),Zh H H' -> H r = none -> H' r = some (.lst (kp.map V.int)) -> kp.length <= 64 -> Kp f kp -> Q (.ref r) H'
set_option maxHeartbeats 4000000 in
theorem Zez (B:∀ x ∈ ZcY,mg x = none) (F:Fun K "_law_needed" "_law_needed" ZaH f fd):FnOk P w K mg base CX0 1 f fd ["_law_one","_law_good_here"] (Zdr K):=by
 refine F.ok Za8 (fun vs H Q E h=>?_) (fun cdv A outer s H vs Q E hr h=>?_)
 ·obtain ⟨a,g,fm,gs,rfl,_⟩:=h
  rfl
 obtain ⟨a,g,fm,gs,rfl,hF,ok,eg,hg,q⟩:=h
 obtain ⟨f1,f2,f3,zf,a1,a2,a3,a4,a5⟩:=id hF
 have n0:=ok.n0
 have n64:=ok.n8
 have zfl:=a5.length
 obtain ⟨N,hN⟩:∃ N:Nat,fm.n = (N:Int):=⟨fm.n.toNat,(Int.toNat_of_nonneg n0).symm⟩
 have hNt:fm.n.toNat = N:=by rw [hN]; rfl
 have hgl:gs.length = N:=by have:=hg.1; lia
 refine ⟨_,(Zd (Zn (i:=2) Za8.nd rfl (Or.inr rfl) (ZbF (cl:=_) ["_law_kind"] [("_law_one",0),("_law_good_here",1)] (Z4 rfl (B "range" (by decide)) (Za (Zr Zx (pv 0) Ze (fun _ _=>rfl)) Zc)) (fun _ _ _ _=>(Zj (i:=0) (show List.Nodup (["_law_kind","_law_one","_law_good_here"]:List Str) by decide) rfl (Or.inl rfl))) (fun _ _ _ _=>(Zfw (ZbI (Zaw (K:=K) rfl) (pv 0) (Zr (Zbb (K:=K) rfl) (pv 1) Ze (fun _ _=>rfl)) (by with_unfolding_all rfl)) (Zgq (Zr (Zcq (K:=K) rfl) (pv 2) (pv 0) (fun _ _=>rfl))))) rfl rfl (by decide) rfl (by decide) (ZaM (by (repeat' first | exact List.forall_mem_nil _ | refine List.forall_mem_cons.mpr ⟨?_,?_⟩) <;> rfl)) (Zaq (by (repeat' first | exact List.forall_mem_nil _ | refine List.forall_mem_cons.mpr ⟨?_,?_⟩) <;> first | (intro h; exact ⟨_,rfl⟩) | (intro h; exact absurd h (by decide)))) (fun _=>by (repeat' first | exact List.forall_mem_nil _ | refine List.forall_mem_cons.mpr ⟨?_,?_⟩) <;> exact ⟨rfl,rfl,Or.inl rfl⟩) (fun _=>rfl)))
  (Zd (ZaD PassesOwn.never rfl (Z4 rfl (B "range" (by decide)) (Za (Zr Zx (pv 0) Ze (fun _ _=>rfl)) Zc)) (Zj (i:=3) Za8.nd rfl (Or.inl rfl))
   (Zf (ZaD PassesOwn.never rfl (ZaO (Zr Zx (pv 0) Ze (fun _ _=>rfl))) (Zj (i:=4) Za8.nd rfl (Or.inl rfl))
     (Zf (ZaK (PW.pt (ZaZ (ZR (Zr ZW (pv 2) (Zr Zx (pv 4) Ze (fun _ _=>rfl)) (fun _ _=>rfl)) (fun _=>rfl)) (ZaZ (ZR (Zr ZW (pv 1) (Zr Zx (pv 4) Ze (fun _ _=>rfl)) (fun _ _=>rfl)) (fun _=>rfl)) (Za9 (ZR (Zr ZW (pv 1) (Zr Zx (pv 4) Ze (fun _ _=>rfl)) (fun _ _=>rfl)) (fun _=>rfl))))))
       (Zd (Ze7 Zbf (Zfx (pv 2) (Zr Zx (pv 4) Ze (fun _ _=>rfl)) set_list))
        (Zf (Ze7 Zbf (Zfx (pv 2) (Zr Zx (pv 4) Ze (fun _ _=>rfl)) set_list))))
       Z6)))))
  (Zf (ZQ (ZaU (cl:=_) ["_law_kind"] [("_law_found",2)] (Z4 rfl (B "range" (by decide)) (Za (Zr Zx (pv 0) Ze (fun _ _=>rfl)) Zc)) (fun _ _ _ _=>(Zj (i:=0) (show List.Nodup (["_law_kind","_law_found"]:List Str) by decide) rfl (Or.inl rfl))) (fun _ _ _ _=>(ZhR (K:=K) rfl (Zr (Zcq (K:=K) rfl) (pv 1) (pv 0) (fun _ _=>rfl)) (fun _=>rfl))) (fun _ _ _ _=>(pv 0)) rfl rfl (by decide) rfl (by decide) (ZaM (by (repeat' first | exact List.forall_mem_nil _ | refine List.forall_mem_cons.mpr ⟨?_,?_⟩) <;> rfl)) (Zaq (by (repeat' first | exact List.forall_mem_nil _ | refine List.forall_mem_cons.mpr ⟨?_,?_⟩) <;> first | (intro h; exact ⟨_,rfl⟩) | (intro h; exact absurd h (by decide)))) (fun _=>by (repeat' first | exact List.forall_mem_nil _ | refine List.forall_mem_cons.mpr ⟨?_,?_⟩) <;> exact ⟨rfl,rfl,Or.inl rfl⟩) (fun _=>rfl)))))),?_⟩
 refine ⟨_,rfl,a,_,0,_,rfl,rfl,SqT.of a1,rfl,fm.n,rfl,by lia,by lia,fun pb hpb=>?_⟩
 refine ZaS (lo:=0) (n:=fm.n.toNat) (p:=pb) (fun i ys σ H2=>∃ (v0:Option V),σ = [v0,some (.ref a),some (.ref g)] /\ Zh H H2 /\ H2 pb = some (.lst ys) /\ ys = ((List.range i).map fun k:Nat=>decide ((k:Int) ∈ fm.hs) && gs.getD k false).map V.bl)
  ⟨none,rfl,Zh.new hpb,Zb,rfl⟩ ?_ ?_ ?_
 ·rintro i ys σ H2 _ ⟨v0,_,_,h,_⟩
  exact h
 ·rintro i ys σ H2 hi ⟨v0,rfl,sm,hp,rfl⟩
  have e0:(0:Int) + (i:Int) = (i:Int):=by lia
  have e:inV (V.int (0 + (i:Int))) (fm.hs.map V.int) = decide ((i:Int) ∈ fm.hs):=by
   rw [e0]
   exact ZaN
  have hlen:(((List.range i).map fun k:Nat=>decide ((k:Int) ∈ fm.hs) && gs.getD k false).map V.bl).length < sizeLine:=by
   rw [List.length_map,List.length_map,List.length_range]
   exact Zi (by lia)
  have fin:∀ b:Bool,b = (decide ((i:Int) ∈ fm.hs) && gs.getD i false) -> ((List.range i).map fun k:Nat=>decide ((k:Int) ∈ fm.hs) && gs.getD k false).map V.bl ++ [V.bl b] = ((List.range (i + 1)).map fun k:Nat=>decide ((k:Int) ∈ fm.hs) && gs.getD k false).map V.bl:=fun b hb=>by
   rw [List.range_succ,List.map_append,List.map_append,hb]
   rfl
  refine ⟨_,rfl,_,rfl,a,_,1,_,rfl,rfl,SqT.of (sm _ _ a1),rfl,f1,_,rfl,.inr (SqT.of (sm _ _ a2)),rfl,ZaC _,decide ((i:Int) ∈ fm.hs),(by rw [if_neg Bool.false_ne_true,e]),ZbE (fun c=>?_) (fun c=>?_)⟩
  ·have hat:atI (gs.map V.bl) (0 + (i:Int)) = some (.bl (tB gs (0 + (i:Int)))):=ZdD (by lia) (by lia)
   refine ⟨_,rfl,_,rfl,g,_,_,_,rfl,rfl,SqL.of (sm _ _ eg),hat,hp,hlen,CW.next hi ⟨_,rfl,sm.upd_new hpb,Zb,fin _ ?_⟩⟩
   rw [c,Bool.true_and,e0]
   unfold tB
   rw [Int.toNat_natCast]
  ·refine ⟨hp,hlen,CW.next hi ⟨_,rfl,sm.upd_new hpb,Zb,fin _ ?_⟩⟩
   have c':decide ((i:Int) ∈ fm.hs) = false:=by
    cases h:decide ((i:Int) ∈ fm.hs) with
    | true=>exact absurd h c
    | false=>rfl
   rw [c',Bool.false_and]
 rintro ys σ H2 ⟨v0,rfl,s2,hp,rfl⟩
 rw [hNt] at hp
 have hgA:∀ {x:Int},0 <= x -> tB gs x = true -> x ∈ ZaB gs gs.length:=fun {x} h0 h=>ZbV.mpr ⟨h0,h⟩
 refine ⟨_,rfl,a,_,0,_,rfl,rfl,SqT.of (s2 _ _ a1),rfl,fm.n,rfl,by lia,by lia,Zay (lo:=0) (n:=fm.n.toNat) (fun k σ H3=>∃ (v3 v4:Option V) (bs:Bs),σ = [some (.ref a),some (.ref g),some (.ref pb),v3,v4] /\ Zh H H3 /\ H3 pb = some (.lst (bs.map V.bl)) /\ bs.length = N /\ (∀ x ∈ fm.hs,LvQ fm x -> tB bs x = true) /\ (∀ x,0 <= x -> tB bs x = true -> RcL (hsA fm (ZaB gs gs.length)) (qsA fm (ZaB gs gs.length)) x) /\ (ZeS fm.qs gs bs \/ k <= Zcn bs))
  ⟨_,_,_,rfl,s2,hp,by rw [List.length_map,List.length_range],fun e he hlv=>?_,fun x h0 hx=>?_,.inr (Nat.zero_le _)⟩ ?_ ?_⟩
 ·have b:=ok.hb e he
  refine (Zct b.1).mpr ⟨by lia,?_⟩
  rw [Int.toNat_of_nonneg b.1,decide_eq_true he,Bool.true_and]
  exact (hg.2 e b.1).mpr hlv
 ·have h1:=((Zct h0).mp hx).2
  rw [Int.toNat_of_nonneg h0,Bool.and_eq_true,decide_eq_true_eq] at h1
  exact .s (List.mem_filter.mpr ⟨h1.1,decide_eq_true (hgA h0 h1.2)⟩)
 ·rintro k σ H3 hk ⟨v3,v4,b0,rfl,sm,e3,hl,hts,hsd,hor⟩
  refine ⟨_,rfl,a,_,3,_,rfl,rfl,SqT.of (sm _ _ a1),rfl,f3,rfl,⟨_,SqT.of (sm _ _ a4)⟩,Zdp (K:=K) (a:=f3) (xs:=zf) (fun j σ H4=>∃ (v4:Option V) (bs:Bs),σ = [some (.ref a),some (.ref g),some (.ref pb),some (.int (0 + (k:Int))),v4] /\ Zh H H4 /\ H4 pb = some (.lst (bs.map V.bl)) /\ bs.length = N /\ (∀ x ∈ fm.hs,LvQ fm x -> tB bs x = true) /\ (∀ x,0 <= x -> tB bs x = true -> RcL (hsA fm (ZaB gs gs.length)) (qsA fm (ZaB gs gs.length)) x) /\ ((bs = b0 /\ ZeS (fm.qs.take j) gs b0) \/ (¬ ZeS fm.qs gs b0 /\ Zcn b0 + 1 <= Zcn bs)))
   ⟨_,b0,rfl,sm,e3,hl,hts,hsd,.inl ⟨rfl,fun _ h=>nomatch h⟩⟩ ?_ ?_ ?_⟩
  ·rintro j σ H4 _ ⟨_,_,_,sm,_⟩
   exact SqT.of (sm _ _ a4)
  ·rintro j x σ H4 hj ⟨v4,bs,rfl,sm,e4,hl4,hts4,hsd4,hor4⟩
   obtain ⟨pq,q1,hq1,rfl,eq1⟩:=a5.get j x hj
   have hqm:q1 ∈ fm.qs:=List.mem_of_getElem? hq1
   obtain ⟨⟨b1,b1'⟩,⟨b2,b2'⟩,b3,b3'⟩:=ok.qb q1 hqm
   have hq4:=sm _ _ eq1
   have eg4:=sm _ _ eg
   rw [ZJ hq1]
   have no:(tB bs q1.1 = true -> tB gs q1.2.2.1 = true -> tB gs q1.2.2.2 = true -> tB bs q1.2.2.1 = true /\ tB bs q1.2.2.2 = true) -> ((bs = b0 /\ ZeS (fm.qs.take j ++ [q1]) gs b0) \/ (¬ ZeS fm.qs gs b0 /\ Zcn b0 + 1 <= Zcn bs)):=fun hc=>by
    rcases hor4 with ⟨rfl,h⟩ | h
    ·refine .inl ⟨rfl,fun z hz=>?_⟩
     rcases List.mem_append.mp hz with hz | hz
     ·exact h z hz
     ·rw [List.mem_singleton.mp hz]
      exact hc
    ·exact .inr h
   refine ⟨_,rfl,_,rfl,pq,_,0,_,rfl,rfl,SqT.of hq4,rfl,pb,_,_,_,rfl,rfl,SqL.of e4,ZdD b1 (by lia),tB bs q1.1,rfl,ZbE (fun c0=>?_) (fun c0=>Za3 ⟨_,bs,rfl,sm,e4,hl4,hts4,hsd4,no fun z=>absurd z c0⟩)⟩
   refine ⟨_,rfl,_,rfl,pq,_,2,_,rfl,rfl,SqT.of hq4,rfl,g,_,_,_,rfl,rfl,SqL.of eg4,ZdD b2 (by lia),tB gs q1.2.2.1,rfl,ZbE (fun c1=>?_) (fun c1=>Za3 ⟨_,bs,rfl,sm,e4,hl4,hts4,hsd4,no fun _ z=>absurd z c1⟩)⟩
   refine ⟨_,rfl,_,rfl,pq,_,3,_,rfl,rfl,SqT.of hq4,rfl,g,_,_,_,rfl,rfl,SqL.of eg4,ZdD b3 (by lia),tB gs q1.2.2.2,rfl,ZbE (fun c2=>?_) (fun c2=>⟨_,bs,rfl,sm,e4,hl4,hts4,hsd4,no fun _ _ z=>absurd z c2⟩)⟩
   have hi1:q1.2.2.1.toNat < bs.length:=by lia
   have hi2:q1.2.2.2.toNat < (bs.set q1.2.2.1.toNat true).length:=by rw [List.length_set]; lia
   refine ⟨_,rfl,_,rfl,pq,_,2,_,rfl,rfl,SqT.of hq4,rfl,pb,_,_,_,rfl,rfl,e4,Zhd b2 (by rw [List.length_map]; exact hi1),?_⟩
   have sm5:Zh H (upd H4 pb (.lst ((bs.map V.bl).set q1.2.2.1.toNat (.bl true)))):=sm.upd_new hpb
   have e5:(upd H4 pb (.lst ((bs.map V.bl).set q1.2.2.1.toNat (.bl true)))) pb = some (.lst ((bs.set q1.2.2.1.toNat true).map V.bl)):=by rw [Zb,List.map_set]
   generalize upd H4 pb (.lst ((bs.map V.bl).set q1.2.2.1.toNat (.bl true))) = H5 at sm5 e5
   refine ⟨_,rfl,_,rfl,pq,_,3,_,rfl,rfl,SqT.of (sm5 _ _ eq1),rfl,pb,_,_,_,rfl,rfl,e5,Zhd b3 (by rw [List.length_map]; exact hi2),?_⟩
   have hmA:q1 ∈ qsA fm (ZaB gs gs.length):=List.mem_filter.mpr ⟨hqm,by rw [decide_eq_true (hgA b2 c1),decide_eq_true (hgA b3 c2)]; rfl⟩
   have tS:∀ {x:Int},0 <= x -> tB ((bs.set q1.2.2.1.toNat true).set q1.2.2.2.toNat true) x = if q1.2.2.2 = x then true else if q1.2.2.1 = x then true else tB bs x:=fun {x} h0=>by
    rw [Ze6 hi2 b3 h0,Ze6 hi1 b2 h0]
   refine ⟨_,(bs.set q1.2.2.1.toNat true).set q1.2.2.2.toNat true,rfl,sm5.upd_new hpb,by rw [Zb]; simp only [List.map_set],by rw [List.length_set,List.length_set]; exact hl4,fun e he hlv=>?_,fun x h0 hx=>?_,?_⟩
   ·rw [tS (ok.hb e he).1]
    split
    ·rfl
    ·split
     ·rfl
     ·exact hts4 e he hlv
   ·rw [tS h0] at hx
    split at hx
    ·rename_i e
     rw [<- e]
     exact .o hmA (hsd4 _ b1 c0)
    ·split at hx
     ·rename_i e
      rw [<- e]
      exact .i hmA (hsd4 _ b1 c0)
     ·exact hsd4 x h0 hx
   ·have u1:=ZiR hi1
    have u2:=ZiR hi2
    by_cases c3:tB bs q1.2.2.1 = true /\ tB bs q1.2.2.2 = true
    ·have e6:(bs.set q1.2.2.1.toNat true).set q1.2.2.2.toNat true = bs:=by rw [set_same c3.1,set_same c3.2]
     rw [e6]
     exact no fun _ _ _=>c3
    ·right
     have h1:Zcn bs + 1 <= Zcn ((bs.set q1.2.2.1.toNat true).set q1.2.2.2.toNat true):=by
      by_cases c4:tB bs q1.2.2.1 = true
      ·have c5 : ¬ tB (bs.set q1.2.2.1.toNat true) q1.2.2.2 = true:=by
        rw [set_same c4]
        exact fun z=>c3 ⟨c4,z⟩
       have:=ZeW hi2 c5
       lia
      ·have:=ZeW hi1 c4
       lia
     rcases hor4 with ⟨rfl,h⟩ | ⟨h,h2⟩
     ·exact ⟨fun z=>c3 (z q1 hqm c0 c1 c2),h1⟩
     ·exact ⟨h,by lia⟩
  ·rintro σ H4 ⟨v4,bs,rfl,sm4,e4,hl4,hts4,hsd4,hor4⟩
   rw [zfl,List.take_length] at hor4
   refine ⟨_,_,bs,rfl,sm4,e4,hl4,hts4,hsd4,?_⟩
   rcases hor4 with ⟨rfl,h⟩ | ⟨h,h2⟩
   ·exact .inl h
   ·rcases hor with z | z
    ·exact absurd z h
    ·exact .inr (by lia)
 rintro σ H3 ⟨v3,v4,bs,rfl,sm,e3,hl,hts,hsd,hor⟩
 have hshut:ZeS fm.qs gs bs:=by
  rcases hor with h | h
  ·exact h
  ·intro z hz _ _ _
   obtain ⟨_,b2,b3⟩:=ok.qb z hz
   exact ⟨Zcs (by rw [hl]; lia) _ (by lia),Zcs (by rw [hl]; lia) _ (by lia)⟩
 have K0:=ZkQ ok hg hts hsd hshut
 refine ⟨_,rfl,a,_,0,_,rfl,rfl,SqT.of (sm _ _ a1),rfl,fm.n,rfl,by lia,by lia,fun pk hpk=>Zdn (lo:=0) (n:=fm.n.toNat) (p:=pk) (fun i ys σ H4=>∃ v0:Option V,σ = [v0,some (.ref pb)] /\ Zh H3 H4 /\ H4 pk = some (.lst ys) /\ ys = (ZaB bs i).map V.int)
  ⟨none,rfl,Zh.new hpk,Zb,rfl⟩ ?_ ?_ ?_⟩
 ·rintro i ys σ H4 _ ⟨v0,_,_,h,_⟩
  exact h
 ·rintro i ys σ H4 hi ⟨v0,rfl,sm4,h,rfl⟩
  have e0:(0:Int) + (i:Int) = (i:Int):=by lia
  have hat:atI (bs.map V.bl) (0 + (i:Int)) = some (.bl (tB bs (0 + (i:Int)))):=ZdD (by lia) (by lia)
  have ht:tB bs (0 + (i:Int)) = bs.getD i false:=by
   rw [e0]
   unfold tB
   rw [Int.toNat_natCast]
  refine ⟨_,rfl,_,rfl,pb,_,_,_,rfl,rfl,SqL.of (sm4 _ _ e3),hat,tB bs (0 + (i:Int)),rfl,ZbE (fun c=>?_) (fun c=>?_)⟩
  ·rw [ht] at c
   refine ⟨_,rfl,h,Zi (by rw [List.length_map]; have:=Ze0 bs i; lia),CW.next hi ⟨_,rfl,sm4.upd_new hpk,Zb,?_⟩⟩
   rw [ZhW c,List.map_append,e0]
   rfl
  ·rw [ht] at c
   exact CW.next hi ⟨_,rfl,sm4,h,by rw [Zjt c]⟩
 rintro ys σ H4 ⟨v0,rfl,sm4,h,rfl⟩
 rw [hNt,<- hl] at h
 exact q pk _ H4 (sm.trans sm4) (sm.free hpk) h (by have:=Ze0 bs bs.length; lia) K0
set_option maxHeartbeats 4000000 in
theorem Zig (B:∀ x ∈ ZcY,mg x = none) (g_l_live:Has P w K mg base "_law_live" ["_law_one"] 1 (Zeu K)) (g_l_needed:Has P w K mg base "_law_needed" ["_law_one","_law_good_here"] 1 (Zdr K)) (F:Fun K "_law_due" "_law_due" Zb6 f fd):FnOk P w K mg base CX0 2 f fd ["_law_one"] (Zdd K):=by
 refine F.ok Za7 (fun vs H Q E h=>?_) (fun cdv A outer s H vs Q E hr h=>?_)
 ·obtain ⟨a,fm,rfl,_⟩:=h
  rfl
 obtain ⟨a,fm,rfl,hF,ok,q⟩:=h
 obtain ⟨f1,f2,f3,zf,a1,a2,a3,a4,a5⟩:=id hF
 have fhl:=ok.hl
 have ftl:=ok.tl
 have fql:=ok.ql
 have zfl:=a5.length
 refine ⟨_,(Zd (Zn (i:=1) Za7.nd rfl (Or.inl rfl) (Zw g_l_live hr rfl (Za (pv 0) Zc)))
  (Zd (Zn (i:=2) Za7.nd rfl (Or.inr rfl) (Zw g_l_needed hr rfl (Za (pv 0) (Za (pv 1) Zc))))
  (Zd (Z8 (cl:=_) (n0:=3) Za7.nd rfl (Or.inl rfl) ["_law_kind"] [("_law_kept",2)] (ZaO (Zr Zx (pv 0) Ze (fun _ _=>rfl))) (fun _ _ _ _=>(Zj (i:=0) (show List.Nodup (["_law_kind","_law_kept"]:List Str) by decide) rfl (Or.inl rfl))) (fun _ _ _ _=>(Zv (Zaw (K:=K) rfl) (pv 0) (pv 1) (by with_unfolding_all rfl))) (fun _ _ _ _=>(Zi0 (K:=K) rfl PySem.F.plainAttrs_list PySem.F.slot_list_index PySem.F.type_list_index (Zbg (K:=K) rfl) (pv 1) (Za (pv 0) Zc))) rfl rfl (by decide) rfl (by decide) (ZaM (by (repeat' first | exact List.forall_mem_nil _ | refine List.forall_mem_cons.mpr ⟨?_,?_⟩) <;> rfl)) (Zaq (by (repeat' first | exact List.forall_mem_nil _ | refine List.forall_mem_cons.mpr ⟨?_,?_⟩) <;> first | (intro h; exact ⟨_,rfl⟩) | (intro h; exact absurd h (by decide)))) (fun _=>by (repeat' first | exact List.forall_mem_nil _ | refine List.forall_mem_cons.mpr ⟨?_,?_⟩) <;> exact ⟨rfl,rfl,Or.inl rfl⟩) (fun _=>rfl) rfl)
  (Zd (Z8 (cl:=_) (n0:=4) Za7.nd rfl (Or.inl rfl) ["_law_kind"] [("_law_kept",2)] (ZaO (Zr Zx (pv 0) Ze (fun _ _=>rfl))) (fun _ _ _ _=>(Zj (i:=0) (show List.Nodup (["_law_kind","_law_kept"]:List Str) by decide) rfl (Or.inl rfl))) (fun _ _ _ _=>(Zv (Zaw (K:=K) rfl) (pv 0) (pv 1) (by with_unfolding_all rfl))) (fun _ _ _ _=>(Zi0 (K:=K) rfl PySem.F.plainAttrs_list PySem.F.slot_list_index PySem.F.type_list_index (Zbg (K:=K) rfl) (pv 1) (Za (pv 0) Zc))) rfl rfl (by decide) rfl (by decide) (ZaM (by (repeat' first | exact List.forall_mem_nil _ | refine List.forall_mem_cons.mpr ⟨?_,?_⟩) <;> rfl)) (Zaq (by (repeat' first | exact List.forall_mem_nil _ | refine List.forall_mem_cons.mpr ⟨?_,?_⟩) <;> first | (intro h; exact ⟨_,rfl⟩) | (intro h; exact absurd h (by decide)))) (fun _=>by (repeat' first | exact List.forall_mem_nil _ | refine List.forall_mem_cons.mpr ⟨?_,?_⟩) <;> exact ⟨rfl,rfl,Or.inl rfl⟩) (fun _=>rfl) rfl)
  (Zd (Zn (i:=5) Za7.nd rfl (Or.inl rfl) (ZbJ Zc))
  (Zd (ZaD PassesOwn.never rfl (ZaO (Zr Zx (pv 0) Ze (fun _ _=>rfl))) (Zj (i:=6) Za7.nd rfl (Or.inl rfl))
   (Zf (ZaK (PW.pt (ZaZ (Zv Zea (Zr Zx (pv 6) Ze (fun _ _=>rfl)) (pv 2) (by with_unfolding_all rfl)) (ZaZ (ZR (Zr ZW (pv 1) (Zr Zx (pv 6) Ze (fun _ _=>rfl)) (fun _ _=>rfl)) (fun _=>rfl)) (Za9 (ZR (Zr ZW (pv 1) (Zr Zx (pv 6) Ze (fun _ _=>rfl)) (fun _ _=>rfl)) (fun _=>rfl))))))
     (Zf (Zar (Zba PySem.F.plainAttrs_list PySem.F.slot_list_append PySem.F.type_list_append ZP (pv 5) (Za (Z1 (Za (Zba PySem.F.plainAttrs_list PySem.F.slot_list_index PySem.F.type_list_index (Zbg (K:=K) rfl) (pv 2) (Za (Zr Zx (pv 6) Ze (fun _ _=>rfl)) Zc)) (Za (Zr Zx (pv 6) Ze (fun _ _=>rfl)) (Za (Zba PySem.F.plainAttrs_list PySem.F.slot_list_index PySem.F.type_list_index (Zbg (K:=K) rfl) (pv 2) (Za (Zr Zx (pv 6) Ze (fun _ _=>rfl)) Zc)) (Za (Zba PySem.F.plainAttrs_list PySem.F.slot_list_index PySem.F.type_list_index (Zbg (K:=K) rfl) (pv 2) (Za (Zr Zx (pv 6) Ze (fun _ _=>rfl)) Zc)) Zc))))) Zc))))
     Z6)))
  (Zf (ZQ (Z1 (Za (Zt Zq rfl (B "len" (by decide)) PySem.boot_len (Za (pv 2) Zc)) (Za (ZD ZG rfl (B "tuple" (by decide)) Zas (Za (pv 3) Zc)) (Za (ZD ZG rfl (B "tuple" (by decide)) Zas (Za (pv 4) Zc)) (Za (ZD ZG rfl (B "tuple" (by decide)) Zas (Za (pv 5) Zc)) Zc))))))))))))),?_⟩
 refine ⟨_,rfl,a,fm,rfl,hF,ok,fun g gs H1 s1 hg1 eg hg=>?_⟩
 refine ⟨_,rfl,_,rfl,a,g,fm,gs,rfl,hF.same s1,ok,eg,hg,fun k kp H2 s2 hk2 ek hkl K0=>?_⟩
 have hgl:=hg.1
 have t2:=s1.trans s2
 have eg:=s2 _ _ eg
 refine ⟨_,rfl,a,_,1,_,rfl,rfl,SqT.of (t2 _ _ a1),rfl,f1,rfl,⟨_,SqT.of (t2 _ _ a2)⟩,fun ps hps=>Zap (K:=K) (a:=f1) (p:=ps) (xs:=fm.hs.map V.int) (fun i us σ H3=>∃ v0:Option V,σ = [v0,some (.ref k)] /\ Zh H2 H3 /\ H3 ps = some (.lst us) /\ us = (((fm.hs.take i).filter fun x=>decide (x ∈ kp)).map (ixI kp)).map V.int)
  ⟨none,rfl,Zh.new hps,Zb,rfl⟩ ?_ ?_ ?_⟩
 ·rintro i us σ H3 _ ⟨v0,_,sm,h,_⟩
  exact ⟨SqT.of (sm _ _ (t2 _ _ a2)),h⟩
 ·rintro i us x σ H3 hi hx ⟨v0,rfl,sm,h,rfl⟩
  rw [List.getElem?_map] at hx
  obtain ⟨y,hy,rfl⟩:=Option.map_eq_some_iff.mp hx
  have hfs:=ZaA (P:=fun x:Int=>decide (x ∈ kp)) hy
  have ek':=sm _ _ ek
  refine ⟨_,rfl,_,rfl,k,_,rfl,.inl (SqL.of ek'),rfl,ZaC _,?_⟩
  rw [if_neg (by decide),ZaN]
  refine ⟨_,rfl,ZbE (fun c=>?_) (fun c=>?_)⟩
  ·refine ⟨_,rfl,.inl ⟨rfl,_,SqL.of ek'⟩,_,rfl,k,y,kp,rfl,rfl,SqL.of ek',of_decide_eq_true c,h,Zi (by rw [List.length_map,List.length_map]; exact Nat.le_trans (List.length_filter_le ..) (by rw [List.length_take]; lia)),CW.next hi ⟨_,rfl,sm.upd_new hps,Zb,?_⟩⟩
   rw [hfs,if_pos c,List.map_append,List.map_append]
   rfl
  ·refine CW.next hi ⟨_,rfl,sm,h,?_⟩
   rw [hfs,if_neg c,List.append_nil]
 rintro us σ H3 ⟨v0,rfl,s3,e3,rfl⟩
 rw [List.length_map,List.take_length] at e3
 have t3:=t2.trans s3
 have ek:=s3 _ _ ek
 have eg:=s3 _ _ eg
 refine ⟨_,rfl,a,_,2,_,rfl,rfl,SqT.of (t3 _ _ a1),rfl,f2,rfl,⟨_,SqT.of (t3 _ _ a3)⟩,fun pt hpt=>Zap (K:=K) (a:=f2) (p:=pt) (xs:=fm.ts.map V.int) (fun i us σ H4=>∃ v0:Option V,σ = [v0,some (.ref k)] /\ Zh H3 H4 /\ H4 pt = some (.lst us) /\ us = (((fm.ts.take i).filter fun x=>decide (x ∈ kp)).map (ixI kp)).map V.int)
  ⟨none,rfl,Zh.new hpt,Zb,rfl⟩ ?_ ?_ ?_⟩
 ·rintro i us σ H4 _ ⟨v0,_,sm,h,_⟩
  exact ⟨SqT.of (sm _ _ (t3 _ _ a3)),h⟩
 ·rintro i us x σ H4 hi hx ⟨v0,rfl,sm,h,rfl⟩
  rw [List.getElem?_map] at hx
  obtain ⟨y,hy,rfl⟩:=Option.map_eq_some_iff.mp hx
  have hfs:=ZaA (P:=fun x:Int=>decide (x ∈ kp)) hy
  have ek':=sm _ _ ek
  refine ⟨_,rfl,_,rfl,k,_,rfl,.inl (SqL.of ek'),rfl,ZaC _,?_⟩
  rw [if_neg (by decide),ZaN]
  refine ⟨_,rfl,ZbE (fun c=>?_) (fun c=>?_)⟩
  ·refine ⟨_,rfl,.inl ⟨rfl,_,SqL.of ek'⟩,_,rfl,k,y,kp,rfl,rfl,SqL.of ek',of_decide_eq_true c,h,Zi (by rw [List.length_map,List.length_map]; exact Nat.le_trans (List.length_filter_le ..) (by rw [List.length_take]; lia)),CW.next hi ⟨_,rfl,sm.upd_new hpt,Zb,?_⟩⟩
   rw [hfs,if_pos c,List.map_append,List.map_append]
   rfl
  ·refine CW.next hi ⟨_,rfl,sm,h,?_⟩
   rw [hfs,if_neg c,List.append_nil]
 rintro us σ H4 ⟨v0,rfl,s4,e4,rfl⟩
 rw [List.length_map,List.take_length] at e4
 have t4:=t3.trans s4
 have ek:=s4 _ _ ek
 have eg:=s4 _ _ eg
 have e3:=s4 _ _ e3
 refine ⟨by decide,fun pn hpn=>?_⟩
 have s5:Zh H4 (upd H4 pn (.lst [])):=Zh.new hpn
 have hpn0:=t4.free hpn
 have n1:ps ≠ pn:=Zo e3 hpn
 have n2:pt ≠ pn:=Zo e4 hpn
 have n3:k ≠ pn:=Zo ek hpn
 have n4:g ≠ pn:=Zo eg hpn
 have t5:=t4.trans s5
 refine ⟨_,rfl,a,_,3,_,rfl,rfl,SqT.of (t5 _ _ a1),rfl,f3,rfl,⟨_,SqT.of (t5 _ _ a4)⟩,Zdp (K:=K) (a:=f3) (xs:=zf) (fun i σ H6=>∃ (v6:Option V) (ns:List V),σ = [some (.ref a),some (.ref g),some (.ref k),some (.ref ps),some (.ref pt),some (.ref pn),v6] /\ Zh H H6 /\ H6 k = some (.lst (kp.map V.int)) /\ H6 g = some (.lst (gs.map V.bl)) /\ H6 ps = some (.lst (((fm.hs.filter fun x=>decide (x ∈ kp)).map (ixI kp)).map V.int)) /\ H6 pt = some (.lst (((fm.ts.filter fun x=>decide (x ∈ kp)).map (ixI kp)).map V.int)) /\ H6 pn = some (.lst ns) /\ QL H6 ns (((fm.qs.take i).filter (inQ kp)).map (ixQ kp)))
  ⟨none,[],rfl,t5,s5 _ _ ek,s5 _ _ eg,s5 _ _ e3,s5 _ _ e4,Zb,.nil⟩ ?_ ?_ ?_⟩
 ·rintro i σ H6 _ ⟨_,_,_,sm,_⟩
  exact SqT.of (sm _ _ a4)
 ·rintro i x σ H6 hx ⟨v6,ns,rfl,sm,h1,h2,h3,h4,h5,h6⟩
  obtain ⟨p,q1,e1,rfl,e2⟩:=a5.get i x hx
  have hqm:q1 ∈ fm.qs:=List.mem_of_getElem? e1
  have e2:=sm _ _ e2
  obtain ⟨⟨b1,b1'⟩,⟨b2,b2'⟩,b3,b3'⟩:=ok.qb q1 hqm
  have hfs:=ZaA (P:=inQ kp) e1
  have no : ¬ (q1.1 ∈ kp /\ tB gs q1.2.2.1 = true /\ tB gs q1.2.2.2 = true) -> ∃ (v6:Option V) (ns:List V),[some (V.ref a),some (V.ref g),some (V.ref k),some (V.ref ps),some (V.ref pt),some (V.ref pn),some (V.ref p)] = [some (.ref a),some (.ref g),some (.ref k),some (.ref ps),some (.ref pt),some (.ref pn),v6] /\ Zh H H6 /\ H6 k = some (.lst (kp.map V.int)) /\ H6 g = some (.lst (gs.map V.bl)) /\ H6 ps = some (.lst (((fm.hs.filter fun x=>decide (x ∈ kp)).map (ixI kp)).map V.int)) /\ H6 pt = some (.lst (((fm.ts.filter fun x=>decide (x ∈ kp)).map (ixI kp)).map V.int)) /\ H6 pn = some (.lst ns) /\ QL H6 ns (((fm.qs.take (i + 1)).filter (inQ kp)).map (ixQ kp)):=fun hc=>by
   refine ⟨_,ns,rfl,sm,h1,h2,h3,h4,h5,?_⟩
   rw [hfs,if_neg (fun z=>hc ?_),List.append_nil]
   ·exact h6
   ·obtain ⟨z1,z2,z3⟩:=ZbH.mp z
    exact ⟨z1,(hg.2 _ b2).mpr (K0.lv z2),(hg.2 _ b3).mpr (K0.lv z3)⟩
  refine ⟨_,rfl,p,_,0,_,rfl,rfl,SqT.of e2,rfl,_,rfl,k,_,rfl,.inl (SqL.of h1),rfl,ZaC _,?_⟩
  rw [if_neg (by decide),ZaN]
  refine ⟨_,rfl,ZbE (fun c0=>?_) (fun c0=>Za3 (no fun z=>c0 (decide_eq_true z.1)))⟩
  have c0:=of_decide_eq_true c0
  refine ⟨_,rfl,_,rfl,p,_,2,_,rfl,rfl,SqT.of e2,rfl,g,_,_,_,rfl,rfl,SqL.of h2,ZdD b2 (by lia),tB gs q1.2.2.1,rfl,ZbE (fun c1=>?_) (fun c1=>Za3 (no fun z=>c1 z.2.1))⟩
  refine ⟨_,rfl,_,rfl,p,_,3,_,rfl,rfl,SqT.of e2,rfl,g,_,_,_,rfl,rfl,SqL.of h2,ZdD b3 (by lia),tB gs q1.2.2.2,rfl,ZbE (fun c2=>?_) (fun c2=>no fun z=>c2 z.2.2)⟩
  obtain ⟨kin,kre⟩:=K0.rule hqm c0 ((hg.2 _ b2).mp c1) ((hg.2 _ b3).mp c2)
  refine ⟨_,rfl,.inl ⟨rfl,_,SqL.of h5⟩,_,rfl,.inl ⟨rfl,_,SqL.of h1⟩,_,rfl,p,_,0,_,rfl,rfl,SqT.of e2,rfl,k,_,kp,rfl,rfl,SqL.of h1,c0,?_⟩
  refine ⟨_,rfl,p,_,1,_,rfl,rfl,SqT.of e2,rfl,_,rfl,.inl ⟨rfl,_,SqL.of h1⟩,_,rfl,p,_,2,_,rfl,rfl,SqT.of e2,rfl,k,_,kp,rfl,rfl,SqL.of h1,kin,?_⟩
  refine ⟨_,rfl,.inl ⟨rfl,_,SqL.of h1⟩,_,rfl,p,_,3,_,rfl,rfl,SqT.of e2,rfl,k,_,kp,rfl,rfl,SqL.of h1,kre,by show (4:Nat) <= sizeLine; decide,fun t ht=>?_⟩
  have s7:Zh H6 (upd H6 t (tq (ixQ kp q1))):=Zh.new ht
  have hnl:ns.length <= 130:=by
   rw [h6.length,List.length_map]
   refine Nat.le_trans (List.length_filter_le ..) ?_
   rw [List.length_take]
   lia
  refine ⟨pn,_,_,rfl,rfl,s7 _ _ h5,Zi (by lia),?_⟩
  refine ⟨_,_,rfl,(sm.trans s7).upd_new hpn0,by rw [Zk n3]; exact s7 _ _ h1,by rw [Zk n4]; exact s7 _ _ h2,by rw [Zk n1]; exact s7 _ _ h3,by rw [Zk n2]; exact s7 _ _ h4,Zb,?_⟩
  rw [hfs,if_pos (ZbH.mpr ⟨c0,kin,kre⟩),List.map_append]
  have hz2:QL (upd H6 t (tq (ixQ kp q1))) (ns ++ [.ref t]) (((fm.qs.take i).filter (inQ kp)).map (ixQ kp) ++ [ixQ kp q1]):=QL.snoc Zb (h6.keep fun b xs e=>s7 _ _ e)
  exact hz2.keep (Zat (s7 _ _ h5))
 rintro σ H6 ⟨v6,ns,rfl,sm,h1,h2,h3,h4,h5,h6⟩
 rw [zfl,List.take_length] at h6
 refine ⟨_,rfl,k,_,rfl,.inl (SqL.of h1),?_⟩
 refine ⟨_,rfl,ps,_,rfl,.inl ⟨SqL.of h3,fun u1 hu1=>?_⟩⟩
 have s7:Zh H6 (upd H6 u1 (.tup (((fm.hs.filter fun x=>decide (x ∈ kp)).map (ixI kp)).map V.int))):=Zh.new hu1
 have x7:(upd H6 u1 (.tup (((fm.hs.filter fun x=>decide (x ∈ kp)).map (ixI kp)).map V.int))) u1 = some (.tup (((fm.hs.filter fun x=>decide (x ∈ kp)).map (ixI kp)).map V.int)):=Zb
 generalize upd H6 u1 (.tup (((fm.hs.filter fun x=>decide (x ∈ kp)).map (ixI kp)).map V.int)) = H7 at s7 x7 ⊢
 refine ⟨_,rfl,pt,_,rfl,.inl ⟨SqL.of (s7 _ _ h4),fun u2 hu2=>?_⟩⟩
 have s8:Zh H7 (upd H7 u2 (.tup (((fm.ts.filter fun x=>decide (x ∈ kp)).map (ixI kp)).map V.int))):=Zh.new hu2
 have x8:(upd H7 u2 (.tup (((fm.ts.filter fun x=>decide (x ∈ kp)).map (ixI kp)).map V.int))) u2 = some (.tup (((fm.ts.filter fun x=>decide (x ∈ kp)).map (ixI kp)).map V.int)):=Zb
 generalize upd H7 u2 (.tup (((fm.ts.filter fun x=>decide (x ∈ kp)).map (ixI kp)).map V.int)) = H8 at s8 x8 ⊢
 have s68:=s7.trans s8
 refine ⟨_,rfl,pn,_,rfl,.inl ⟨SqL.of (s68 _ _ h5),fun u3 hu3=>?_⟩⟩
 have s9:Zh H8 (upd H8 u3 (.tup ns)):=Zh.new hu3
 have x9:(upd H8 u3 (.tup ns)) u3 = some (.tup ns):=Zb
 generalize upd H8 u3 (.tup ns) = H9 at s9 x9 ⊢
 refine ⟨by show (4:Nat) <= sizeLine; decide,fun rr hrr=>?_⟩
 rw [List.length_map]
 have s10:Zh H9 (upd H9 rr (.tup [.int (kp.length:Int),.ref u1,.ref u2,.ref u3])):=Zh.new hrr
 have s69:=s68.trans s9
 exact q rr kp _ ((sm.trans s69).trans s10) K0 ⟨u1,u2,u3,ns,Zb,s10 _ _ (s9 _ _ (s8 _ _ x7)),s10 _ _ (s9 _ _ x8),s10 _ _ x9,h6.keep fun b xs e=>s10 _ _ (s69 _ _ e)⟩
set_option maxHeartbeats 1000000 in
theorem ZfH (d:Nat) (B:∀ x ∈ ZcY,mg x = none) (g_l_alike:Has P w K mg base "_law_alike" ["_law_found","_law_due_here"] d (Zil d)) (F:Fun K "_law_alike" "_law_alike" ZaV f fd):FnOk P w K mg base CX0 (d + 1) f fd ["_law_found","_law_due_here"] (Zil (d + 1)):=by
 refine F.ok Zdg (fun vs H Q E h=>?_) (fun cdv A outer s H vs Q E hr h=>?_)
 ·obtain ⟨u,v,rfl,_⟩:=h
  rfl
 obtain ⟨u,v,rfl,hA,q⟩:=h
 have hu:=Zb7 hr
 refine ⟨_,(Zd (ZaK (ZR (Zt Zax rfl (B "isinstance" (by decide)) Zai (Za (pv 1) (Za (Zga rfl (B "tuple" (by decide)) Zas) Zc))) (fun _=>rfl))
   (Zd (ZaK (PW.pt (Zf9 (ZdQ (ZR (Zt Zax rfl (B "isinstance" (by decide)) Zai (Za (pv 0) (Za (Zga rfl (B "tuple" (by decide)) Zas) Zc))) (fun _=>rfl))) (Zc3 (Zv Zix (Zt Zq rfl (B "len" (by decide)) PySem.boot_len (Za (pv 0) Zc)) (Zt Zq rfl (B "len" (by decide)) PySem.boot_len (Za (pv 1) Zc)) (ZX _)))))
     (Zf (ZQ Zbf))
     Z6)
    (Zd (ZaD PassesOwn.never rfl (Z4 rfl (B "range" (by decide)) (Za (Zt Zq rfl (B "len" (by decide)) PySem.boot_len (Za (pv 1) Zc)) Zc)) (Zj (i:=2) Zdg.nd rfl (Or.inl rfl))
     (Zf (ZaK (ZdQ (ZR (Zw g_l_alike hr rfl (Za (Zr Zx (pv 0) (pv 2) (fun _ _=>rfl)) (Za (Zr Zx (pv 1) (pv 2) (fun _ _=>rfl)) Zc)) (by lia)) (fun _=>rfl)))
       (Zf (ZQ Zbf))
       Z6)))
    (Zf (ZQ Zbf))))
   Z6)
  (Zd (ZaK (ZR (Zt Zax rfl (B "isinstance" (by decide)) Zai (Za (pv 1) (Za (Zga rfl (B "str" (by decide)) ZiS) Zc))) (fun _=>rfl))
   (Zf (ZQ (Zfw (Zt Zax rfl (B "isinstance" (by decide)) Zai (Za (pv 0) (Za (Zga rfl (B "str" (by decide)) ZiS) Zc))) (Zgq (ZbI ZbW (pv 0) (pv 1) (ZX _))))))
   Z6)
  (Zf (ZQ (Zfw (Zt Zax rfl (B "isinstance" (by decide)) Zai (Za (pv 0) (Za (Zga rfl (B "int" (by decide)) ZhK) Zc))) (Zfw (ZjL (Zt Zax rfl (B "isinstance" (by decide)) Zai (Za (pv 0) (Za (Zga rfl (B "bool" (by decide)) Zjm) Zc)))) (Zgq (ZbI ZbW (pv 0) (pv 1) (ZX _))))))))),?_⟩
 rcases hA with ⟨i,rfl,rfl⟩ | ⟨x,rfl,rfl⟩ | ⟨a,b,us,vs,rfl,rfl,ha,hb,hl,hl2,hA⟩
 ·refine ⟨_,rfl,.int i,"tuple",.type "int",false,rfl,.int i,rfl,false,rfl,Za3 ?_⟩
  refine ⟨_,rfl,.int i,"str",.type "int",false,rfl,.int i,rfl,false,rfl,Za3 ?_⟩
  refine ⟨_,rfl,.int i,"int",.type "int",true,rfl,.int i,rfl,true,rfl,Zcj ?_⟩
  refine ⟨_,rfl,.int i,"bool",.type "int",false,rfl,.int i,rfl,false,rfl,true,rfl,Zcj ?_⟩
  refine ⟨_,rfl,_,rfl,rfl,?_⟩
  rw [decide_eq_true rfl]
  exact q
 ·refine ⟨_,rfl,.str x,"tuple",.type "str",false,rfl,.str x,rfl,false,rfl,Za3 ?_⟩
  refine ⟨_,rfl,.str x,"str",.type "str",true,rfl,.str x,rfl,true,rfl,Zcj ?_⟩
  refine ⟨_,rfl,.str x,"str",.type "str",true,rfl,.str x,rfl,true,rfl,Zcj ?_⟩
  refine ⟨_,rfl,_,rfl,rfl,?_⟩
  rw [decide_eq_true rfl]
  exact q
 ·refine ⟨_,rfl,.ref b,"tuple",.type "tuple",true,rfl,.tup hb,rfl,true,rfl,Zcj ?_⟩
  refine ⟨_,rfl,.ref a,"tuple",.type "tuple",true,rfl,.tup ha,rfl,true,rfl,Za3 ?_⟩
  refine ⟨_,rfl,a,_,rfl,.inr (SqT.of ha),_,rfl,b,_,rfl,.inr (SqT.of hb),rfl,_,rfl,?_⟩
  rw [hl]
  refine Zje rfl ?_
  refine ⟨_,rfl,b,_,rfl,.inr (SqT.of hb),_,rfl,by lia,by lia,Zay (lo:=0) (fun i σ H1=>∃ (v2:Option V),σ = [some (.ref a),some (.ref b),v2] /\ H1 = H) ⟨none,rfl,rfl⟩ ?_ ?_⟩
  ·rintro i σ H1 hi ⟨v2,rfl,rfl⟩
   rw [Int.toNat_natCast] at hi
   have ei:(0:Int) + (i:Int) = ((i:Nat):Int):=by lia
   have h1:us[i]? = some us[i]:=List.getElem?_eq_getElem (by lia)
   have h2:vs[i]? = some vs[i]:=List.getElem?_eq_getElem hi
   refine ⟨_,rfl,_,rfl,a,_,_,_,rfl,rfl,SqT.of ha,(by rw [ei]; exact ZV h1),_,rfl,_,rfl,b,_,_,_,rfl,rfl,SqT.of hb,(by rw [ei]; exact ZV h2),us[i],vs[i],rfl,hA i _ _ h1 h2,?_⟩
   refine ⟨true,rfl,Za3 ?_⟩
   exact ⟨_,rfl,rfl⟩
  ·rintro σ H1 ⟨v2,rfl,rfl⟩
   exact q
theorem Zfr {f:FQ} (h1:f.ts = []) (h2:f.qs = []) {kp:List Int} (h:Kp f kp):trF f kp = ⟨0,[],[],[]⟩:=by
 have e:kp = []:=by
  cases kp with
  | nil=>rfl
  | cons x t =>
   have:=h.lv (List.mem_cons_self ..)
   cases this with
   | e z=>rw [h1] at z; cases z
   | r z _ _=>rw [h2] at z; cases z
 subst e
 have e1:f.hs.filter (fun x=>decide (x ∈ ([]:List Int))) = []:=List.filter_eq_nil_iff.mpr fun x _ hx=>nomatch of_decide_eq_true hx
 unfold trF
 rw [e1,h1,h2]
 rfl
theorem Zfq {H:Hp} {a b:Addr} {f:FQ} {kp kp':List Int} (ok:Okk 64 130 f) (k:Kp f kp) (k':Kp f kp') (x:FmQ H a (trF f kp)) (y:FmQ H b (trF f kp')):AlD H 4 (.ref a) (.ref b):=by
 rw [k'.one k] at y
 have h1:=ok.hl
 have h2:=ok.tl
 have h3:=ok.ql
 refine x.alike y ?_ ?_ ?_
 ·show ((f.hs.filter fun x=>decide (x ∈ kp)).map (ixI kp)).length <= 1000
  rw [List.length_map]
  exact Nat.le_trans (List.length_filter_le ..) (by lia)
 ·show ((f.ts.filter fun x=>decide (x ∈ kp)).map (ixI kp)).length <= 1000
  rw [List.length_map]
  exact Nat.le_trans (List.length_filter_le ..) (by lia)
 ·show ((f.qs.filter (inQ kp)).map (ixQ kp)).length <= 1000
  rw [List.length_map]
  exact Nat.le_trans (List.length_filter_le ..) (by lia)
theorem Zc9 {H:Hp} {a b u1 u2 u3:Addr} {g:FQ} (e:g = ⟨0,[],[],[]⟩) (x:FmQ H a g) (e0:H b = some (.tup [.int 0,.ref u1,.ref u2,.ref u3])) (e1:H u1 = some (.tup [])) (e2:H u2 = some (.tup [])) (e3:H u3 = some (.tup [])):AlD H 4 (.ref a) (.ref b):=by
 subst e
 exact x.alike ⟨u1,u2,u3,[],e0,e1,e2,e3,.nil⟩ (Nat.zero_le _) (Nat.zero_le _) (Nat.zero_le _)
theorem ZfA (n:Int) (h:0 <= n) (h':n <= 64) {hs:List Int} (r:Zca hs) (b:∀ x ∈ hs,0 <= x /\ x < n) (l:hs.length <= 4):Okk 64 130 ⟨n,hs,[],[]⟩ :=
 ⟨h,h',r,List.Pairwise.nil,List.Pairwise.nil,b,fun _ z=>(nomatch z),fun _ z=>(nomatch z),l,Nat.zero_le _,Nat.zero_le _⟩
set_option maxHeartbeats 4000000 in
theorem Zj3 (B:∀ x ∈ ZcY,mg x = none) (g_l_words:Has P w K mg base "_law_words" ["_law_script","_law_first","_law_last"] 2 (ZcD K)) (g_l_form:Has P w K mg base "_law_form" ["_law_script","_law_words_here","_law_many_here"] 4 (ZdF K)) (g_l_many:Has P w K mg base "_law_many" ["_law_cell_here"] 1 Zgs) (g_l_cell:Has P w K mg base "_law_cell" ["_law_script","_law_k"] 1 (Za4 K)) (g_trimmed:Has P w K mg base "trimmed" ["form"] 2 (Zdd K)) (g_l_alike:Has P w K mg base "_law_alike" ["_law_found","_law_due_here"] 4 (Zil 4)) (g_l_due:Has P w K mg base "_law_due" ["_law_one"] 2 (Zdd K)) (g_l_rest:Has P w K mg base "_law_rest" ["_law_words_here","_law_at"] 1 (ZgV K)) (g_l_good:Has P w K mg base "_law_good" ["_law_one","_law_words_here"] 2 (ZgU K))
  (F:Fun K "law" "law" ZdA f fd):FnOk P w K mg base CX0 5 f fd ["_law_script"] (Ziz K):=by
 refine F.ok ZdP (fun vs H Q E h=>?_) (fun cdv A outer s H vs Q E hr h=>?_)
 ·obtain ⟨a,ns,rfl,_⟩:=h
  rfl
 obtain ⟨a,ns,rfl,hS,h63,q⟩:=h
 refine cut 3 (fun σ' H'=>∃ (p1 r2 r3:Addr) (ws:List Str) (f2:FQ) (kp:List Int),σ' = [some (.ref a),some (.ref p1),some (.ref r2),some (.ref r3),none] /\ Zh H H' /\ H' p1 = some (.lst (ws.map V.str)) /\ Can SL 0 ws /\ ws.length <= 120 /\ FmQ H' r2 f2 /\ Okk 64 130 f2 /\ Kp f2 kp /\ FmQ H' r3 (trF f2 kp))
  ?_ (fun u hu3 hR=>⟨_,(Zd (Zn (i:=1) ZdP.nd rfl (Or.inl rfl) (Zw g_l_words hr rfl (Za (pv 0) (Za Ze (Za Ze Zc)))))
  (Zd (Zn (i:=2) ZdP.nd rfl (Or.inl rfl) (Zw g_l_form hr rfl (Za (pv 0) (Za (pv 1) (Za (Zw g_l_many hr rfl (Za (Zw g_l_cell hr rfl (Za (pv 0) (Za Ze Zc))) Zc)) Zc)))))
  (Zd (Zn (i:=3) ZdP.nd rfl (Or.inl rfl) (Zw g_trimmed hr rfl (Za (pv 2) Zc)))
  hu3))),?_⟩)
 rotate_left
 ·refine ⟨_,rfl,a,ns,3,153,rfl,hS,h63,by decide,by decide,by decide,fun p1 ws H1 s1 hn1 e1 l1 c1 _=>?_⟩
  refine ⟨_,rfl,_,rfl,_,rfl,a,ns,1,rfl,s1.seq hS,h63,by decide,by decide,fun c _ _=>⟨c,rfl,fun m m1 m64=>⟨a,p1,ns,ws,m,rfl,s1.seq hS,h63,SqL.of e1,c1,l1,m1,m64,fun r2 f2 H2 s2 F2 ok2=>?_⟩⟩⟩
  refine ⟨_,rfl,r2,f2,rfl,F2,ok2,fun r3 kp H3 s3 K3 F3=>?_⟩
  exact hR _ _ ⟨p1,r2,r3,ws,f2,kp,rfl,(s1.trans s2).trans s3,s3 _ _ (s2 _ _ e1),c1,l1,F2.same s3,ok2,K3,F3⟩
 refine Zk3 _ 1 (fun σ' H'=>∃ (p1 r2 r3:Addr) (ws:List Str) (f2:FQ) (kp:List Int),σ' = [some (.ref a),some (.ref p1),some (.ref r2),some (.ref r3),none] /\ Zh H H' /\ H' p1 = some (.lst (ws.map V.str)) /\ Can SL 0 ws /\ ws.length <= 120 /\ FmQ H' r2 f2 /\ Okk 64 130 f2 /\ Kp f2 kp /\ FmQ H' r3 (trF f2 kp))
  ?_ (fun u hu4 hR=>⟨_,(Zd (ZaK (PW.pt (Zf9 (ZdQ (ZR (Zw g_l_alike hr rfl (Za (pv 3) (Za (Zw g_l_due hr rfl (Za (pv 2) Zc)) Zc))) (fun _=>rfl))) (Zc3 (ZdQ (ZR (Zw g_l_alike hr rfl (Za (Zw g_trimmed hr rfl (Za (Z1 (Za Ze (Za (Z1 (Za Ze Zc)) (Za (Z1 Zc) (Za (Z1 Zc) Zc))))) Zc)) (Za (Z1 (Za Ze (Za (Z1 Zc) (Za (Z1 Zc) (Za (Z1 Zc) Zc))))) Zc))) (fun _=>rfl))))))
   (Zf (ZQ Zbf))
   Z6)
  hu4),?_⟩)
 rotate_left
 ·rintro σ0 H0 ⟨p1,r2,r3,ws,f2,kp,rfl,s0,e1,c1,l1,F2,ok2,K3,F3⟩
  refine ⟨_,rfl,_,rfl,r2,f2,rfl,F2,ok2,fun r4 kp4 H4 s4 K4 F4=>?_⟩
  refine ⟨.ref r3,.ref r4,rfl,Zfq ok2 K3 K4 (F3.same s4) F4,true,rfl,Za3 ?_⟩
  refine ⟨by show (1:Nat) <= sizeLine; decide,fun u1 hu1=>?_⟩
  have t1:Zh H4 (upd H4 u1 (.tup [.int 0])):=Zh.new hu1
  have x1:(upd H4 u1 (.tup [.int 0])) u1 = some (.tup ([(0:Int)].map V.int)):=Zb
  generalize upd H4 u1 (.tup [.int 0]) = H5 at t1 x1 ⊢
  refine ⟨by decide,fun u2 hu2=>?_⟩
  have t2:Zh H5 (upd H5 u2 (.tup [])):=Zh.new hu2
  have x2:(upd H5 u2 (.tup [])) u2 = some (.tup (([]:List Int).map V.int)):=Zb
  generalize upd H5 u2 (.tup []) = H6 at t2 x2 ⊢
  refine ⟨by decide,fun u3 hu3=>?_⟩
  have t3:Zh H6 (upd H6 u3 (.tup [])):=Zh.new hu3
  have x3:(upd H6 u3 (.tup [])) u3 = some (.tup []):=Zb
  generalize upd H6 u3 (.tup []) = H7 at t3 x3 ⊢
  refine ⟨by show (4:Nat) <= sizeLine; decide,fun u4 hu4=>?_⟩
  have t4:Zh H7 (upd H7 u4 (.tup [.int 1,.ref u1,.ref u2,.ref u3])):=Zh.new hu4
  have x4:(upd H7 u4 (.tup [.int 1,.ref u1,.ref u2,.ref u3])) u4 = some (.tup [.int 1,.ref u1,.ref u2,.ref u3]):=Zb
  generalize upd H7 u4 (.tup [.int 1,.ref u1,.ref u2,.ref u3]) = H8 at t4 x4 ⊢
  refine ⟨u4,⟨1,[0],[],[]⟩,rfl,⟨u1,u2,u3,[],x4,t4 _ _ (t3 _ _ (t2 _ _ x1)),t4 _ _ (t3 _ _ x2),t4 _ _ x3,.nil⟩,ZfA 1 (by decide) (by decide) (List.pairwise_singleton ..) (fun x hx=>by rw [List.mem_singleton.mp hx]; decide) (by decide),fun r5 kp5 H9 s9 K5 F5=>?_⟩
  refine ⟨by decide,fun v1 hv1=>?_⟩
  have y1:Zh H9 (upd H9 v1 (.tup [])):=Zh.new hv1
  have z1:(upd H9 v1 (.tup [])) v1 = some (.tup []):=Zb
  generalize upd H9 v1 (.tup []) = J1 at y1 z1 ⊢
  refine ⟨by decide,fun v2 hv2=>?_⟩
  have y2:Zh J1 (upd J1 v2 (.tup [])):=Zh.new hv2
  have z2:(upd J1 v2 (.tup [])) v2 = some (.tup []):=Zb
  generalize upd J1 v2 (.tup []) = J2 at y2 z2 ⊢
  refine ⟨by decide,fun v3 hv3=>?_⟩
  have y3:Zh J2 (upd J2 v3 (.tup [])):=Zh.new hv3
  have z3:(upd J2 v3 (.tup [])) v3 = some (.tup []):=Zb
  generalize upd J2 v3 (.tup []) = J3 at y3 z3 ⊢
  refine ⟨by show (4:Nat) <= sizeLine; decide,fun v4 hv4=>?_⟩
  have y4:Zh J3 (upd J3 v4 (.tup [.int 0,.ref v1,.ref v2,.ref v3])):=Zh.new hv4
  have z4:(upd J3 v4 (.tup [.int 0,.ref v1,.ref v2,.ref v3])) v4 = some (.tup [.int 0,.ref v1,.ref v2,.ref v3]):=Zb
  generalize upd J3 v4 (.tup [.int 0,.ref v1,.ref v2,.ref v3]) = J4 at y4 z4 ⊢
  have y14:=((y1.trans y2).trans y3).trans y4
  refine ⟨.ref r5,.ref v4,rfl,Zc9 (Zfr rfl rfl K5) (F5.same y14) z4 (y4 _ _ (y3 _ _ (y2 _ _ z1))) (y4 _ _ (y3 _ _ z2)) (y4 _ _ z3),true,rfl,Za3 ?_⟩
  have sE:=((((s4.trans t1).trans t2).trans t3).trans t4).trans (s9.trans y14)
  exact hR _ _ ⟨p1,r2,r3,ws,f2,kp,rfl,s0.trans sE,sE _ _ e1,c1,l1,F2.same sE,ok2,K3,F3.same sE⟩
 refine Zk3 _ 1 (fun σ' H'=>∃ (p1 r2 r3:Addr) (ws:List Str) (f2:FQ) (kp:List Int),σ' = [some (.ref a),some (.ref p1),some (.ref r2),some (.ref r3),none] /\ Zh H H' /\ H' p1 = some (.lst (ws.map V.str)) /\ Can SL 0 ws /\ ws.length <= 120 /\ FmQ H' r2 f2 /\ Okk 64 130 f2 /\ Kp f2 kp /\ FmQ H' r3 (trF f2 kp))
  ?_ (fun u hu5 hR=>⟨_,(Zd (ZaK (ZdQ (ZR (Zw g_l_alike hr rfl (Za (Zw g_trimmed hr rfl (Za (Z1 (Za Ze (Za (Z1 Zc) (Za (Z1 Zc) (Za (Z1 Zc) Zc))))) Zc)) (Za (Z1 (Za Ze (Za (Z1 Zc) (Za (Z1 Zc) (Za (Z1 Zc) Zc))))) Zc))) (fun _=>rfl)))
   (Zf (ZQ Zbf))
   Z6)
  hu5),?_⟩)
 rotate_left
 ·rintro σ0 H0 ⟨p1,r2,r3,ws,f2,kp,rfl,s0,e1,c1,l1,F2,ok2,K3,F3⟩
  refine ⟨by decide,fun u1 hu1=>?_⟩
  have t1:Zh H0 (upd H0 u1 (.tup [])):=Zh.new hu1
  have x1:(upd H0 u1 (.tup [])) u1 = some (.tup (([]:List Int).map V.int)):=Zb
  generalize upd H0 u1 (.tup []) = H5 at t1 x1 ⊢
  refine ⟨by decide,fun u2 hu2=>?_⟩
  have t2:Zh H5 (upd H5 u2 (.tup [])):=Zh.new hu2
  have x2:(upd H5 u2 (.tup [])) u2 = some (.tup (([]:List Int).map V.int)):=Zb
  generalize upd H5 u2 (.tup []) = H6 at t2 x2 ⊢
  refine ⟨by decide,fun u3 hu3=>?_⟩
  have t3:Zh H6 (upd H6 u3 (.tup [])):=Zh.new hu3
  have x3:(upd H6 u3 (.tup [])) u3 = some (.tup []):=Zb
  generalize upd H6 u3 (.tup []) = H7 at t3 x3 ⊢
  refine ⟨by show (4:Nat) <= sizeLine; decide,fun u4 hu4=>?_⟩
  have t4:Zh H7 (upd H7 u4 (.tup [.int 0,.ref u1,.ref u2,.ref u3])):=Zh.new hu4
  have x4:(upd H7 u4 (.tup [.int 0,.ref u1,.ref u2,.ref u3])) u4 = some (.tup [.int 0,.ref u1,.ref u2,.ref u3]):=Zb
  generalize upd H7 u4 (.tup [.int 0,.ref u1,.ref u2,.ref u3]) = H8 at t4 x4 ⊢
  refine ⟨u4,⟨0,[],[],[]⟩,rfl,⟨u1,u2,u3,[],x4,t4 _ _ (t3 _ _ (t2 _ _ x1)),t4 _ _ (t3 _ _ x2),t4 _ _ x3,.nil⟩,ZfA 0 (by decide) (by decide) List.Pairwise.nil (fun x hx=>(nomatch hx)) (by decide),fun r5 kp5 H9 s9 K5 F5=>?_⟩
  refine ⟨by decide,fun v1 hv1=>?_⟩
  have y1:Zh H9 (upd H9 v1 (.tup [])):=Zh.new hv1
  have z1:(upd H9 v1 (.tup [])) v1 = some (.tup []):=Zb
  generalize upd H9 v1 (.tup []) = J1 at y1 z1 ⊢
  refine ⟨by decide,fun v2 hv2=>?_⟩
  have y2:Zh J1 (upd J1 v2 (.tup [])):=Zh.new hv2
  have z2:(upd J1 v2 (.tup [])) v2 = some (.tup []):=Zb
  generalize upd J1 v2 (.tup []) = J2 at y2 z2 ⊢
  refine ⟨by decide,fun v3 hv3=>?_⟩
  have y3:Zh J2 (upd J2 v3 (.tup [])):=Zh.new hv3
  have z3:(upd J2 v3 (.tup [])) v3 = some (.tup []):=Zb
  generalize upd J2 v3 (.tup []) = J3 at y3 z3 ⊢
  refine ⟨by show (4:Nat) <= sizeLine; decide,fun v4 hv4=>?_⟩
  have y4:Zh J3 (upd J3 v4 (.tup [.int 0,.ref v1,.ref v2,.ref v3])):=Zh.new hv4
  have z4:(upd J3 v4 (.tup [.int 0,.ref v1,.ref v2,.ref v3])) v4 = some (.tup [.int 0,.ref v1,.ref v2,.ref v3]):=Zb
  generalize upd J3 v4 (.tup [.int 0,.ref v1,.ref v2,.ref v3]) = J4 at y4 z4 ⊢
  have y14:=((y1.trans y2).trans y3).trans y4
  refine ⟨.ref r5,.ref v4,rfl,Zc9 (Zfr rfl rfl K5) (F5.same y14) z4 (y4 _ _ (y3 _ _ (y2 _ _ z1))) (y4 _ _ (y3 _ _ z2)) (y4 _ _ z3),true,rfl,Za3 ?_⟩
  have sE:=(((t1.trans t2).trans t3).trans t4).trans (s9.trans y14)
  exact hR _ _ ⟨p1,r2,r3,ws,f2,kp,rfl,s0.trans sE,sE _ _ e1,c1,l1,F2.same sE,ok2,K3,F3.same sE⟩
 refine ⟨_,(Zd (Zn (i:=4) ZdP.nd rfl (Or.inl rfl) (Zw g_l_rest hr rfl (Za (pv 1) (Za (Zm Z3 (Zm Z7 (Zw g_l_cell hr rfl (Za (pv 0) (Za Ze Zc))) Ze) (Zm Zae (Zt Zq rfl (B "len" (by decide)) PySem.boot_len (Za (pv 1) Zc)) Ze)) Zc))))
  (Zd (ZaK (PW.pt (Zf9 (Zv Zix (Zw g_l_good hr rfl (Za (pv 2) (Za (pv 1) Zc))) (Zw g_l_good hr rfl (Za (pv 3) (Za (pv 1) Zc))) (ZX _)) (Zc3 (Zv Zix (Zw g_l_good hr rfl (Za (pv 2) (Za (pv 4) Zc))) (Zw g_l_good hr rfl (Za (pv 3) (Za (pv 4) Zc))) (ZX _)))))
   (Zf (ZQ Zbf))
   Z6)
  (Zf (ZQ (Zw g_l_alike hr rfl (Za (Zw g_trimmed hr rfl (Za (pv 2) Zc)) (Za (pv 3) Zc))))))),?_⟩
 rintro σ0 H0 ⟨p1,r2,r3,ws,f2,kp,rfl,s0,e1,c1,l1,F2,ok2,K3,F3⟩
 have w1:=ok2.tl
 have w2:=ok2.ql
 have w3:=ok2.hl
 have b1:(trF f2 kp).ts.length <= 900:=by
  show ((f2.ts.filter fun x=>decide (x ∈ kp)).map (ixI kp)).length <= 900
  rw [List.length_map]
  exact Nat.le_trans (List.length_filter_le ..) (by lia)
 have b2:(trF f2 kp).qs.length <= 900:=by
  show ((f2.qs.filter (inQ kp)).map (ixQ kp)).length <= 900
  rw [List.length_map]
  exact Nat.le_trans (List.length_filter_le ..) (by lia)
 have b3:(trF f2 kp).hs.length <= 900:=by
  show ((f2.hs.filter fun x=>decide (x ∈ kp)).map (ixI kp)).length <= 900
  rw [List.length_map]
  exact Nat.le_trans (List.length_filter_le ..) (by lia)
 have b4:Zca (trF f2 kp).ts:=ZeQ K3.1 ok2.ts
 refine ⟨_,rfl,_,rfl,a,ns,2,rfl,s0.seq hS,h63,by decide,by decide,fun d _ _=>?_⟩
 obtain ⟨n,en,hn⟩:=Zkx (d / 7) (n:=ws.length + 1) (by lia)
 have en':d / 7 % ((((ws.map V.str).length:Nat):Int) + 1) = (n:Int):=by
  rw [List.length_map]
  exact en
 refine ⟨_,_,rfl,rfl,⟨by decide,by decide⟩,_,rfl,p1,_,rfl,.inl (SqL.of e1),_,_,rfl,rfl,_,_,rfl,rfl,(by lia),p1,ws,n,(by rw [<- en']; rfl),SqL.of e1,c1,by lia,by lia,fun r7 H7 s7 hr7 e7=>?_⟩
 have cl7:Zei SL (bk (ws.drop n)).1:=by
  obtain ⟨k,hk⟩:=Zcr c1 n
  exact (ZcA hk).2.1
 have can7:Can SL 0 (words SL (bk (ws.drop n)).1):=by
  have h1:=ZcT (sl:=SL) cl7 (n:=0) (ws:=[]) rfl
  rw [List.append_nil] at h1
  exact h1
 have len7:(words SL (bk (ws.drop n)).1).length <= 300:=by
  obtain ⟨k,hk⟩:=Zcr c1 n
  have h1:=congrArg List.length (ZcA hk).1
  rw [List.length_append,List.length_drop] at h1
  lia
 generalize words SL (bk (ws.drop n)).1 = w7 at e7 can7 len7
 have F2:=F2.same s7
 have F3:=F3.same s7
 have e1:=s7 _ _ e1
 refine ⟨_,rfl,_,rfl,r2,p1,f2,ws,rfl,F2,ok2.ts,by lia,by lia,by lia,SqL.of e1,c1,by lia,fun g1 H8 s8 hg1=>?_⟩
 refine ⟨_,rfl,_,rfl,r3,p1,_,ws,rfl,F3.same s8,b4,b1,b2,b3,SqL.of (s8 _ _ e1),c1,by lia,fun g2 H9 s9 hg2=>?_⟩
 have eg:g1 = g2:=by
  rw [Bool.eq_iff_iff,hg1,hg2]
  exact (ZgY K3 _).symm
 refine ⟨rfl,_,rfl,Zje (congrArg V.bl eg) ?_⟩
 have s79:=s8.trans s9
 refine ⟨_,rfl,_,rfl,r2,r7,f2,w7,rfl,F2.same s79,ok2.ts,by lia,by lia,by lia,SqL.of (s79 _ _ e7),can7,len7,fun g3 J1 t1 hg3=>?_⟩
 have s71:=s79.trans t1
 refine ⟨_,rfl,_,rfl,r3,r7,_,w7,rfl,F3.same s71,b4,b1,b2,b3,SqL.of (s71 _ _ e7),can7,len7,fun g4 J2 t2 hg4=>?_⟩
 have eg2:g3 = g4:=by
  rw [Bool.eq_iff_iff,hg3,hg4]
  exact (ZgY K3 _).symm
 refine ⟨rfl,_,rfl,Zje (congrArg V.bl eg2) ?_⟩
 have s72:=s71.trans t2
 refine ⟨_,rfl,r2,f2,rfl,F2.same s72,ok2,fun r8 kp8 J3 t3 K8 F8=>?_⟩
 exact ⟨_,rfl,.ref r8,.ref r3,rfl,Zfq ok2 K8 K3 F8 ((F3.same s72).same t3),q _⟩
end
theorem Zj5 {l:PySem.W.OpenLaw} {w:World} {K:PySem.W.Frag} {h:Heap} {mg:Str -> Option Value} {fa f1 f2 f3 f4 f5 f6 f7 f8 f9 f10 f11 f12 f13 f14 f15 f16 f17 f18 f19 f20:Addr} (X:K.In h) (G:h.Ns mainGlobals mg) (hfa:mg "law" = some (.ref fa))
  {od1 an1 od2 an2 od3 an3 od4 an4 od5 an5 od6 an6 od7 an7 od8 an8 od9 an9 od10 an10 od11 an11 od12 an12 od13 an13 od14 an14 od15 an15 od16 an16 od17 an17 od18 an18 od19 an19 od20 an20:Option Addr} {sl1 sl2 sl3 sl4 sl5 sl6 sl7 sl8 sl9 sl10 sl11 sl12 sl13 sl14 sl15 sl16 sl17 sl18 sl19 sl20:Array (Option Value)} {oc1 kV1 dc1 pm1 cd1 ct1 oc2 kV2 dc2 pm2 cd2 ct2 oc3 kV3 dc3 pm3 cd3 ct3 oc4 kV4 dc4 pm4 cd4 ct4 oc5 kV5 dc5 pm5 cd5 ct5 oc6 kV6 dc6 pm6 cd6 ct6 oc7 kV7 dc7 pm7 cd7 ct7 oc8 kV8 dc8 pm8 cd8 ct8 oc9 kV9 dc9 pm9 cd9 ct9 oc10 kV10 dc10 pm10 cd10 ct10 oc11 kV11 dc11 pm11 cd11 ct11 oc12 kV12 dc12 pm12 cd12 ct12 oc13 kV13 dc13 pm13 cd13 ct13 oc14 kV14 dc14 pm14 cd14 ct14 oc15 kV15 dc15 pm15 cd15 ct15 oc16 kV16 dc16 pm16 cd16 ct16 oc17 kV17 dc17 pm17 cd17 ct17 oc18 kV18 dc18 pm18 cd18 ct18 oc19 kV19 dc19 pm19 cd19 ct19 oc20 kV20 dc20 pm20 cd20 ct20:Value}
  (a1:PySem.W.nsIn K mainGlobals "_law_cell" = some (some (.ref f1))) (l1:K.lookup f1 = some ⟨oc1,od1,.func (PySem.W.fnOf "_law_cell" "_law_cell" (ZC Zbr) (Zz Zbr) (Zg Zbr) .none kV1 dc1 pm1 an1 cd1 ct1),sl1⟩) (c1:PySem.W.codeIn K cd1 "_law_cell" = true) (k1:PySem.W.keepIn K (.ref f1) = true)
  (a2:PySem.W.nsIn K mainGlobals "_law_tag" = some (some (.ref f2))) (l2:K.lookup f2 = some ⟨oc2,od2,.func (PySem.W.fnOf "_law_tag" "_law_tag" (ZC Zb8) (Zz Zb8) (Zg Zb8) .none kV2 dc2 pm2 an2 cd2 ct2),sl2⟩) (c2:PySem.W.codeIn K cd2 "_law_tag" = true) (k2:PySem.W.keepIn K (.ref f2) = true)
  (a3:PySem.W.nsIn K mainGlobals "_law_words" = some (some (.ref f3))) (l3:K.lookup f3 = some ⟨oc3,od3,.func (PySem.W.fnOf "_law_words" "_law_words" (ZC ZaR) (Zz ZaR) (Zg ZaR) .none kV3 dc3 pm3 an3 cd3 ct3),sl3⟩) (c3:PySem.W.codeIn K cd3 "_law_words" = true) (k3:PySem.W.keepIn K (.ref f3) = true)
  (a4:PySem.W.nsIn K mainGlobals "_law_tails" = some (some (.ref f4))) (l4:K.lookup f4 = some ⟨oc4,od4,.func (PySem.W.fnOf "_law_tails" "_law_tails" (ZC ZaY) (Zz ZaY) (Zg ZaY) .none kV4 dc4 pm4 an4 cd4 ct4),sl4⟩) (c4:PySem.W.codeIn K cd4 "_law_tails" = true) (k4:PySem.W.keepIn K (.ref f4) = true)
  (a5:PySem.W.nsIn K mainGlobals "_law_kinds" = some (some (.ref f5))) (l5:K.lookup f5 = some ⟨oc5,od5,.func (PySem.W.fnOf "_law_kinds" "_law_kinds" (ZC ZaX) (Zz ZaX) (Zg ZaX) .none kV5 dc5 pm5 an5 cd5 ct5),sl5⟩) (c5:PySem.W.codeIn K cd5 "_law_kinds" = true) (k5:PySem.W.keepIn K (.ref f5) = true)
  (a6:PySem.W.nsIn K mainGlobals "_law_steps" = some (some (.ref f6))) (l6:K.lookup f6 = some ⟨oc6,od6,.func (PySem.W.fnOf "_law_steps" "_law_steps" (ZC ZaW) (Zz ZaW) (Zg ZaW) .none kV6 dc6 pm6 an6 cd6 ct6),sl6⟩) (c6:PySem.W.codeIn K cd6 "_law_steps" = true) (k6:PySem.W.keepIn K (.ref f6) = true)
  (a7:PySem.W.nsIn K mainGlobals "_law_form" = some (some (.ref f7))) (l7:K.lookup f7 = some ⟨oc7,od7,.func (PySem.W.fnOf "_law_form" "_law_form" (ZC Zbt) (Zz Zbt) (Zg Zbt) .none kV7 dc7 pm7 an7 cd7 ct7),sl7⟩) (c7:PySem.W.codeIn K cd7 "_law_form" = true) (k7:PySem.W.keepIn K (.ref f7) = true)
  (a8:PySem.W.nsIn K mainGlobals "_law_many" = some (some (.ref f8))) (l8:K.lookup f8 = some ⟨oc8,od8,.func (PySem.W.fnOf "_law_many" "_law_many" (ZC Zbq) (Zz Zbq) (Zg Zbq) .none kV8 dc8 pm8 an8 cd8 ct8),sl8⟩) (c8:PySem.W.codeIn K cd8 "_law_many" = true) (k8:PySem.W.keepIn K (.ref f8) = true)
  (a9:PySem.W.nsIn K mainGlobals "live_kinds" = some (some (.ref f9))) (l9:K.lookup f9 = some ⟨oc9,od9,.func (PySem.W.fnOf "live_kinds" "live_kinds" (ZC Zaf) (Zz Zaf) (Zg Zaf) .none kV9 dc9 pm9 an9 cd9 ct9),sl9⟩) (c9:PySem.W.codeIn K cd9 "live_kinds" = true) (k9:PySem.W.keepIn K (.ref f9) = true)
  (a10:PySem.W.nsIn K mainGlobals "reached" = some (some (.ref f10))) (l10:K.lookup f10 = some ⟨oc10,od10,.func (PySem.W.fnOf "reached" "reached" (ZC ZaL) (Zz ZaL) (Zg ZaL) .none kV10 dc10 pm10 an10 cd10 ct10),sl10⟩) (c10:PySem.W.codeIn K cd10 "reached" = true) (k10:PySem.W.keepIn K (.ref f10) = true)
  (a11:PySem.W.nsIn K mainGlobals "sorted_form" = some (some (.ref f11))) (l11:K.lookup f11 = some ⟨oc11,od11,.func (PySem.W.fnOf "sorted_form" "sorted_form" (ZC Zah) (Zz Zah) (Zg Zah) .none kV11 dc11 pm11 an11 cd11 ct11),sl11⟩) (c11:PySem.W.codeIn K cd11 "sorted_form" = true) (k11:PySem.W.keepIn K (.ref f11) = true)
  (a12:PySem.W.nsIn K mainGlobals "trimmed" = some (some (.ref f12))) (l12:K.lookup f12 = some ⟨oc12,od12,.func (PySem.W.fnOf "trimmed" "trimmed" (ZC ZaI) (Zz ZaI) (Zg ZaI) .none kV12 dc12 pm12 an12 cd12 ct12),sl12⟩) (c12:PySem.W.codeIn K cd12 "trimmed" = true) (k12:PySem.W.keepIn K (.ref f12) = true)
  (a13:PySem.W.nsIn K mainGlobals "_law_alike" = some (some (.ref f13))) (l13:K.lookup f13 = some ⟨oc13,od13,.func (PySem.W.fnOf "_law_alike" "_law_alike" (ZC ZaV) (Zz ZaV) (Zg ZaV) .none kV13 dc13 pm13 an13 cd13 ct13),sl13⟩) (c13:PySem.W.codeIn K cd13 "_law_alike" = true) (k13:PySem.W.keepIn K (.ref f13) = true)
  (a14:PySem.W.nsIn K mainGlobals "_law_live" = some (some (.ref f14))) (l14:K.lookup f14 = some ⟨oc14,od14,.func (PySem.W.fnOf "_law_live" "_law_live" (ZC Zbp) (Zz Zbp) (Zg Zbp) .none kV14 dc14 pm14 an14 cd14 ct14),sl14⟩) (c14:PySem.W.codeIn K cd14 "_law_live" = true) (k14:PySem.W.keepIn K (.ref f14) = true)
  (a15:PySem.W.nsIn K mainGlobals "_law_needed" = some (some (.ref f15))) (l15:K.lookup f15 = some ⟨oc15,od15,.func (PySem.W.fnOf "_law_needed" "_law_needed" (ZC ZaH) (Zz ZaH) (Zg ZaH) .none kV15 dc15 pm15 an15 cd15 ct15),sl15⟩) (c15:PySem.W.codeIn K cd15 "_law_needed" = true) (k15:PySem.W.keepIn K (.ref f15) = true)
  (a16:PySem.W.nsIn K mainGlobals "_law_due" = some (some (.ref f16))) (l16:K.lookup f16 = some ⟨oc16,od16,.func (PySem.W.fnOf "_law_due" "_law_due" (ZC Zb6) (Zz Zb6) (Zg Zb6) .none kV16 dc16 pm16 an16 cd16 ct16),sl16⟩) (c16:PySem.W.codeIn K cd16 "_law_due" = true) (k16:PySem.W.keepIn K (.ref f16) = true)
  (a17:PySem.W.nsIn K mainGlobals "_law_rest" = some (some (.ref f17))) (l17:K.lookup f17 = some ⟨oc17,od17,.func (PySem.W.fnOf "_law_rest" "_law_rest" (ZC Zbn) (Zz Zbn) (Zg Zbn) .none kV17 dc17 pm17 an17 cd17 ct17),sl17⟩) (c17:PySem.W.codeIn K cd17 "_law_rest" = true) (k17:PySem.W.keepIn K (.ref f17) = true)
  (a18:PySem.W.nsIn K mainGlobals "_law_rests" = some (some (.ref f18))) (l18:K.lookup f18 = some ⟨oc18,od18,.func (PySem.W.fnOf "_law_rests" "_law_rests" (ZC Za0) (Zz Za0) (Zg Za0) .none kV18 dc18 pm18 an18 cd18 ct18),sl18⟩) (c18:PySem.W.codeIn K cd18 "_law_rests" = true) (k18:PySem.W.keepIn K (.ref f18) = true)
  (a19:PySem.W.nsIn K mainGlobals "_law_good" = some (some (.ref f19))) (l19:K.lookup f19 = some ⟨oc19,od19,.func (PySem.W.fnOf "_law_good" "_law_good" (ZC Zbo) (Zz Zbo) (Zg Zbo) .none kV19 dc19 pm19 an19 cd19 ct19),sl19⟩) (c19:PySem.W.codeIn K cd19 "_law_good" = true) (k19:PySem.W.keepIn K (.ref f19) = true)
  (a20:PySem.W.nsIn K mainGlobals "law" = some (some (.ref f20))) (l20:K.lookup f20 = some ⟨oc20,od20,.func (PySem.W.fnOf "law" "law" (ZC ZdA) (Zz ZdA) (Zg ZdA) .none kV20 dc20 pm20 an20 cd20 ct20),sl20⟩) (c20:PySem.W.codeIn K cd20 "law" = true) (k20:PySem.W.keepIn K (.ref f20) = true)
  {tk0 tk1:Tok} (y0:PySem.W.nsIn K mainGlobals "MOST_KINDS" = some (some (.int 64 tk0))) (y1:PySem.W.nsIn K mainGlobals "MOST_RULES" = some (some (.int 400 tk1)))
  (z0:PySem.W.nsIn K mainGlobals "bool" = some none) (z1:PySem.W.nsIn K mainGlobals "dict" = some none) (z2:PySem.W.nsIn K mainGlobals "int" = some none) (z3:PySem.W.nsIn K mainGlobals "isinstance" = some none) (z4:PySem.W.nsIn K mainGlobals "len" = some none) (z5:PySem.W.nsIn K mainGlobals "list" = some none) (z6:PySem.W.nsIn K mainGlobals "min" = some none) (z7:PySem.W.nsIn K mainGlobals "range" = some none) (z8:PySem.W.nsIn K mainGlobals "reversed" = some none) (z9:PySem.W.nsIn K mainGlobals "set" = some none) (z10:PySem.W.nsIn K mainGlobals "sorted" = some none) (z11:PySem.W.nsIn K mainGlobals "str" = some none) (z12:PySem.W.nsIn K mainGlobals "tuple" = some none) :
  ∃ fd:FuncData,(∀ (s:Shared) (v:Value),BindsTo s fd ⟨[v],[]⟩ [("_law_script",v)]) /\ ∀ base:Heap,K.In base -> base.Ns mainGlobals mg -> FnOk l.prog w K mg base CX0 5 fa fd ["_law_script"] (Fg.Ziz K):=by
 have e:=hfa.symm.trans (PySem.W.mg_of X G a20)
 cases e
 have B:∀ x ∈ ZcY,mg x = none:=List.forall_mem_cons.mpr ⟨PySem.W.mg_none_of X G z0,List.forall_mem_cons.mpr ⟨PySem.W.mg_none_of X G z1,List.forall_mem_cons.mpr ⟨PySem.W.mg_none_of X G z2,List.forall_mem_cons.mpr ⟨PySem.W.mg_none_of X G z3,List.forall_mem_cons.mpr ⟨PySem.W.mg_none_of X G z4,List.forall_mem_cons.mpr ⟨PySem.W.mg_none_of X G z5,List.forall_mem_cons.mpr ⟨PySem.W.mg_none_of X G z6,List.forall_mem_cons.mpr ⟨PySem.W.mg_none_of X G z7,List.forall_mem_cons.mpr ⟨PySem.W.mg_none_of X G z8,List.forall_mem_cons.mpr ⟨PySem.W.mg_none_of X G z9,List.forall_mem_cons.mpr ⟨PySem.W.mg_none_of X G z10,List.forall_mem_cons.mpr ⟨PySem.W.mg_none_of X G z11,List.forall_mem_cons.mpr ⟨PySem.W.mg_none_of X G z12,List.forall_mem_nil _⟩⟩⟩⟩⟩⟩⟩⟩⟩⟩⟩⟩⟩
 have Cc_MOST_KINDS:∃ t:Tok,mg "MOST_KINDS" = some (.int 64 t):=⟨_,PySem.W.mg_of X G y0⟩
 have Cc_MOST_RULES:∃ t:Tok,mg "MOST_RULES" = some (.int 400 t):=⟨_,PySem.W.mg_of X G y1⟩
 have F1:=Zam (st:=Zbr) l1 c1 k1
 have b1:=F1.binds (ps:=["_law_script","_law_k"]) fun _ _ _ _ _ _ us hl=>by obtain ⟨_,_,rfl⟩:=ZgI hl; rfl
 have F2:=Zam (st:=Zb8) l2 c2 k2
 have b2:=F2.binds (ps:=["_law_seed","_law_v"]) fun _ _ _ _ _ _ us hl=>by obtain ⟨_,_,rfl⟩:=ZgI hl; rfl
 have F3:=Zam (st:=ZaR) l3 c3 k3
 have b3:=F3.binds (ps:=["_law_script","_law_first","_law_last"]) fun _ _ _ _ _ _ us hl=>by obtain ⟨_,_,_,rfl⟩:=Zkp hl; rfl
 have F4:=Zam (st:=ZaY) l4 c4 k4
 have b4:=F4.binds (ps:=["_law_script","_law_many_here"]) fun _ _ _ _ _ _ us hl=>by obtain ⟨_,_,rfl⟩:=ZgI hl; rfl
 have F5:=Zam (st:=ZaX) l5 c5 k5
 have b5:=F5.binds (ps:=["_law_script","_law_words_here","_law_many_here"]) fun _ _ _ _ _ _ us hl=>by obtain ⟨_,_,_,rfl⟩:=Zkp hl; rfl
 have F6:=Zam (st:=ZaW) l6 c6 k6
 have b6:=F6.binds (ps:=["_law_words_here","_law_kinds_here"]) fun _ _ _ _ _ _ us hl=>by obtain ⟨_,_,rfl⟩:=ZgI hl; rfl
 have F7:=Zam (st:=Zbt) l7 c7 k7
 have b7:=F7.binds (ps:=["_law_script","_law_words_here","_law_many_here"]) fun _ _ _ _ _ _ us hl=>by obtain ⟨_,_,_,rfl⟩:=Zkp hl; rfl
 have F8:=Zam (st:=Zbq) l8 c8 k8
 have b8:=F8.binds (ps:=["_law_cell_here"]) fun _ _ _ _ _ _ us hl=>by obtain ⟨_,rfl⟩:=ZjC hl; rfl
 have F9:=Zam (st:=Zaf) l9 c9 k9
 have b9:=F9.binds (ps:=["form"]) fun _ _ _ _ _ _ us hl=>by obtain ⟨_,rfl⟩:=ZjC hl; rfl
 have F10:=Zam (st:=ZaL) l10 c10 k10
 have b10:=F10.binds (ps:=["starts","rules"]) fun _ _ _ _ _ _ us hl=>by obtain ⟨_,_,rfl⟩:=ZgI hl; rfl
 have F11:=Zam (st:=Zah) l11 c11 k11
 have b11:=F11.binds (ps:=["many","starts","ends","rules"]) fun _ _ _ _ _ _ us hl=>by obtain ⟨_,_,_,_,rfl⟩:=Zlz hl; rfl
 have F12:=Zam (st:=ZaI) l12 c12 k12
 have b12:=F12.binds (ps:=["form"]) fun _ _ _ _ _ _ us hl=>by obtain ⟨_,rfl⟩:=ZjC hl; rfl
 have F13:=Zam (st:=ZaV) l13 c13 k13
 have b13:=F13.binds (ps:=["_law_found","_law_due_here"]) fun _ _ _ _ _ _ us hl=>by obtain ⟨_,_,rfl⟩:=ZgI hl; rfl
 have F14:=Zam (st:=Zbp) l14 c14 k14
 have b14:=F14.binds (ps:=["_law_one"]) fun _ _ _ _ _ _ us hl=>by obtain ⟨_,rfl⟩:=ZjC hl; rfl
 have F15:=Zam (st:=ZaH) l15 c15 k15
 have b15:=F15.binds (ps:=["_law_one","_law_good_here"]) fun _ _ _ _ _ _ us hl=>by obtain ⟨_,_,rfl⟩:=ZgI hl; rfl
 have F16:=Zam (st:=Zb6) l16 c16 k16
 have b16:=F16.binds (ps:=["_law_one"]) fun _ _ _ _ _ _ us hl=>by obtain ⟨_,rfl⟩:=ZjC hl; rfl
 have F17:=Zam (st:=Zbn) l17 c17 k17
 have b17:=F17.binds (ps:=["_law_words_here","_law_at"]) fun _ _ _ _ _ _ us hl=>by obtain ⟨_,_,rfl⟩:=ZgI hl; rfl
 have F18:=Zam (st:=Za0) l18 c18 k18
 have b18:=F18.binds (ps:=["_law_one","_law_words_here"]) fun _ _ _ _ _ _ us hl=>by obtain ⟨_,_,rfl⟩:=ZgI hl; rfl
 have F19:=Zam (st:=Zbo) l19 c19 k19
 have b19:=F19.binds (ps:=["_law_one","_law_words_here"]) fun _ _ _ _ _ _ us hl=>by obtain ⟨_,_,rfl⟩:=ZgI hl; rfl
 have F20:=Zam (st:=ZdA) l20 c20 k20
 refine ⟨PySem.W.fnOf "law" "law" (ZC ZdA) (Zz ZdA) (Zg ZdA) .none kV20 dc20 pm20 an20 cd20 ct20,fun s v=>.of_eq rfl,fun base _ _=>?_⟩
 have g_l_cell:Has l.prog w K mg base "_law_cell" ["_law_script","_law_k"] 1 (Fg.Za4 K):=⟨⟨f1,_,ZgJ B  F1,b1,k1,PySem.W.mg_of X G a1⟩⟩
 have g_l_tag:Has l.prog w K mg base "_law_tag" ["_law_seed","_law_v"] 1 (Fg.ZeY):=⟨⟨f2,_,Zh3 B  F2,b2,k2,PySem.W.mg_of X G a2⟩⟩
 have g_l_words:Has l.prog w K mg base "_law_words" ["_law_script","_law_first","_law_last"] 2 (K19.ZcD K):=⟨⟨f3,_,Zgb B g_l_cell g_l_tag F3,b3,k3,PySem.W.mg_of X G a3⟩⟩
 have g_l_tails:Has l.prog w K mg base "_law_tails" ["_law_script","_law_many_here"] 2 (K19.Zdh K):=⟨⟨f4,_,Zf6 B g_l_cell F4,b4,k4,PySem.W.mg_of X G a4⟩⟩
 have g_l_kinds:Has l.prog w K mg base "_law_kinds" ["_law_script","_law_words_here","_law_many_here"] 3 (K19.ZcH K):=⟨⟨f5,_,Zgd B g_l_tails g_l_cell F5,b5,k5,PySem.W.mg_of X G a5⟩⟩
 have g_l_steps:Has l.prog w K mg base "_law_steps" ["_law_words_here","_law_kinds_here"] 1 (K19.ZcC K):=⟨⟨f6,_,ZfC B  F6,b6,k6,PySem.W.mg_of X G a6⟩⟩
 have g_l_form:Has l.prog w K mg base "_law_form" ["_law_script","_law_words_here","_law_many_here"] 4 (K19.ZdF K):=⟨⟨f7,_,ZgX B g_l_kinds g_l_steps g_l_cell g_l_tag g_l_tails F7,b7,k7,PySem.W.mg_of X G a7⟩⟩
 have g_l_many:Has l.prog w K mg base "_law_many" ["_law_cell_here"] 1 (K19.Zgs):=⟨⟨f8,_,ZgL B  F8,b8,k8,PySem.W.mg_of X G a8⟩⟩
 have g_live_kinds:Has l.prog w K mg base "live_kinds" ["form"] 1 (K19.ZeU K):=⟨⟨f9,_,Zdv B  F9,b9,k9,PySem.W.mg_of X G a9⟩⟩
 have g_reached:Has l.prog w K mg base "reached" ["starts","rules"] 1 (K19.Zcy K):=⟨⟨f10,_,ZfS B  F10,b10,k10,PySem.W.mg_of X G a10⟩⟩
 have g_sorted_form:Has l.prog w K mg base "sorted_form" ["many","starts","ends","rules"] 1 (Fg.Zbh K):=⟨⟨f11,_,ZcV B Cc_MOST_KINDS Cc_MOST_RULES  F11,b11,k11,PySem.W.mg_of X G a11⟩⟩
 have g_trimmed:Has l.prog w K mg base "trimmed" ["form"] 2 (K19.Zdd K):=⟨⟨f12,_,Zf1 B g_live_kinds g_reached g_sorted_form F12,b12,k12,PySem.W.mg_of X G a12⟩⟩
 have ga:∀ d:Nat,Has l.prog w K mg base "_law_alike" ["_law_found","_law_due_here"] d (Fg.Zil d):=by
  intro d
  induction d with
  | zero=>exact ⟨⟨f13,_,FnOk.none (fun vs H Q E z=>by obtain ⟨u,v,_,hA,_⟩:=z; exact hA),b13,k13,PySem.W.mg_of X G a13⟩⟩
  | succ d ih=>exact ⟨⟨f13,_,ZfH d B ih F13,b13,k13,PySem.W.mg_of X G a13⟩⟩
 have g_l_alike:=ga 4
 have g_l_live:Has l.prog w K mg base "_law_live" ["_law_one"] 1 (K19.Zeu K):=⟨⟨f14,_,Zhv B  F14,b14,k14,PySem.W.mg_of X G a14⟩⟩
 have g_l_needed:Has l.prog w K mg base "_law_needed" ["_law_one","_law_good_here"] 1 (K19.Zdr K):=⟨⟨f15,_,Zez B  F15,b15,k15,PySem.W.mg_of X G a15⟩⟩
 have g_l_due:Has l.prog w K mg base "_law_due" ["_law_one"] 2 (K19.Zdd K):=⟨⟨f16,_,Zig B g_l_live g_l_needed F16,b16,k16,PySem.W.mg_of X G a16⟩⟩
 have g_l_rest:Has l.prog w K mg base "_law_rest" ["_law_words_here","_law_at"] 1 (K19.ZgV K):=⟨⟨f17,_,Zgt B  F17,b17,k17,PySem.W.mg_of X G a17⟩⟩
 have g_l_rests:Has l.prog w K mg base "_law_rests" ["_law_one","_law_words_here"] 1 (Fg.ZeH K):=⟨⟨f18,_,ZfJ B  F18,b18,k18,PySem.W.mg_of X G a18⟩⟩
 have g_l_good:Has l.prog w K mg base "_law_good" ["_law_one","_law_words_here"] 2 (Fg.ZgU K):=⟨⟨f19,_,ZgE B g_l_rests F19,b19,k19,PySem.W.mg_of X G a19⟩⟩
 exact Zj3 B g_l_words g_l_form g_l_many g_l_cell g_trimmed g_l_alike g_l_due g_l_rest g_l_good F20
theorem walk {l:PySem.W.OpenLaw} {q:Program} {loose:List Str} {XP:(Str -> Option Value) -> Heap -> Prop} {YP:World -> Heap -> Prop} {d:DefRec} {K:Params -> PySem.W.Frag} (hn:l.most = some 63) (hdf:d.params.defaults = [])
  (hY:∀ (w:World) (h:Heap),YP w h -> (K w.params).In h)
  (F:∀ (w:World) (mg:Str -> Option Value) (fa:Addr) (h:Heap),(K w.params).In h -> h.Ns mainGlobals mg -> mg d.name = some (.ref fa) ->
   ∃ fd:FuncData,(∀ (s:Shared) (u:Value),BindsTo s fd ⟨[u],[]⟩ [("_law_script",u)]) /\ ∀ base:Heap,(K w.params).In base -> base.Ns mainGlobals mg -> FnOk l.prog w (K w.params) mg base CX0 5 fa fd ["_law_script"] (Fg.Ziz (K w.params))) :
  PySem.W.WalkO q loose XP YP l.row.toRowW d [] (fun f vs=>PySem.call f vs) :=
 L2.Zhn (n:=63) (k:=5) (x := "_law_script") (CX:=fun _=>CX0) (sp:=fun w=>Fg.Ziz (K w.params)) hn (by decide) hdf ⟨rfl,by decide,by decide⟩ hY F (fun _ _ a ns hl _ hS=>⟨a,ns,rfl,hS,hl,fun _=>rfl⟩) fun _ _ _ _ _ z=>z
end K19
def PySem.W.Fast.tw9763249109434449682:=0
def PySem.W.Fast.tw2221523557916311505:=0
def PySem.W.Fast.tw12695139450620432697:=0
def PySem.W.Fast.tw12067613830771088916:=0
def PySem.W.Fast.tw8191617580880877402:=0
def PySem.W.Fast.tw17903915044856632021:=0
def PySem.W.Fast.tw12099388100360685358:=0
def PySem.W.Fast.tw16700971561640118737:=0
def PySem.W.Fast.tw11949292663557459533:=0
def PySem.W.Fast.tw3813335940497622327:=0
def PySem.W.Fast.tw14859301383624559561:=0
def PySem.W.Fast.tw10097891238256269836:=0
def PySem.W.Fast.tw11164217910778041085:=0
def PySem.W.Fast.tw10434828083764353186:=0
def PySem.W.Fast.tw18296552449605413609:=0
def PySem.W.Fast.tw1852801875009368878:=0
def PySem.W.Fast.tw18064180227221061668:=0
def PySem.W.Fast.tw11421470672253270865:=0
def PySem.W.Fast.tw14424590183327010260:=0
def PySem.W.Fast.tw16867733928345334994:=0
def PySem.W.Fast.tw7021848993399748113:=0
def PySem.W.Fast.tw5846529553086747571:=0
def PySem.W.Fast.tw17841793644077998987:=0
def PySem.W.Fast.tw12092522816576622242:=0
def PySem.W.Fast.tw12600018177407108560:=0
def PySem.W.Fast.tw6089778249954361228:=0
def PySem.W.Fast.tw10746398066681427549:=0
def PySem.W.Fast.tw5519715046618746495:=0
def PySem.W.Fast.tw4947324530460050703:=0
def PySem.W.Fast.tw11041898796151989669:=0
def PySem.W.Fast.tw13920581526281819964:=0
def PySem.W.Fast.tw12386457537123427998:=0
def PySem.W.Fast.tw4668303159733665299:=0
def PySem.W.Fast.tw1287934599882083652:=0
def PySem.W.Fast.tw3163540508464810018:=0
def PySem.W.Fast.tw4288820436012437560:=0
def PySem.W.Fast.tw14591576527697282007:=0
def PySem.W.Fast.tw13378938077197529169:=0
def PySem.W.Fast.tw16240665572188534050:=0
def PySem.W.Fast.tw2498972496302087445:=0
def PySem.W.Fast.tw18257700586627760720:=0
def PySem.W.Fast.tw4529004051391002802:=0
def PySem.W.Fast.tw1368281054303606999:=0
def PySem.W.Fast.tw9161805046915511657:=0
def PySem.W.Fast.tw17063783757670298424:=0
def PySem.W.Fast.tw5474017030344648893:=0
def PySem.W.Fast.tw3181136205013439236:=0
def PySem.W.Fast.tw11881490847125384188:=0
def PySem.W.Fast.tw16568535051524416226:=0
def PySem.W.Fast.tw352893473108752725:=0
def PySem.W.Fast.tw17633332827749150741:=0
def PySem.W.Fast.tw15158159185500245895:=0
def PySem.W.Fast.tw14607931414493881565:=0
def PySem.W.Fast.tw2840920653052443924:=0
def PySem.W.Fast.tw2044997284746914914:=0
def PySem.W.Fast.tw5548403286806569408:=0
def PySem.W.Fast.tw962191975407879076:=0
def PySem.W.Fast.tw11479911562397699549:=0
def PySem.W.Fast.tw16044982767182283649:=0
def PySem.W.Fast.tw3694114498907451080:=0
def PySem.W.Fast.tw9189048270519427263:=0
def PySem.W.Fast.tw6772664010742581749:=0
def PySem.W.Fast.tw1230817884475815354:=0
def PySem.W.Fast.tw9186202289040369987:=0
def PySem.W.Fast.tw11627086429838341602:=0
def PySem.W.Fast.tw16896954817891484833:=0
def PySem.W.Fast.tw7590949383122487621:=0
def PySem.W.Fast.tw12986798925626427740:=0
def PySem.W.Fast.tw7946084337459375374:=0
def PySem.W.Fast.tw4091246225848109029:=0
def PySem.W.Fast.tw608885095718393799:=0
def PySem.W.Fast.tw9251527334042472106:=0
def PySem.W.Fast.tw5564385045075198845:=0
def PySem.W.Fast.tw107902324639129453:=0
def PySem.W.Fast.tw5239913357720396353:=0
def PySem.W.Fast.tw11352538665291951342:=0
def PySem.W.Fast.tw6775120269870822623:=0
def PySem.W.Fast.tw370088909310273769:=0
def PySem.W.Fast.tw4232682571368039732:=0
def PySem.W.Fast.tw12597558897576230421:=0
def PySem.W.Fast.tw6602177389090168540:=0
def PySem.W.Fast.tw486651825999696836:=0
def PySem.W.Fast.tw1221290756359888754:=0
def PySem.W.Fast.tw13309502933955310052:=0
def PySem.W.Fast.tw9216951463945887385:=0
def PySem.W.Fast.tw12629997527536884514:=0
def PySem.W.Fast.tw9903139703875648852:=0
def PySem.W.Fast.tw13248377960042984627:=0
def PySem.W.Fast.tw18154839499716610535:=0
def PySem.W.Fast.tw2387891059205693980:=0
def PySem.W.Fast.tw12543036131185061150:=0
def PySem.W.Fast.tw4572719572844706849:=0
def PySem.W.Fast.tw8278049141466607359:=0
def PySem.W.Fast.tw6782741036122126612:=0
def PySem.W.Fast.tw10126240571377832129:=0
def PySem.W.Fast.tw6029242939547698844:=0
def PySem.W.Fast.tw1279169018483493735:=0
def PySem.W.Fast.tw4216756550517465027:=0
def PySem.W.Fast.tw14876747447782658995:=0
def PySem.W.Fast.tw6979187933639630708:=0
def PySem.W.Fast.tw1953830174414252470:=0
def PySem.W.Fast.tw12313786448185302569:=0
def PySem.W.Fast.tw1759599648415769238:=0
def PySem.W.Fast.tw5166963565334974830:=0
def PySem.W.Fast.tw7003128726836081217:=0
def PySem.W.Fast.tw14068943599741589961:=0
def PySem.W.Fast.tw11815005825258573721:=0
def PySem.W.Fast.tw7020729941178309669:=0
def PySem.W.Fast.tw4699909200555169465:=0
def PySem.W.Fast.tw16545040720308917660:=0
def PySem.W.Fast.tw3428263659901500716:=0
def PySem.W.Fast.tw5328456313197693113:=0
def PySem.W.Fast.tw15894058285287374292:=0
def PySem.W.Fast.tw11613244338471299091:=0
def PySem.W.Fast.tw1368549007968936999:=0
def PySem.W.Fast.tw17164345049477750148:=0
def PySem.W.Fast.tw17778733633348792384:=0
def PySem.W.Fast.tw10442282075421162359:=0
def PySem.W.Fast.tw11879039140331033540:=0
def PySem.W.Fast.tw5480229506202681929:=0
def PySem.W.Fast.tw1526897306396965653:=0
def PySem.W.Fast.tw48899079430026418:=0
def PySem.W.Fast.tw10293018369800551991:=0
def PySem.W.Fast.tw15803752829162738304:=0
def PySem.W.Fast.tw16426651999527983339:=0
def PySem.W.Fast.tw9935547324572393324:=0
def PySem.W.Fast.tw17224023945025403946:=0
def PySem.W.Fast.tw8947589598326472848:=0
def PySem.W.Fast.tw14381482256213467790:=0
def PySem.W.Fast.tw17024371944309595203:=0
def PySem.W.Fast.tw3552323011696894354:=0
def PySem.W.Fast.tw716085529281112319:=0
def PySem.W.Fast.tw14329536852743578554:=0
def PySem.W.Fast.tw12381293588078579958:=0
def PySem.W.Fast.tw7157509024459679554:=0
def PySem.W.Fast.tw9800938401108989688:=0
def PySem.W.Fast.tw2775060045805065281:=0
def PySem.W.Fast.tw16101773866486732506:=0
def PySem.W.Fast.tw16631348006130596744:=0
def PySem.W.Fast.tw5716808858039251331:=0
def PySem.W.Fast.tw9849520059786463167:=0
def PySem.W.Fast.tw10568742453241052259:=0
def PySem.W.Fast.tw11040779368299513304:=0
def PySem.W.Fast.tw17695303131829094504:=0
def PySem.W.Fast.tw165231011305797317:=0
def PySem.W.Fast.tw12311187472380849467:=0
def PySem.W.Fast.tw1955550875506564520:=0
def PySem.W.Fast.tw2884665754765085045:=0
def PySem.W.Fast.tw1530584938268607538:=0
def PySem.W.Fast.tw12005114643453739366:=0
def PySem.W.Fast.tw103195481479602279:=0
def PySem.W.Fast.tw18385606924896619495:=0
def PySem.W.Fast.tw15672686706663469866:=0
def PySem.W.Fast.tw16339044417039910257:=0
def PySem.W.Fast.tw39278797316306134:=0
def PySem.W.Fast.tw11089272177637314482:=0
def PySem.W.Fast.tw6212102298644682984:=0
def PySem.W.Fast.tw15302920082947127809:=0
def PySem.W.Fast.tw695929794553129229:=0
def PySem.W.Fast.tw10358397585448431923:=0
def PySem.W.Fast.tw10338532942184007387:=0
def PySem.W.Fast.tw10936694794409316006:=0
def PySem.W.Fast.tw13209201059895331597:=0
def PySem.W.Fast.tw1686743443811497237:=0
def PySem.W.Fast.tw10921597763249151905:=0
def PySem.W.Fast.tw12018658817036753196:=0
open PySem PySem.W PyProof.Rows
set_option maxRecDepth 100000 in
set_option maxHeartbeats 0 in
theorem PySem.Challenge.cw_formgrove_k19_trimmed_holds : PySem.Challenge.rw_formgrove_k19_trimmed.Holds := by
 w_on; o_law; k_head; (case hw=>w_witness2)
 k_fill
 refine K19.walk (l:=PySem.Challenge.rw_formgrove_k19_trimmed) rfl rfl (fun w h Y=>PySem.W.kIn_of Y) ?F
 case F =>
  intro w mg fa h KX G hmg
  refine' K19.Zj5 KX G hmg ?a1 ?l1 ?c1 ?k1 ?a2 ?l2 ?c2 ?k2 ?a3 ?l3 ?c3 ?k3 ?a4 ?l4 ?c4 ?k4 ?a5 ?l5 ?c5 ?k5 ?a6 ?l6 ?c6 ?k6 ?a7 ?l7 ?c7 ?k7 ?a8 ?l8 ?c8 ?k8 ?a9 ?l9 ?c9 ?k9 ?a10 ?l10 ?c10 ?k10 ?a11 ?l11 ?c11 ?k11 ?a12 ?l12 ?c12 ?k12 ?a13 ?l13 ?c13 ?k13 ?a14 ?l14 ?c14 ?k14 ?a15 ?l15 ?c15 ?k15 ?a16 ?l16 ?c16 ?k16 ?a17 ?l17 ?c17 ?k17 ?a18 ?l18 ?c18 ?k18 ?a19 ?l19 ?c19 ?k19 ?a20 ?l20 ?c20 ?k20 ?y0 ?y1 ?z0 ?z1 ?z2 ?z3 ?z4 ?z5 ?z6 ?z7 ?z8 ?z9 ?z10 ?z11 ?z12
  (case a1=>k_is)
  (case l1=>k_is)
  (case c1=>k_is)
  (case k1=>k_is)
  (case a2=>k_is)
  (case l2=>k_is)
  (case c2=>k_is)
  (case k2=>k_is)
  (case a3=>k_is)
  (case l3=>k_is)
  (case c3=>k_is)
  (case k3=>k_is)
  (case a4=>k_is)
  (case l4=>k_is)
  (case c4=>k_is)
  (case k4=>k_is)
  (case a5=>k_is)
  (case l5=>k_is)
  (case c5=>k_is)
  (case k5=>k_is)
  (case a6=>k_is)
  (case l6=>k_is)
  (case c6=>k_is)
  (case k6=>k_is)
  (case a7=>k_is)
  (case l7=>k_is)
  (case c7=>k_is)
  (case k7=>k_is)
  (case a8=>k_is)
  (case l8=>k_is)
  (case c8=>k_is)
  (case k8=>k_is)
  (case a9=>k_is)
  (case l9=>k_is)
  (case c9=>k_is)
  (case k9=>k_is)
  (case a10=>k_is)
  (case l10=>k_is)
  (case c10=>k_is)
  (case k10=>k_is)
  (case a11=>k_is)
  (case l11=>k_is)
  (case c11=>k_is)
  (case k11=>k_is)
  (case a12=>k_is)
  (case l12=>k_is)
  (case c12=>k_is)
  (case k12=>k_is)
  (case a13=>k_is)
  (case l13=>k_is)
  (case c13=>k_is)
  (case k13=>k_is)
  (case a14=>k_is)
  (case l14=>k_is)
  (case c14=>k_is)
  (case k14=>k_is)
  (case a15=>k_is)
  (case l15=>k_is)
  (case c15=>k_is)
  (case k15=>k_is)
  (case a16=>k_is)
  (case l16=>k_is)
  (case c16=>k_is)
  (case k16=>k_is)
  (case a17=>k_is)
  (case l17=>k_is)
  (case c17=>k_is)
  (case k17=>k_is)
  (case a18=>k_is)
  (case l18=>k_is)
  (case c18=>k_is)
  (case k18=>k_is)
  (case a19=>k_is)
  (case l19=>k_is)
  (case c19=>k_is)
  (case k19=>k_is)
  (case a20=>k_is)
  (case l20=>k_is)
  (case c20=>k_is)
  (case k20=>k_is)
  (case y0=>k_is)
  (case y1=>k_is)
  (case z0=>k_is)
  (case z1=>k_is)
  (case z2=>k_is)
  (case z3=>k_is)
  (case z4=>k_is)
  (case z5=>k_is)
  (case z6=>k_is)
  (case z7=>k_is)
  (case z8=>k_is)
  (case z9=>k_is)
  (case z10=>k_is)
  (case z11=>k_is)
  (case z12=>k_is)
