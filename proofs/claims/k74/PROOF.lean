import PyProof.Rows.All
import Wide.All
import OpenK.AllK
import Wide.FinOn
import Lean
import PyProof.EqAt
import PyProof.EqKinds
import PyProof.TupleCall
import PySem.Challenge.RW_formgrove_k74_whole_changed_in_turn
set_option Elab.async false
set_option linter.all false
set_option maxRecDepth 100000
namespace L2
open PySem PySem.Spec PyProof.Rows
abbrev Key:=Sum Int Str
def Zfc:Key->Value->Bool
 | .inl k,v=>Value.isInt k v
 | .inr x,v=>Value.isStrOf x v
def Zm1(w:World):Key->Int
 | .inl k=>hashInt k
 | .inr x=>hashStr w x
theorem Z8:∀{k:Key}{v:Value},Zfc k v=true->(∃i t,k=Sum.inl i/\v=Value.int i t)\/(∃x t,k=Sum.inr x/\v=Value.str x t)
 | .inl i,v,h=>by
  obtain⟨t,e⟩:=Value.isInt_shape (k:=i) (v:=v) h;exact .inl ⟨i,t,rfl,e⟩
 | .inr x,v,h=>by
  obtain⟨t,e⟩:=Value.isStrOf_shape (x:=x) (v:=v) h;exact .inr ⟨x,t,rfl,e⟩
theorem Zit(i:Int)(t:Tok):Zfc (.inl i) (.int i t)=true:=by simp[Zfc,Value.isInt]
theorem ZiI(x:Str)(t:Tok):Zfc (.inr x) (.str x t)=true:=by simp[Zfc,Value.isStrOf]
theorem Zlo(a b:Int):decide ((Sum.inl a:Key)=Sum.inl b)=(a == b):=by
 by_cases e:a=b
 ·subst e;simp
 ·have h : ¬ (Sum.inl a:Key)=Sum.inl b:=fun q=>e (Sum.inl.inj q);rw[decide_eq_false h];exact(beq_eq_false_iff_ne.mpr e).symm
theorem Zly(a b:Str):decide ((Sum.inr a:Key)=Sum.inr b)=decide (a=b):=by
 by_cases e:a=b
 ·subst e;simp
 ·have h : ¬ (Sum.inr a:Key)=Sum.inr b:=fun q=>e (Sum.inr.inj q);rw[decide_eq_false h,decide_eq_false e]
theorem ZlH(a:Int)(b:Str):decide ((Sum.inl a:Key)=Sum.inr b)=false:=decide_eq_false (fun q=>nomatch q)
theorem Zla(a:Str)(b:Int):decide ((Sum.inr a:Key)=Sum.inl b)=false:=decide_eq_false (fun q=>nomatch q)
def Z0(prog:Program)(w:World):PySem.KeyKind prog w Key where
 is:=Zfc
 hash:=Zm1 w
 inj:=fun v a b ha hb=>by
  rcases Z8 ha with⟨i,t,rfl,rfl⟩|⟨x,t,rfl,rfl⟩
  ·rcases Z8 hb with⟨j,u,rfl,e⟩|⟨y,u,rfl,e⟩
   ·injection e with e1 _;rw[e1]
   ·exact nomatch e
  ·rcases Z8 hb with⟨j,u,rfl,e⟩|⟨y,u,rfl,e⟩
   ·exact nomatch e
   ·injection e with e1 _;rw[e1]
 byValue:=fun k v h=>by
  rcases Z8 h with⟨i,t,rfl,rfl⟩|⟨x,t,rfl,rfl⟩ <;> rfl
 pyHash:=fun hv h=>by
  rcases Z8 hv with⟨i,t,rfl,rfl⟩|⟨x,t,rfl,rfl⟩
  ·exact wpAny_pyHash_int h
  ·exact wpAny_pyHash_str h
 eqBool:=fun hu hv h=>by
  rcases Z8 hu with⟨i,t,rfl,rfl⟩|⟨x,t,rfl,rfl⟩
  ·rcases Z8 hv with⟨j,u,rfl,rfl⟩|⟨y,u,rfl,rfl⟩
   ·rw[Zlo] at h;exact wpAny_eqBool_int h
   ·rw[ZlH] at h;exact SeqAt.EqAt.int_str i t y u _ _ _ _ h
  ·rcases Z8 hv with⟨j,u,rfl,rfl⟩|⟨y,u,rfl,rfl⟩
   ·rw[Zla] at h;exact SeqAt.EqAt.str_int x t j u _ _ _ _ h
   ·rw[Zly] at h;exact wpAny_eqBool_str h
 «strs» := fun k x t v h=>by
  rcases Z8 h with⟨i,u,rfl,e⟩|⟨y,u,rfl,e⟩
  ·exact nomatch e
  ·injection e with e1 _;subst e1;cases v <;> rfl
theorem Zf8(prog:Program)(w:World)(i:Int)(t:Tok):(Z0 prog w).is (.inl i) (.int i t)=true:=Zit i t
theorem ZfY(prog:Program)(w:World)(x:Str)(t:Tok):(Z0 prog w).is (.inr x) (.str x t)=true:=ZiI x t
inductive V where
 | non|bl (b:Bool)|int (i:Int)|str (x:Str)|byt (b:Array UInt8)|flt (b:UInt64)|ref (a:Addr)|ty (n:String)
 deriving DecidableEq
def RelV:V->Value->Prop
 | .non,u=>u=Value.none
 | .bl b,u=>u=Value.bool b
 | .int i,u=>∃t,u=Value.int i t
 | .str x,u=>∃t,u=Value.str x t
 | .byt b,u=>∃t,u=Value.bytes b t
 | .flt b,u=>∃t,u=Value.float b t
 | .ref a,u=>u=Value.ref a
 | .ty n,u=>u=Value.type n
abbrev Vals:List V->List Value->Prop:=Paired RelV
theorem Vals.length{xs:List V}{us:List Value}(r:Vals xs us):xs.length=us.length:=Paired.length r
theorem Vals.get:∀{xs:List V}{us:List Value}{i:Nat}{x:V},Vals xs us->xs[i]?= some x->∃u,us[i]?= some u/\RelV x u
 | _,_,_,_,.nil,e=>by simp at e
 | _,_,0,_,.cons r _,e=>by simp at e;subst e;exact⟨_,rfl,r⟩
 | _,_,i+1,x,.cons _ t,e=>by
  obtain⟨u,h1,h2⟩:=Vals.get (i:=i) (x:=x) t (by simpa using e);exact⟨u,by simpa using h1,h2⟩
theorem Vals.set{x:V}{u:Value}(r:RelV x u):∀{xs:List V}{us:List Value}(i:Nat),Vals xs us->Vals (xs.set i x) (us.set i u)
 | _,_,_,.nil=>.nil
 | _,_,0,.cons _ t=>.cons r t
 | _,_,i+1,.cons q t=>.cons q (Vals.set r i t)
theorem Vals.append:∀{xs ys:List V}{us ws:List Value},Vals xs us->Vals ys ws->Vals (xs++ys) (us++ws)
 | _,_,_,_,.nil,s=>s
 | _,_,_,_,.cons r t,s=>.cons r (Vals.append t s)
theorem Vals.take:∀{xs:List V}{us:List Value}(n:Nat),Vals xs us->Vals (xs.take n) (us.take n)
 | _,_,0,_=>.nil
 | _,_,_+1,.nil=>.nil
 | _,_,n+1,.cons r t=>.cons r (Vals.take n t)
theorem Vals.drop:∀{xs:List V}{us:List Value}(n:Nat),Vals xs us->Vals (xs.drop n) (us.drop n)
 | _,_,0,r=>r
 | _,_,_+1,.nil=>.nil
 | _,_,n+1,.cons _ t=>Vals.drop n t
def ZfM:Option V->Option Value->Prop
 | some v,some u=>RelV v u
 | none,none=>True
 | _,_=>False
def KV{κ : Type}:List (κ × V)->List (κ × Value)->Prop:=Paired fun(p : κ × V)(q : κ × Value)=>p.1=q.1/\RelV p.2 q.2
def kV:Key->V
 | .inl i=>.int i
 | .inr x=>.str x
inductive HO where
 | lst (xs:List V)
 | tup (xs:List V)
 | dK (kvs:List (Key×V))|dT (kvs:List (List Key×V))
 | set (S:Int->Bool) (n:Nat)
 | ins (C dx:Addr) (fs:List (Str×V))
 | own (x:Addr)
 | xd (fs:List (Str×V))
 | met (f x:Addr)
 | rng (lo hi:Int)
 | frz (o:Obj) (u:HO)
 | tbl (ps:Array Value)
 | ext (φ : Heap->Prop)
abbrev Hp:=Addr->Option HO
def upd(H:Hp)(a:Addr)(o:HO):Hp:=fun b=>if b=a then some o else H b
theorem Zb{H:Hp}{a:Addr}{o:HO}:upd H a o a=some o:=by unfold upd;rw[if_pos rfl]
theorem Zc{H:Hp}{a b:Addr}{o:HO}(h:b≠a):upd H a o b=H b:=by unfold upd;rw[if_neg h]
theorem Zlb{H:Hp}{a b:Addr}{o u:HO}(h:H a=some o)(h':H b=some u)(d:o≠u):a≠b:=by
 intro e;subst e;rw[h] at h';exact d (Option.some.inj h')
theorem Zm{H:Hp}{a b:Addr}{o:HO}(h:H a=some o)(h':H b=none):a≠b:=by
 intro e;subst e;rw[h] at h';cases h'
section
variable(P:Program)(w:World)
def Zar(H:Hp)(h:Heap)(a:Addr):HO->Prop
 | .lst xs=>xs.length<=sizeLine/\∃(its:List Value)(n:Nat),Vals xs its/\h.get? a=some { cls:=.type "list",data:=.seq its.toArray n }
 | .tup xs=>xs.length<=sizeLine/\∃its:List Value,Vals xs its/\IsTup h a its.toArray
 | .dK kvs=>kvs.length<=sizeLine/\(a == sysModules)=false/\∃vs,KV kvs vs/\h.DictOf (Z0 P w) a vs
 | .dT kvs=>kvs.length<=sizeLine/\(a == sysModules)=false/\∃xs:List (List Key×Addr×Value),
   Paired (fun(p:List Key×V)(q:List Key×Addr×Value)=>p.1=q.1/\H q.2.1=some (.tup (p.1.map kV))/\RelV p.2 q.2.2) kvs xs /\
   ∃o es ep,h.get? a=some o/\o.ExactDict/\o.data=.dict es ep/\es.toList=xs.map (entryOfKey (tupleKind (Z0 P w)))/\(xs.map (·.1)).Nodup
 | .set S n=>h.SetOf (intKind P w) a S n
 | .ins C dx fs=>H dx=some (.own a)/\fs.length<=1000/\dx≠a/\h.get? a=some (PySem.W.instObj C dx) /\
   ∃mA,h.Ns1 dx mA/\(∀f,ZfM (fs.lookup f) (mA f))/\PySem.Within mA (fs.map (·.1))
 | .own _=>∃o,h.get? a=some o
 | .xd fs=>∃mA,h.Ns1 a mA/\∀f,ZfM (fs.lookup f) (mA f)
 | .rng lo hi=>∃t u v,h.get? a=some { cls:=.type "range",data:=.fields #[.int lo t,.int hi u,.int 1 v] }
 | .frz o u=>h.get? a=some o/\Zar H h a u
 | .tbl ps=>h.get? a=some { cls:=.none,data:=.fields ps }
 | .met f x=>h.get? a=some (PySem.W.methodObj (.ref f) (.ref x))
 | .ext φ=>φ h/\(∃o,h.get? a=some o)/\∀h1 h2:Heap,φ h1->(∀o,h1.get? a=some o->h2.get? a=some o) -> φ h2
def HOk(H:Hp)(h:Heap):Prop := ∀a o,H a=some o->Zar P w H h a o
end
section
variable{P:Program}{w:World}{H H':Hp}{h h':Heap}{a:Addr}{o:HO}
theorem Zar.lt(x:Zar P w H h a o):a<h.objs.size:=by
 cases o with
 | lst xs=>obtain⟨_,_,_,_,e⟩:=x;exact Heap.lt_size e
 | tup xs=>obtain⟨_,_,_,p⟩:=x;exact p.lt
 | dK kvs=>obtain⟨_,_,_,_,o,_,_,e,_⟩:=x;exact Heap.lt_size e
 | dT kvs=>obtain⟨_,_,_,_,o,_,_,e,_⟩:=x;exact Heap.lt_size e
 | set S n=>obtain⟨o,_,_,_,e,_⟩:=x;exact Heap.lt_size e
 | ins C dx fs=>obtain⟨_,_,_,e,_⟩:=x;exact Heap.lt_size e
 | own y=>obtain⟨_,e⟩:=x;exact Heap.lt_size e
 | xd fs=>obtain⟨_,⟨_,_,_,e,_⟩,_⟩:=x;exact Heap.lt_size e
 | rng lo hi=>obtain⟨_,_,_,e⟩:=x;exact Heap.lt_size e
 | frz ob u=>obtain⟨e,_⟩:=x;exact Heap.lt_size e
 | tbl ps=>exact Heap.lt_size (show h.get? a=some _ from x)
 | met f y=>exact Heap.lt_size (show h.get? a=some _ from x)
 | ext φ=>obtain⟨_,⟨_,e⟩,_⟩:=x;exact Heap.lt_size e
theorem Paired.mapP{α β : Type}{F G : α -> β -> Prop}:∀{l₁ : List α}{l₂ : List β},Paired F l₁ l₂ -> (∀a b,F a b->G a b)->Paired G l₁ l₂
 | _,_,.nil,_=>.nil
 | _,_,.cons r t,f=>.cons (f _ _ r) (Paired.mapP t f)
theorem Zar.stay(x:Zar P w H h a o)(k:∀b u,(b=a\/H b=some (.own a))->h.get? b=some u->h'.get? b=some u)
  (ho:∀b,H b=some (.own a)->H' b=some (.own a)) (ht:∀b xs,H b=some (.tup xs)->H' b=some (.tup xs)):Zar P w H' h' a o:=by
 induction o with
 | lst xs=>obtain⟨z,its,n,r,e⟩:=x;exact⟨z,its,n,r,k _ _ (.inl rfl) e⟩
 | tup xs=>obtain⟨z,its,r,ob,e,c⟩:=x;exact⟨z,its,r,ob,k _ _ (.inl rfl) e,c⟩
 | dK kvs=>obtain⟨z,y,vs,r,ob,es,ep,e,c⟩:=x;exact⟨z,y,vs,r,ob,es,ep,k _ _ (.inl rfl) e,c⟩
 | dT kvs =>
  obtain⟨z,y,xs,r,ob,es,ep,e,c⟩:=x;exact⟨z,y,xs,Paired.mapP r fun p q z=>⟨z.1,ht _ _ z.2.1,z.2.2⟩,ob,es,ep,k _ _ (.inl rfl) e,c⟩
 | set S n=>obtain⟨ob,es,ep,t,e,c⟩:=x;exact⟨ob,es,ep,t,k _ _ (.inl rfl) e,c⟩
 | ins C dx fs =>
  obtain⟨d,z,ne,e,mA,⟨od,es,ep,e2,c⟩,r⟩:=x;exact⟨ho _ d,z,ne,k _ _ (.inl rfl) e,mA,⟨od,es,ep,k _ _ (.inr d) e2,c⟩,r⟩
 | own y=>obtain⟨ob,e⟩:=x;exact⟨ob,k _ _ (.inl rfl) e⟩
 | xd fs=>obtain⟨mA,⟨od,es,ep,e,c⟩,r⟩:=x;exact⟨mA,⟨od,es,ep,k _ _ (.inl rfl) e,c⟩,r⟩
 | rng lo hi=>obtain⟨t,u,v,e⟩:=x;exact⟨t,u,v,k _ _ (.inl rfl) e⟩
 | frz ob u ih=>obtain⟨e,q⟩:=x;exact⟨k _ _ (.inl rfl) e,ih q⟩
 | tbl ps =>
  have e:h.get? a=some { cls:=.none,data:=.fields ps }:=x;show h'.get? a=some { cls:=.none,data:=.fields ps };exact k a _ (.inl rfl) e
 | met f y =>
  have e:h.get? a=some (PySem.W.methodObj (.ref f) (.ref y)):=x;show h'.get? a=some (PySem.W.methodObj (.ref f) (.ref y));exact k a _ (.inl rfl) e
 | ext φ=>obtain⟨p,⟨o,e⟩,st⟩:=x;exact⟨st _ _ p fun o q=>k _ _ (.inl rfl) q,⟨o,k _ _ (.inl rfl) e⟩,st⟩
theorem HOk.lt(x:HOk P w H h)(e:H a=some o):a<h.objs.size:=(x a o e).lt
theorem HOk.fresh(x:HOk P w H h)(e:h.objs.size<=a):H a=none:=by
 cases q:H a with
 | none=>rfl
 | some u=>exact absurd (Nat.lt_of_lt_of_le (x.lt q) e) (Nat.lt_irrefl _)
theorem HOk.kept(x:HOk P w H h)(k:∀b u,h.get? b=some u->h'.get? b=some u):HOk P w H h':=fun a o e =>
 (x a o e).stay (fun b u _ q=>k b u q) (fun _ q=>q) fun _ _ q=>q
theorem HOk.laid(x:HOk P w H h)(k:∀b u,h.get? b=some u->h'.get? b=some u)(hp:h.objs.size<=a)(new:Zar P w (upd H a o) h' a o):HOk P w (upd H a o) h':=fun b u e=>by
 have hn:=x.fresh hp;by_cases hb:b=a
 ·subst hb;rw[Zb] at e;cases e;exact new
 ·rw[Zc hb] at e;exact(x b u e).stay (fun c v _ q=>k c v q) (fun c q=>by rw[Zc (Zm q hn)];exact q) fun c xs q=>by rw[Zc (Zm q hn)];exact q
end
def Rd(H:Hp)(a:Addr)(u:HO):Prop:=H a=some u\/∃o,H a=some (.frz o u)
theorem Rd.ok{P:Program}{w:World}{H:Hp}{h:Heap}{a:Addr}{u:HO}(r:Rd H a u)(x:HOk P w H h):Zar P w H h a u:=by
 rcases r with r|⟨o,r⟩
 ·exact x a u r
 ·obtain⟨_,q⟩:=x a _ r;exact q
def Mut:Option HO->Prop
 | some (.lst _)=>True
 | some (.dK _)=>True
 | some (.dT _)=>True
 | some (.set _ _)=>True
 | some (.ins _ _ _)=>True
 | some (.ext _)=>True
 | _=>False
section
variable{P:Program}{w:World}{H:Hp}{h h':Heap}{x e:Addr}{o':HO}
theorem HOk.write(ok:HOk P w H h)(mu:Mut (H x))(he:e=x\/H e=some (.own x))(k:∀b u,b≠e->h.get? b=some u->h'.get? b=some u)(heo:∃u,h'.get? e=some u)
  (new:Zar P w (upd H x o') h' x o'):HOk P w (upd H x o') h':=fun b u q=>by
 have nown:∀c y,H c=some (.own y)->c≠x:=fun c y r z=>by subst z;rw[r] at mu;exact mu
 have ntup:∀c xs,H c=some (.tup xs)->c≠x:=fun c xs r z=>by subst z;rw[r] at mu;exact mu
 by_cases hb:b=x
 ·subst hb;rw[Zb] at q;cases q;exact new
 ·rw[Zc hb] at q;by_cases hbe:b=e
  ·have q':H b=some (.own x):=by
    rcases he with z|z
    ·exact absurd (hbe.trans z) hb
    ·rw[hbe];exact z
   rw[q] at q';cases q';obtain⟨v,hv⟩:=heo;exact⟨v,by rw[hbe];exact hv⟩
  ·refine(ok b u q).stay (fun c v hc r=>k c v ?_ r) (fun c r=>by rw[Zc (nown c b r)];exact r) fun c xs r=>by rw[Zc (ntup c xs r)];exact r
   rcases hc with rfl|hc
   ·exact hbe
   ·rintro rfl;rcases he with z|z
    ·exact nown c b hc z
    ·rw[hc] at z;cases z;exact hb rfl
end
structure Un(fs ex:List Addr)(H H':Hp)(h h':Heap):Prop where
 keep:∀b o,h.get? b=some o->H b=none->b∉fs->b∉ex->h'.get? b=some o
 slot:∀b o,h.get? b=some o->H b=none->b∈fs->b∉ex->∃sl,h'.get? b=some { o with slots:=sl }
 free:∀b o,h.get? b=some o->H b=none->b∉ex->H' b=none
 there:∀b o,h.get? b=some o->b∉ex->∃o',h'.get? b=some o'
 tups:∀b xs,H b=some (.tup xs)->H' b=some (.tup xs)
 frzs:∀b o u,H b=some (.frz o u)->H' b=some (.frz o u)
 tbls:∀b ps,H b=some (.tbl ps)->∃more,H' b=some (.tbl (ps++more))
section
variable{fs fs' ex ex':List Addr}{H H1 H2:Hp}{h h1 h2 h':Heap}{a x e:Addr}{o:HO}
theorem Un.any(u:Un fs ex H H1 h h1){b:Addr}{ob:Obj}(q:h.get? b=some ob)(n:H b=none)(hx:b∉ex):∃sl,h1.get? b=some { ob with slots:=sl }:=by
 by_cases hb:b∈fs
 ·exact u.slot b ob q n hb hx
 ·exact⟨ob.slots,u.keep b ob q n hb hx⟩
theorem Un.kept(k:∀b u,h.get? b=some u->h'.get? b=some u):Un fs ex H H h h' :=
 ⟨fun b ob q _ _ _=>k b ob q,fun b ob q _ _ _=>⟨ob.slots,k b ob q⟩,fun _ _ _ n _=>n,fun b ob q _=>⟨ob,k b ob q⟩,fun _ _ q=>q,fun _ _ _ q=>q,fun _ ps q=>⟨#[],by rw[q];simp⟩⟩
theorem Un.refl:Un fs ex H H h h:=Un.kept fun _ _ q=>q
theorem Un.laid(k:∀b u,h.get? b=some u->h'.get? b=some u)(hp:h.objs.size<=a)(hn:H a=none):Un fs ex H (upd H a o) h h' where
 keep:=fun b u q _ _ _=>k b u q
 slot:=fun b u q _ _ _=>⟨u.slots,k b u q⟩
 free:=fun b u q n _=>by rw[Zc (Nat.ne_of_lt (Nat.lt_of_lt_of_le (Heap.lt_size q) hp))];exact n
 there:=fun b u q _=>⟨u,k b u q⟩
 tups:=fun b xs q=>by rw[Zc (Zm q hn)];exact q
 frzs:=fun b u xs q=>by rw[Zc (Zm q hn)];exact q
 tbls:=fun b ps q=>⟨#[],by rw[Zc (Zm q hn),q];simp⟩
theorem Un.write(mu:Mut (H x))(he:e=x\/H e=some (.own x))(k:∀b u,b≠e->h.get? b=some u->h'.get? b=some u)(heo:∃u,h'.get? e=some u):Un fs ex H (upd H x o) h h':=by
 have hx:∀b,H b=none->b≠x:=fun b n z=>by subst z;rw[n] at mu;exact mu
 have hb:∀b,H b=none->b≠e:=fun b n z=>by
  subst z;rcases he with r|r
  ·exact hx b n r
  ·rw[n] at r;cases r
 have hm:∀b u,H b=some u -> ¬ Mut (some u)->b≠x:=fun b u q nm z=>by subst z;rw[q] at mu;exact nm mu
 refine⟨fun b u q n _ _=>k b u (hb b n) q,fun b u q n _ _=>⟨u.slots,k b u (hb b n) q⟩,fun b u q n _=>by rw[Zc (hx b n)];exact n,fun b u q _=>?_,
  fun b xs q=>by rw[Zc (hm b _ q fun z=>z)];exact q,fun b u xs q=>by rw[Zc (hm b _ q fun z=>z)];exact q,fun b ps q=>⟨#[],by rw[Zc (hm b _ q fun z=>z),q];simp⟩⟩
 by_cases hbe:b=e
 ·subst hbe;exact heo
 ·exact⟨u,k b u hbe q⟩
end
def trk(h:Heap)(H:Hp):List Addr:=(List.range h.objs.size).filter fun a=>(H a).isSome
def ZjB(h:Heap)(H:Hp):Heap:=PySem.W.hideAll h (trk h H)
theorem Zjk(h:Heap)(H:Hp):(ZjB h H).objs.size=h.objs.size:=PySem.W.hideAll_size _ _
theorem Zjr{h:Heap}{H:Hp}{b:Addr}{o:Obj}(e:h.get? b=some o)(n:H b=none):(ZjB h H).get? b=some o :=
 PySem.W.hideAll_get _ e fun hm=>by
  have q:(H b).isSome=true:=(List.mem_filter.mp hm).2;rw[n] at q;simp at q
theorem Zkx{h:Heap}{H:Hp}{b:Addr}{o:Obj}(e:(ZjB h H).get? b=some o):h.get? b=some o/\H b=none:=by
 have e':h.get? b=some o:=PySem.W.of_hideAll (trk h H) e;refine⟨e',?_⟩;cases q:H b with
 | none=>rfl
 | some x =>
  have hm:b∈trk h H:=List.mem_filter.mpr ⟨List.mem_range.mpr (Heap.lt_size e'),by simp[q]⟩;have z:(ZjB h H).get? b=none:=PySem.W.hideAll_none (trk h H) hm;rw[z] at e;cases e
structure Mod(K:PySem.W.Frag)(mg:Str->Option Value)(base:Heap):Prop where
 kin:K.In base
 glob:base.Ns mainGlobals mg
 blt:∃mb,base.Ns builtinsNs mb/\∀x:Str,x ≠ "__name__" -> mb x=bootBuiltins x
 nolimit:base.NoLimit
/-- the context: a def's body (or a comprehension's block) running. base: fixed through the whole law;s₀,H₀: the entry;outer: the frames whose slots others may change (a def's callers);stack: all frames that run;
   ex: iterators that were made ahead of the entry and are walked here (a comprehension's);fn: the names whose cells were made at the entry (a def: all;a comprehension's block: its own);calm: not within an except suite;pn: pins that every state bears;xe: what is wanted of an exception that leaves the code -/
structure Cx where
 prog:Program
 w:World
 K:PySem.W.Frag
 mg:Str->Option Value
 base:Heap
 A:Around
 N:List Str
 s₀ : Shared
 H₀ : Hp
 env:Env
 outer:List Env
 stack:List Env
 ex:List Addr
 fn:Str->Bool
 calm:Bool
 pn:List (Addr×Obj)
 xe:Value->Shared->Prop
def frs(l:List Env):List Addr:=l.filterMap (·.frame)
abbrev Cx.fs(X:Cx):List Addr:=frs X.outer
def Vis(sc:Scope)(x:Str):Prop:=sc.names.lookup x=some .local\/sc.names.lookup x=some .cell\/sc.names.lookup x=some .free
def Loc(sc:Scope)(x:Str):Prop:=sc.names.lookup x=some .local\/sc.names.lookup x=some .cell
def Look(env:Env)(h:Heap)(m:Str->Option Value)(x:Str)(u:Value):Prop :=
 (env.kindOf x=some .local/\m x=some u)\/((env.kindOf x=some .cell\/env.kindOf x=some .free)/\∃c,env.cells.lookup x=some c/\h.IsCell c (some u))
structure Cx.Ok(X:Cx):Prop where
 mod:Mod X.K X.mg X.base
 kind:X.env.scope.kind=.function
 glob:X.env.globals=mainGlobals
 blt:X.env.builtins=builtinsNs
 above:X.s₀.heap.objs.size<=X.env.locals
 inj:∀x y c,X.env.cells.lookup x=some c->X.env.cells.lookup y=some c->x=y
 has:∀x,(X.env.kindOf x=some .cell\/X.env.kindOf x=some .free)->∃c,X.env.cells.lookup x=some c
 cab:∀x c,X.fn x=true->X.env.cells.lookup x=some c->X.s₀.heap.objs.size<=c
 hd:X.calm=true->X.A.handled=none
 frames:X.A.frames=some X.stack
 stk:X.stack=X.outer\/(X.stack=X.env::X.outer/\X.env.frame=some X.env.locals)
 exf:∀b∈X.ex,b≠X.env.locals/\∀x c,X.env.cells.lookup x=some c->c≠b
 bs:∀b o,X.base.get? b=some o->X.s₀.heap.get? b=some o/\X.H₀ b=none
 bsz:X.base.objs.size<=X.s₀.heap.objs.size
 noex:∀b o,X.base.get? b=some o->b∉X.ex
 exfs:∀b∈X.ex,b∉X.fs
 funs:X.s₀.heap.FunFrames X.base X.outer
 frf:∀b∈X.fs,X.H₀ b=none
structure Inv(X:Cx)(pins:List (Addr×Obj))(σ : List (Option V))(H:Hp)(s:Shared):Prop where
 ok:X.Ok
 os:s.os=X.s₀.os
 bare:AllBare s.gens
 base:Un X.fs X.ex X.H₀ H X.s₀.heap s.heap
 loc:∃m,s.heap.Ns X.env.locals m/\∀(i:Nat)(x:Str)(v:V),X.N[i]?= some x -> σ[i]?= some (some v)->Vis X.env.scope x->∃u,RelV v u/\Look X.env s.heap m x u
 cell:∀x c,X.env.cells.lookup x=some c->∃v,s.heap.IsCell c v
 free:H X.env.locals=none
 freeC:∀x c,X.env.cells.lookup x=some c->H c=none
 pin:∀p∈X.pn++pins,s.heap.get? p.1=some p.2/\H p.1=none/\p.1≠X.env.locals/\p.1∉X.fs/\∀v,p.2.data ≠ .cell v
 hok:HOk X.prog X.w H s.heap
 len : σ.length=X.N.length
section
variable{X:Cx}{pins:List (Addr×Obj)}{σ : List (Option V)}{H H':Hp}{s:Shared}{h':Heap}
theorem Cx.Ok.nofr(ok:X.Ok){b:Addr}{o:Obj}(e:X.base.get? b=some o):b∉X.fs:=fun hb=>by
 have:=(ok.funs.mem hb).1;rw[e] at this;cases this
theorem Inv.bs(I:Inv X pins σ H s):∀b o,X.base.get? b=some o->s.heap.get? b=some o/\H b=none:=fun b o e =>
 ⟨I.base.keep b o (I.ok.bs b o e).1 (I.ok.bs b o e).2 (I.ok.nofr e) (I.ok.noex b o e),I.base.free b o (I.ok.bs b o e).1 (I.ok.bs b o e).2 (I.ok.noex b o e)⟩
theorem Inv.bk(I:Inv X pins σ H s):∀b o,X.base.get? b=some o->s.heap.get? b=some o:=fun b o e=>(I.bs b o e).1
theorem Inv.mod(I:Inv X pins σ H s):Mod X.K X.mg X.base:=I.ok.mod
theorem Inv.kIn(I:Inv X pins σ H s):X.K.In s.heap:=I.ok.mod.kin.keeps I.bk
theorem Inv.lt(I:Inv X pins σ H s):X.env.locals<s.heap.objs.size:=let ⟨_,hn,_⟩:=I.loc;hn.lt
theorem Inv.sz(I:Inv X pins σ H s):X.s₀.heap.objs.size<=s.heap.objs.size:=Nat.le_trans I.ok.above (Nat.le_of_lt I.lt)
theorem Inv.nofs(I:Inv X pins σ H s){a:Addr}(h:s.heap.objs.size<=a):a∉X.fs:=fun hb=>by
 obtain⟨_,o,ho,_⟩:=I.ok.funs.mem hb;exact absurd (Nat.lt_of_lt_of_le (Heap.lt_size ho) (Nat.le_trans I.sz h)) (Nat.lt_irrefl _)
theorem Inv.cne(I:Inv X pins σ H s):∀x c,X.env.cells.lookup x=some c->c≠X.env.locals:=fun x c e z=>by
 obtain⟨v,o,ho,hd⟩:=I.cell x c e;obtain⟨m,⟨o',es,ep,ho',hd',_⟩,_⟩:=I.loc;rw[z,ho'] at ho;cases ho;rw[hd'] at hd;cases hd
theorem Inv.funs(I:Inv X pins σ H s):s.heap.FunFrames X.base X.outer:=by
 have all:∀(l:List Env),(∀b∈frs l,b∈X.fs)->X.s₀.heap.FunFrames X.base l->s.heap.FunFrames X.base l:=by
  intro l
  induction l with
  | nil=>intro _ _;trivial
  | cons env r ih =>
   intro hs hl;obtain⟨hk,⟨L,o,hf,hn,ho,hd⟩,hr⟩:=hl;have hL:L∈X.fs:=hs L (by unfold frs;rw[List.filterMap_cons,hf];exact List.mem_cons_self);obtain⟨sl,e⟩:=I.base.slot L o ho (I.ok.frf L hL) hL fun z=>I.ok.exfs L z hL;exact⟨hk,⟨L,_,hf,hn,e,hd⟩,ih (fun b hb=>hs b (by unfold frs;rw[List.filterMap_cons,hf];exact List.mem_cons_of_mem _ hb)) hr⟩
 exact all X.outer (fun _ hb=>hb) I.ok.funs
theorem Inv.stack(I:Inv X pins σ H s):s.heap.FunFrames X.base X.stack:=by
 rcases I.ok.stk with e|⟨e,hf⟩
 ·rw[e];exact I.funs
 ·rw[e];obtain⟨m,hn,_⟩:=I.loc;refine .cons (by rw[I.ok.kind];decide) hf hn ?_ I.funs;exact Heap.get?_none_of_le (Nat.le_trans I.ok.bsz I.ok.above)
theorem Inv.stkSub(I:Inv X pins σ H s):∀b∈frs X.stack,b∈X.env.locals::X.fs:=fun b hb=>by
 rcases I.ok.stk with e|⟨e,hf⟩
 ·rw[e] at hb;exact List.mem_cons_of_mem _ hb
 ·rw[e] at hb;unfold frs at hb;rw[List.filterMap_cons,hf] at hb;exact hb
theorem Inv.stkFree(I:Inv X pins σ H s):∀b∈frs X.stack,H b=none:=fun b hb=>by
 rcases List.mem_cons.mp (I.stkSub b hb) with e|hb
 ·rw[e];exact I.free
 ·obtain⟨_,o,ho,_⟩:=I.ok.funs.mem hb;exact I.base.free b o ho (I.ok.frf b hb) fun z=>I.ok.exfs b z hb
theorem Inv.step{g':Array GenState}{t':Nat}{d':Drawn}{ch:List Addr}(I:Inv X pins σ H s)
  (hch:∀b∈ch,(b∈X.ex\/X.s₀.heap.objs.size<=b)/\b≠X.env.locals/\(∀x c,X.env.cells.lookup x=some c->c≠b)/\∀p∈X.pn++pins,p.1≠b)
  (keep:∀b o,b≠X.env.locals->b∉X.fs->b∉ch->s.heap.get? b=some o->H b=none->h'.get? b=some o)
  (slot:∀b o,b≠X.env.locals->b∈X.fs->b∉ch->s.heap.get? b=some o->H b=none->∃sl,h'.get? b=some { o with slots:=sl }) (free:∀b o,b∉ch->s.heap.get? b=some o->H b=none->H' b=none)
  (there:∀b o,b∉ch->s.heap.get? b=some o->∃o',h'.get? b=some o')
  (tups:∀b xs,H b=some (.tup xs)->H' b=some (.tup xs)) (frzs:∀b o u,H b=some (.frz o u)->H' b=some (.frz o u)) (tbls:∀b ps,H b=some (.tbl ps)->∃more,H' b=some (.tbl (ps++more)))
  (ns:∀m,s.heap.Ns X.env.locals m->h'.Ns X.env.locals m) (hok:HOk X.prog X.w H' h') (hg:AllBare g') :
  Inv X pins σ H' { s with heap:=h',gens:=g',drawn:=d',toks:=t' }:=by
 have neL:∀b o,X.s₀.heap.get? b=some o->b≠X.env.locals:=fun b o e=>Nat.ne_of_lt (Nat.lt_of_lt_of_le (Heap.lt_size e) I.ok.above);have neC:∀b o,X.s₀.heap.get? b=some o->b∉X.ex->b∉ch:=fun b o e hx hb=>by
  rcases(hch b hb).1 with z|z
  ·exact hx z
  ·exact absurd (Nat.lt_of_lt_of_le (Heap.lt_size e) z) (Nat.lt_irrefl _)
 have cellK:∀x c,X.env.cells.lookup x=some c->∀v,s.heap.IsCell c v->h'.IsCell c v:=fun x c e v ⟨o,ho,hd⟩=>by
  have nch:c∉ch:=fun z=>(hch c z).2.2.1 x c e rfl;by_cases hc:c∈X.fs
  ·obtain⟨sl,q⟩:=slot c o (I.cne x c e) hc nch ho (I.freeC x c e);exact⟨_,q,hd⟩
  ·exact⟨o,keep c o (I.cne x c e) hc nch ho (I.freeC x c e),hd⟩
 refine⟨I.ok,I.os,hg,⟨fun b o e n hb hx=>?_,fun b o e n hb hx=>?_,fun b o e n hx=>?_,fun b o e hx=>?_,fun b xs e=>tups b xs (I.base.tups b xs e),fun b o xs e=>frzs b o xs (I.base.frzs b o xs e),fun b ps e=>?_⟩,?_,fun x c e=>?_,?_,fun x c e=>?_,fun p hp=>?_,hok,I.len⟩
 ·exact keep b o (neL b o e) hb (neC b o e hx) (I.base.keep b o e n hb hx) (I.base.free b o e n hx)
 ·obtain⟨sl,e1⟩:=I.base.slot b o e n hb hx;obtain⟨sl',e2⟩:=slot b _ (neL b o e) hb (neC b o e hx) e1 (I.base.free b o e n hx);exact⟨sl',e2⟩
 ·obtain⟨o',e1⟩:=I.base.there b o e hx;exact free b o' (neC b o e hx) e1 (I.base.free b o e n hx)
 ·obtain⟨o',e1⟩:=I.base.there b o e hx;exact there b o' (neC b o e hx) e1
 ·obtain⟨m1,e1⟩:=I.base.tbls b ps e;obtain⟨m2,e2⟩:=tbls b _ e1;exact⟨m1++m2,by rw[e2,Array.append_assoc]⟩
 ·obtain⟨m,hn,hl⟩:=I.loc;refine⟨m,ns m hn,fun i x v e1 e2 e3=>?_⟩;obtain⟨u,r,l⟩:=hl i x v e1 e2 e3;refine⟨u,r,?_⟩;rcases l with l|⟨k,c,e,z⟩
  ·exact .inl l
  ·exact .inr ⟨k,c,e,cellK x c e _ z⟩
 ·obtain⟨v,z⟩:=I.cell x c e;exact⟨v,cellK x c e v z⟩
 ·obtain⟨m,⟨o,_,_,ho,_⟩,_⟩:=I.loc;exact free _ o (fun z=>(hch _ z).2.1 rfl) ho I.free
 ·obtain⟨v,o,ho,hd⟩:=I.cell x c e;exact free c o (fun z=>(hch c z).2.2.1 x c e rfl) ho (I.freeC x c e)
 ·obtain⟨e,n,ne,nf,d⟩:=I.pin p hp;have nch:p.1∉ch:=fun z=>(hch p.1 z).2.2.2 p hp rfl;exact⟨keep p.1 p.2 ne nf nch e n,free p.1 p.2 nch e n,ne,nf,d⟩
theorem Inv.un{t':Nat}(I:Inv X pins σ H s)(u:Un X.fs [] H H' s.heap h')(hok:HOk X.prog X.w H' h'):Inv X pins σ H' { s with heap:=h',toks:=t' }:=by
 obtain⟨m,⟨o,es,ep,ho,r⟩,_⟩:=id I.loc;obtain⟨sl,hL⟩:=u.any ho I.free (by simp);exact I.step (g':=s.gens) (d':=s.drawn) (ch:=[]) (fun _ z=>nomatch z) (fun b o _ hb _ e n=>u.keep b o e n hb (by simp)) (fun b o _ hb _ e n=>u.slot b o e n hb (by simp)) (fun b o _ e n=>u.free b o e n (by simp)) (fun b o _ e=>u.there b o e (by simp)) u.tups u.frzs u.tbls (fun m' hm=>by
  obtain⟨o',es',ep',ho',r'⟩:=hm;rw[ho] at ho';cases ho';exact⟨_,es',ep',hL,r'⟩) hok I.bare
theorem Inv.call{g':Array GenState}{t':Nat}{d':Drawn}{ch:List Addr}(I:Inv X pins σ H s)(u:Un (frs X.stack) ch H H' s.heap h')(hok:HOk X.prog X.w H' h')(hg:AllBare g')
  (hch:∀b∈ch,(b∈X.ex\/X.s₀.heap.objs.size<=b)/\b≠X.env.locals/\(∀x c,X.env.cells.lookup x=some c->c≠b)/\∀p∈X.pn++pins,p.1≠b) :
  Inv X pins σ H' { s with heap:=h',gens:=g',drawn:=d',toks:=t' }:=by
 obtain⟨m,⟨o,es,ep,ho,r⟩,_⟩:=id I.loc;obtain⟨sl,hL⟩:=u.any ho I.free fun z=>(hch _ z).2.1 rfl;exact I.step (ch:=ch) hch (fun b o hL hb hc e n=>u.keep b o e n (fun z=>(List.mem_cons.mp (I.stkSub b z)).elim hL hb) hc) (fun b o _ _ hc e n=>u.any e n hc) (fun b o hc e n=>u.free b o e n hc) (fun b o hc e=>u.there b o e hc) u.tups u.frzs u.tbls (fun m' hm=>by
  obtain⟨o',es',ep',ho',r'⟩:=hm;rw[ho] at ho';cases ho';exact⟨_,es',ep',hL,r'⟩) hok hg
theorem Inv.turned{t':Nat}{it:Addr}(I:Inv X pins σ H s)(k:∀b o,b≠it->s.heap.get? b=some o->h'.get? b=some o)(hn:H it=none)(hL:it≠X.env.locals)
  (h1:it∈X.ex\/X.s₀.heap.objs.size<=it) (h2:∀x c,X.env.cells.lookup x=some c->c≠it) (h3:∀p∈X.pn++pins,p.1≠it):Inv X pins σ H { s with heap:=h',toks:=t' }:=by
 have nit:∀b u,H b=some u->b≠it:=fun b u e z=>by rw[z,hn] at e;cases e
 refine I.step (g':=s.gens) (d':=s.drawn) (ch:=[it]) (fun b hb=>?_) (fun b o _ _ hc e _=>k b o (fun z=>hc (by simp[z])) e) (fun b o _ _ hc e _=>⟨o.slots,k b o (fun z=>hc (by simp[z])) e⟩) (fun _ _ _ _ n=>n)
  (fun b o hc e=>⟨o,k b o (fun z=>hc (by simp[z])) e⟩) (fun _ _ e=>e) (fun _ _ _ e=>e) (fun b ps e=>⟨#[],by rw[e];simp⟩) (fun m hm=>?_) (fun b u e=>?_) I.bare
 ·have e:b=it:=by simpa using hb
  subst e;exact⟨h1,hL,h2,h3⟩
 ·obtain⟨o,es,ep,ho,r⟩:=hm;exact⟨o,es,ep,k _ o (Ne.symm hL) ho,r⟩
 ·refine(I.hok b u e).stay (fun c v hc q=>k c v ?_ q) (fun _ q=>q) fun _ _ q=>q;rcases hc with z|z
  ·rw[z];exact nit b u e
  ·exact nit c _ z
theorem Inv.tok(I:Inv X pins σ H s)(t:Nat):Inv X pins σ H { s with toks:=t }:=I.un (h':=s.heap) (t':=t) Un.refl I.hok
theorem Inv.kept{t':Nat}(I:Inv X pins σ H s)(k:∀b u,s.heap.get? b=some u->h'.get? b=some u):Inv X pins σ H { s with heap:=h',toks:=t' }:=I.un (Un.kept k) (I.hok.kept k)
theorem Inv.laid{a:Addr}{o:HO}{t':Nat}(I:Inv X pins σ H s)(k:∀b u,s.heap.get? b=some u->h'.get? b=some u)(hp:s.heap.objs.size<=a)(new:Zar X.prog X.w (upd H a o) h' a o) :
  Inv X pins σ (upd H a o) { s with heap:=h',toks:=t' }:=I.un (Un.laid k hp (I.hok.fresh hp)) (I.hok.laid k hp new)
theorem Inv.write{x e:Addr}{o:HO}{t':Nat}(I:Inv X pins σ H s)(mu:Mut (H x))(he:e=x\/H e=some (.own x))(k:∀b u,b≠e->s.heap.get? b=some u->h'.get? b=some u)(heo:∃u,h'.get? e=some u)
  (new:Zar X.prog X.w (upd H x o) h' x o):Inv X pins σ (upd H x o) { s with heap:=h',toks:=t' }:=I.un (Un.write mu he k heo) (I.hok.write mu he k heo new)
theorem Inv.pins_of{pins':List (Addr×Obj)}(I:Inv X pins σ H s)(h:∀p∈pins',s.heap.get? p.1=some p.2/\H p.1=none/\p.1≠X.env.locals/\p.1∉X.fs/\∀v,p.2.data ≠ .cell v):Inv X pins' σ H s :=
 ⟨I.ok,I.os,I.bare,I.base,I.loc,I.cell,I.free,I.freeC,fun p hp=>(List.mem_append.mp hp).elim (fun z=>I.pin p (List.mem_append_left _ z)) (h p),I.hok,I.len⟩
theorem Zgv{N:List Str}(hN:N.Nodup){i j:Nat}{x:Str}(a:N[i]?= some x)(b:N[j]?= some x):i=j:=by
 obtain⟨h1,e1⟩:=List.getElem?_eq_some_iff.mp a;obtain⟨h2,e2⟩:=List.getElem?_eq_some_iff.mp b;exact(List.getElem_inj hN).mp (e1.trans e2.symm)
theorem ZiF{M:Model}{A:Around}{E:Value->Shared->Prop}{i:Nat}{x:Str}{v:V}{u:Value}{Q:Unit->Shared->Prop}(I:Inv X pins σ H s)(hN:X.N.Nodup)(hi:X.N[i]?= some x)(hx:Loc X.env.scope x)(r:RelV v u)
  (h:∀s',Inv X pins (σ.set i (some v)) H s'->(∃a,Heap.SameBut a s.heap s'.heap/\(a=X.env.locals\/X.env.cells.lookup x=some a))->Q () s') (hf:X.fn x=true\/X.env.scope.names.lookup x=some .local:=by first|exact .inl rfl|exact .inr rfl|assumption):wpAny M A (storeName X.env x u) Q E s:=by
 obtain⟨m,hn,hl⟩:=id I.loc;have hcls:(X.env.scope.kind ==.class || (X.env.scope.kind ==.module&&X.env.locals != X.env.globals))=false:=by rw[I.ok.kind];rfl
 have hiσ : i < σ.length:=by rw[I.len];exact(List.getElem?_eq_some_iff.mp hi).1
 have cne:=I.cne;have tracked:∀{a:Addr}{h':Heap},(∃o,s.heap.get? a=some o/\H a=none)->Heap.SameBut a s.heap h'->HOk X.prog X.w H h':=fun{a h'} ha hs b ob e=>by
  obtain⟨_,_,hfree⟩:=ha;refine(I.hok b ob e).stay (fun c w' hc q=>(hs.2 c ?_).trans q) (fun _ q=>q) fun _ _ q=>q;rintro rfl;rcases hc with rfl|hc
  ·rw[hfree] at e;cases e
  ·rw[hfree] at hc;cases hc
 rcases hx with hk|hk
 ·refine wpAny_storeName_local hk hn (fun h' hn' hs=>?_) hcls;obtain⟨oL,_,_,hoL,_⟩:=id hn;refine h _ ⟨I.ok,I.os,I.bare,⟨fun b o e n hb hx=>?_,fun b o e n hb hx=>?_,I.base.free,fun b o e hx=>?_,I.base.tups,I.base.frzs,I.base.tbls⟩,⟨_,hn',fun j y v' e1 e2 e3=>?_⟩,fun y c e=>?_,I.free,I.freeC,fun p hp=>?_,tracked ⟨oL,hoL,I.free⟩ hs,by simpa using I.len⟩ ⟨_,hs,.inl rfl⟩
  ·exact(hs.2 b (Nat.ne_of_lt (Nat.lt_of_lt_of_le (Heap.lt_size e) I.ok.above))).trans (I.base.keep b o e n hb hx)
  ·obtain⟨sl,e1⟩:=I.base.slot b o e n hb hx;exact⟨sl,(hs.2 b (Nat.ne_of_lt (Nat.lt_of_lt_of_le (Heap.lt_size e) I.ok.above))).trans e1⟩
  ·obtain⟨o',e1⟩:=I.base.there b o e hx;exact⟨o',(hs.2 b (Nat.ne_of_lt (Nat.lt_of_lt_of_le (Heap.lt_size e) I.ok.above))).trans e1⟩
  ·by_cases hj:j=i
   ·subst hj;rw[hi] at e1;cases e1;rw[List.getElem?_set_self hiσ] at e2;cases e2;exact⟨u,r,.inl ⟨hk,by simp⟩⟩
   ·rw[List.getElem?_set_ne (Ne.symm hj)] at e2;obtain⟨u',r',q⟩:=hl j y v' e1 e2 e3;refine⟨u',r',?_⟩;rcases q with⟨k,e⟩|⟨k,c,e,z⟩
    ·refine .inl ⟨k,?_⟩;have:y≠x:=fun e=>hj (Zgv hN e1 (e ▸ hi));simp[this,e]
    ·exact .inr ⟨k,c,e,z.sameBut hs (cne y c e)⟩
  ·obtain⟨w',z⟩:=I.cell y c e;exact⟨w',z.sameBut hs (cne y c e)⟩
  ·obtain⟨e,n,ne,nf,d⟩:=I.pin p hp;exact⟨(hs.2 p.1 ne).trans e,n,ne,nf,d⟩
 ·have hfn:X.fn x=true:=by
   rcases hf with z|z
   ·exact z
   ·rw[z] at hk;cases hk
  obtain⟨c,hc⟩:=I.ok.has x (.inl hk);obtain⟨w',z⟩:=I.cell x c hc;refine wpAny_storeName_cell I.ok.kind hk hc z (fun h' hc' hs=>?_);obtain⟨oc,hoc,hocd⟩:=id z;refine h { s with heap:=h' } ⟨I.ok,I.os,I.bare,⟨fun b o e n hb hx=>?_,fun b o e n hb hx=>?_,I.base.free,fun b o e hx=>?_,I.base.tups,I.base.frzs,I.base.tbls⟩,⟨m,hn.sameBut hs (Ne.symm (cne x c hc)),fun j y v' e1 e2 e3=>?_⟩,fun y c' e=>?_,I.free,I.freeC,fun p hp=>?_,tracked ⟨oc,hoc,I.freeC x c hc⟩ hs,by simpa using I.len⟩ ⟨c,hs,.inr hc⟩
  ·exact(hs.2 b (Nat.ne_of_lt (Nat.lt_of_lt_of_le (Heap.lt_size e) (I.ok.cab x c hfn hc)))).trans (I.base.keep b o e n hb hx)
  ·obtain⟨sl,e1⟩:=I.base.slot b o e n hb hx;exact⟨sl,(hs.2 b (Nat.ne_of_lt (Nat.lt_of_lt_of_le (Heap.lt_size e) (I.ok.cab x c hfn hc)))).trans e1⟩
  ·obtain⟨o',e1⟩:=I.base.there b o e hx;exact⟨o',(hs.2 b (Nat.ne_of_lt (Nat.lt_of_lt_of_le (Heap.lt_size e) (I.ok.cab x c hfn hc)))).trans e1⟩
  ·by_cases hj:j=i
   ·subst hj;rw[hi] at e1;cases e1;rw[List.getElem?_set_self hiσ] at e2;cases e2;exact⟨u,r,.inr ⟨.inl hk,c,hc,hc'⟩⟩
   ·rw[List.getElem?_set_ne (Ne.symm hj)] at e2;obtain⟨u',r',q⟩:=hl j y v' e1 e2 e3;refine⟨u',r',?_⟩;rcases q with q|⟨k,c',e,z'⟩
    ·exact .inl q
    ·refine .inr ⟨k,c',e,z'.sameBut hs ?_⟩;rintro rfl;exact hj (Zgv hN e1 (I.ok.inj _ _ _ e hc ▸ hi))
  ·by_cases hcc:c'=c
   ·subst hcc;exact⟨_,hc'⟩
   ·obtain⟨w2,z2⟩:=I.cell y c' e;exact⟨w2,z2.sameBut hs hcc⟩
  ·obtain⟨e,n,ne,nf,d⟩:=I.pin p hp;refine⟨(hs.2 p.1 ?_).trans e,n,ne,nf,d⟩;intro q;rw[q,hoc] at e;have q':oc=p.2:=Option.some.inj e;exact d w' (by rw[<- q'];exact hocd)
theorem Zgy{M:Model}{A:Around}{E:Value->Shared->Prop}{i:Nat}{x:Str}{v:V}{u:Value}{Q:Unit->Shared->Prop}(I:Inv X pins σ H s)(hN:X.N.Nodup)(hi:X.N[i]?= some x)(hx:Loc X.env.scope x)(r:RelV v u)
  (h:∀s',Inv X pins (σ.set i (some v)) H s'->Q () s') (hf:X.fn x=true\/X.env.scope.names.lookup x=some .local:=by first|exact .inl rfl|exact .inr rfl|assumption):wpAny M A (storeName X.env x u) Q E s :=
 ZiF I hN hi hx r (fun s' I' _=>h s' I') hf
theorem Inv.call'{s':Shared}{ch:List Addr}(I:Inv X pins σ H s)(ho:s'.os=s.os)(u:Un (frs X.stack) ch H H' s.heap s'.heap)(hok:HOk X.prog X.w H' s'.heap)(hg:AllBare s'.gens)
  (hch:∀b∈ch,(b∈X.ex\/X.s₀.heap.objs.size<=b)/\b≠X.env.locals/\(∀x c,X.env.cells.lookup x=some c->c≠b)/\∀p∈X.pn++pins,p.1≠b):Inv X pins σ H' s':=by
 obtain⟨h',g',d',t',o'⟩:=s';have e:o'=s.os:=ho;subst e;exact I.call (g':=g') (t':=t') (d':=d') u hok hg hch
end
abbrev XK:=Value->Option Addr->Hp->Prop
abbrev St:=List (Option V)
abbrev VK:=V->Hp->Prop
abbrev TE:=St->Hp->VK->Prop
abbrev TT:=St->Hp->(Bool->Hp->Prop)->Prop
abbrev TA:=St->Hp->(List V->Hp->Prop)->Prop
structure Ends where
 nx:St->Hp->Prop
 rt:VK
 bk:St->Hp->Prop:=fun _ _=>False
 ct:St->Hp->Prop:=fun _ _=>False
abbrev TS:=Ends->St->Hp->Prop
def EP(X:Cx)(pins:List (Addr×Obj))(σ : St)(Q:VK)(u:Value)(s':Shared):Prop := ∃v H',Inv X pins σ H' s'/\RelV v u/\Q v H'
def TP(X:Cx)(pins:List (Addr×Obj))(σ : St)(Q:Bool->Hp->Prop)(b:Bool)(s':Shared):Prop := ∃H',Inv X pins σ H' s'/\Q b H'
def AP(X:Cx)(pins:List (Addr×Obj))(σ : St)(Q:List V->Hp->Prop)(us:List Value)(s':Shared):Prop := ∃vs H',Inv X pins σ H' s'/\Vals vs us/\Q vs H'
def SP(X:Cx)(pins:List (Addr×Obj))(D:Ends)(f:Flow)(s':Shared):Prop :=
 match f with
 | .next=>∃ σ' H',Inv X pins σ' H' s'/\D.nx σ' H'
 | .brk=>∃ σ' H',Inv X pins σ' H' s'/\D.bk σ' H'
 | .cont=>∃ σ' H',Inv X pins σ' H' s'/\D.ct σ' H'
 | .ret u=>∃v σ' H',Inv X pins σ' H' s'/\RelV v u/\D.rt v H'
def PE(X:Cx)(e:Expr)(t:TE):Prop :=
 ∀(pins:List (Addr×Obj))(s:Shared)(σ : St)(H:Hp)(Q:VK),Inv X pins σ H s->t σ H Q->wpAny (model X.prog X.w) X.A (eval e X.env) (EP X pins σ Q) X.xe s
def PT(X:Cx)(e:Expr)(t:TT):Prop :=
 ∀(pins:List (Addr×Obj))(s:Shared)(σ : St)(H:Hp)(Q:Bool->Hp->Prop),Inv X pins σ H s->t σ H Q->wpAny (model X.prog X.w) X.A (isTrue e X.env (eval e X.env)) (TP X pins σ Q) X.xe s
def PW(X:Cx)(e:Expr)(t:TT):Prop :=
 ∀(whole:Sem Value)(pins:List (Addr×Obj))(s:Shared)(σ : St)(H:Hp)(Q:Bool->Hp->Prop),Inv X pins σ H s->t σ H Q->wpAny (model X.prog X.w) X.A (isTrue e X.env whole) (TP X pins σ Q) X.xe s
theorem PW.pt{X:Cx}{e:Expr}{t:TT}(h:PW X e t):PT X e t:=h _
def PA(X:Cx)(es:List Expr)(t:TA):Prop :=
 ∀(pos:Pos)(pins:List (Addr×Obj))(s:Shared)(σ : St)(H:Hp)(Q:List V->Hp->Prop),Inv X pins σ H s->t σ H Q->wpAny (model X.prog X.w) X.A (spliced (backTo pos (starEach es X.env))) (AP X pins σ Q) X.xe s
def PS(X:Cx)(st:Stmt)(t:TS):Prop :=
 ∀(pins:List (Addr×Obj))(s:Shared)(σ : St)(H:Hp)(D:Ends),Inv X pins σ H s->t D σ H->wpAny (model X.prog X.w) X.A (exec st X.env) (SP X pins D) X.xe s
def PSs(X:Cx)(st:List Stmt)(t:TS):Prop :=
 ∀(pins:List (Addr×Obj))(s:Shared)(σ : St)(H:Hp)(D:Ends),Inv X pins σ H s->t D σ H->wpAny (model X.prog X.w) X.A (execs st X.env) (SP X pins D) X.xe s
theorem thn{α : Type}{t:Sem α}{Q Q' : α -> Shared->Prop}{M:Model}{A:Around}{E:Value->Shared->Prop}{s:Shared}(h:wpAny M A t Q E s)(hQ:∀a s,Q a s->Q' a s):wpAny M A t Q' E s:=wpAny_mono h hQ fun _ _ x=>x
section
variable{X:Cx}
def ZlV(i:Nat):TE:=fun σ H Q=>∃v,σ[i]?= some (some v)/\Q v H
def tC(v:V):TE:=fun _ H Q=>Q v H
theorem Zlf{i:Nat}{x:Str}{pos:Pos}(hN:X.N[i]?= some x)(hv:Vis X.env.scope x)(hd:(x == ("__debug__" : Str))=false:=by decide) (hcd:(x == ("__classdict__" : Str))=false:=by decide):PE X (.Name x pos) (ZlV i):=by
 intro pins s σ H Q I h;obtain⟨v,e,h⟩:=h;obtain⟨m,hn,hl⟩:=I.loc;obtain⟨u,r,l⟩:=hl i x v hN e hv;have fin:EP X pins σ Q u s:=⟨v,H,I,r,h⟩;rcases l with⟨hk,hm⟩|⟨hk,c,hc,hcell⟩
 ·exact wpAny_Name (wpAny_loadName_local I.ok.kind hk hn hm fin) hd
 ·rcases hk with hk|hk
  ·exact wpAny_Name (wpAny_loadName_cell I.ok.kind hk hc hcell fin) hd
  ·exact wpAny_Name (wpAny_loadName_free I.ok.kind hk hc hcell fin hcd) hd
theorem Zh{i j pos}:PE X (.Constant (.int i) j pos) (tC (.int i)):=fun _ _ _ H _ I h=>wpAny_Constant_int ⟨.int i,H,I.tok _,⟨_,rfl⟩,h⟩
theorem ZdE{b j pos}:PE X (.Constant (.bool b) j pos) (tC (.bl b)):=fun _ _ _ H _ I h=>Constant_bool ⟨.bl b,H,I,rfl,h⟩
theorem ZlO{j pos}:PE X (.Constant .none j pos) (tC .non):=fun _ _ _ H _ I h=>Constant_none ⟨.non,H,I,rfl,h⟩
theorem Zan{x j pos}:PE X (.Constant (.str x) j pos) (tC (.str x)):=fun _ _ _ H _ I h=>Calls.Constant_str ⟨.str x,H,I.tok _,⟨_,rfl⟩,h⟩
def Gl(X:Cx)(x:Str):Prop:=X.env.kindOf x=some .globalImplicit
theorem Zdp{E:Value->Shared->Prop}{pins:List (Addr×Obj)}{s:Shared}{σ : St}{H:Hp}{x:Str}{u:Value}{pos:Pos}{Q:Value->Shared->Prop}(I:Inv X pins σ H s)(hg:Gl X x)(hm:X.mg x=some u)(h:Q u s)
  (hd:(x == ("__debug__" : Str))=false:=by decide):wpAny (model X.prog X.w) X.A (eval (.Name x pos) X.env) Q E s :=
 Calls.Name_function_global I.ok.kind hg (Calls.loadGlobal_global (by rw[I.ok.glob];exact I.mod.glob.keeps I.bk) hm h) hd
theorem Zdf{E:Value->Shared->Prop}{pins:List (Addr×Obj)}{s:Shared}{σ : St}{H:Hp}{x:Str}{u:Value}{pos:Pos}{Q:Value->Shared->Prop}(I:Inv X pins σ H s)(hg:Gl X x)(hm:X.mg x=none)(hv:bootBuiltins x=some u)(h:Q u s)
  (hn:x ≠ "__name__" := by decide) (hd:(x == ("__debug__" : Str))=false:=by decide):wpAny (model X.prog X.w) X.A (eval (.Name x pos) X.env) Q E s:=by
 obtain⟨mb,h1,h2⟩:=I.mod.blt;exact Calls.Name_function_global I.ok.kind hg (Calls.loadGlobal_builtin (by rw[I.ok.glob];exact I.mod.glob.keeps I.bk) hm (by rw[I.ok.blt];exact h1.keeps I.bk) ((h2 x hn).trans hv) h) hd
theorem ZfZ{x:Str}{v:V}{u:Value}{pos:Pos}(hg:Gl X x)(hm:X.mg x=some u)(r:RelV v u)(hd:(x == ("__debug__" : Str))=false:=by decide):PE X (.Name x pos) (tC v) :=
 fun _ _ _ H _ I h=>Zdp I hg hm ⟨v,H,I,r,h⟩ hd
theorem Zkn{x:Str}{v:V}{u:Value}{pos:Pos}(hg:Gl X x)(hm:X.mg x=none)(hv:bootBuiltins x=some u)(r:RelV v u)(hn:x ≠ "__name__" := by decide) (hd:(x == ("__debug__" : Str))=false:=by decide):PE X (.Name x pos) (tC v) :=
 fun _ _ _ H _ I h=>Zdf I hg hm hv ⟨v,H,I,r,h⟩ hn hd
variable{a b:Expr}{ta tb:TE}{pos:Pos}
variable{tA tB':TT}{rest:List Expr}
def ZmI(t u:TT):TT:=fun σ H Q=>t σ H fun c H1=>if c=true then u σ H1 Q else Q false H1
def tOr(t u:TT):TT:=fun σ H Q=>t σ H fun c H1=>if c=true then Q true H1 else u σ H1 Q
def ZmN(t:TT):TT:=fun σ H Q=>t σ H fun c H1=>Q (!c) H1
theorem ZkE(ha:PT X a tA):PW X (.BoolOp .And [a] pos) tA:=by
 intro wh pins s σ H Q I h;refine isTrue_and (thn (ha pins s σ H Q I h) fun c s1 e=>?_);cases c with
 | true=>exact isTrue_and_nil e
 | false=>exact e
theorem Zfj(ha:PT X a tA):PW X (.BoolOp .Or [a] pos) tA:=by
 intro wh pins s σ H Q I h;refine isTrue_or (thn (ha pins s σ H Q I h) fun c s1 e=>?_);cases c with
 | false=>exact isTrue_or_nil e
 | true=>exact e
theorem Zlg(ha:PT X a tA)(hb:PW X (.BoolOp .And (b::rest) pos) tB'):PW X (.BoolOp .And (a::b::rest) pos) (ZmI tA tB'):=by
 intro wh pins s σ H Q I h;refine isTrue_and (thn (ha pins s σ H _ I h) fun c s1 ⟨H1,I1,q1⟩=>?_);cases c with
 | true=>exact hb wh pins s1 σ H1 Q I1 q1
 | false=>exact⟨H1,I1,q1⟩
theorem Zhh(ha:PT X a tA)(hb:PW X (.BoolOp .Or (b::rest) pos) tB'):PW X (.BoolOp .Or (a::b::rest) pos) (tOr tA tB'):=by
 intro wh pins s σ H Q I h;refine isTrue_or (thn (ha pins s σ H _ I h) fun c s1 ⟨H1,I1,q1⟩=>?_);cases c with
 | true=>exact⟨H1,I1,q1⟩
 | false=>exact hb wh pins s1 σ H1 Q I1 q1
theorem Zkl(ha:PT X a tA):PT X (.UnaryOp .Not a pos) (ZmN tA):=by
 intro pins s σ H Q I h;exact isTrue_not (ha pins s σ H (fun c H1=>Q (!c) H1) I h)
def ZmZ(ta tb:TE):TE:=fun σ H Q=>ta σ H fun x H1=>∃c,x=.bl c/\if c=true then Q (.bl true) H1 else tb σ H1 Q
theorem ZlE{op}{t:TE}(h:PE X a t):PE X (.BoolOp op [a] pos) t:=fun pins s σ H Q I hw=>BoolOp_one (h pins s σ H Q I hw)
theorem Zl4(ha:PE X a ta)(hb:PE X (.BoolOp .Or (b::rest) pos) tb):PE X (.BoolOp .Or (a::b::rest) pos) (ZmZ ta tb):=by
 intro pins s σ H Q I h;refine BoolOp_or (thn (ha pins s σ H _ I h) fun v s1 ⟨x,H1,I1,r1,q1⟩=>?_);obtain⟨c,rfl,q1⟩:=q1;cases r1;refine wpAny_truthy_bool ?_;cases c with
 | false=>exact hb pins s1 σ H1 Q I1 q1
 | true=>exact⟨.bl true,H1,I1,rfl,q1⟩
end
def SqL(K:PySem.W.Frag)(H:Hp)(a:Addr)(xs:List V):Prop :=
 Rd H a (.lst xs) \/
  ∃(o:Obj)(its:Array Value)(n:Nat),K.lookup a=some o/\o.cls=.type "list" /\ o.dict=none/\o.data=.seq its n/\its.size<=sizeLine/\Vals xs its.toList
def SqT(K:PySem.W.Frag)(H:Hp)(a:Addr)(xs:List V):Prop :=
 Rd H a (.tup xs) \/
  ∃(o:Obj)(its:Array Value)(n:Nat),K.lookup a=some o/\o.cls=.type "tuple" /\ o.data=.seq its n/\its.size<=sizeLine/\Vals xs its.toList
def ZmU:Value->Option V
 | .none=>some .non
 | .bool b=>some (.bl b)
 | .int i _=>some (.int i)
 | .str x _=>some (.str x)
 | .bytes b _=>some (.byt b)
 | .float b _=>some (.flt b)
 | .ref a=>some (.ref a)
 | .type n=>some (.ty n)
 | _=>none
theorem RelV.abs{x:V}{u:Value}(r:RelV x u):ZmU u=some x:=by
 cases x with
 | non=>cases r;rfl
 | bl _=>cases r;rfl
 | int _=>obtain⟨t,rfl⟩:=r;rfl
 | str _=>obtain⟨t,rfl⟩:=r;rfl
 | byt _=>obtain⟨t,rfl⟩:=r;rfl
 | flt _=>obtain⟨t,rfl⟩:=r;rfl
 | ref _=>cases r;rfl
 | ty _=>cases r;rfl
theorem RelV.inj{x y:V}{u:Value}(r:RelV x u)(q:RelV y u):x=y:=Option.some.inj (r.abs.symm.trans q.abs)
theorem Vals.inj:∀{xs ys:List V}{us:List Value},Vals xs us->Vals ys us->xs=ys
 | _,_,_,.nil,.nil=>rfl
 | _,_,_,.cons r t,.cons r' t'=>by rw[r.inj r',Vals.inj t t']
section
variable{X:Cx}{pins:List (Addr×Obj)}{σ : St}{H:Hp}{s:Shared}{a:Addr}{xs ys:List V}
theorem SqL.of{K:PySem.W.Frag}(h:H a=some (.lst xs)):SqL K H a xs:=.inl (.inl h)
theorem SqT.of{K:PySem.W.Frag}(h:H a=some (.tup xs)):SqT K H a xs:=.inl (.inl h)
theorem Inv.list(I:Inv X pins σ H s)(h:SqL X.K H a xs):∃its:List Value,Vals xs its/\PlainL s.heap a its.toArray/\xs.length<=sizeLine:=by
 rcases h with h|⟨o,its,n,hk,hc,hd,hs,hz,r⟩
 ·obtain⟨z,its,n,r,e⟩:=h.ok I.hok;exact⟨its,r,⟨_,n,e,rfl,rfl,rfl⟩,z⟩
 ·refine⟨its.toList,r,⟨o,n,I.kIn a o hk,hc,hd,by simpa using hs⟩,?_⟩;have e:=r.length;simp only[Array.length_toList] at e;lia
theorem Inv.tuple(I:Inv X pins σ H s)(h:SqT X.K H a xs):∃its:List Value,Vals xs its/\IsTup s.heap a its.toArray/\xs.length<=sizeLine:=by
 rcases h with h|⟨o,its,n,hk,hc,hs,hz,r⟩
 ·obtain⟨z,its,r,p⟩:=h.ok I.hok;exact⟨its,r,p,z⟩
 ·refine⟨its.toList,r,⟨o,I.kIn a o hk,hc,n,by simpa using hs⟩,?_⟩;have e:=r.length;simp only[Array.length_toList] at e;lia
theorem Inv.list_inj(I:Inv X pins σ H s)(h:SqL X.K H a xs)(h':SqL X.K H a ys):xs=ys:=by
 obtain⟨its,r,⟨o,n,e,_,_,d⟩,_⟩:=I.list h;obtain⟨its',r',⟨o',n',e',_,_,d'⟩,_⟩:=I.list h';rw[e] at e';cases e';rw[d] at d';injection d' with d1 _;have:its=its':=by simpa using congrArg Array.toList d1
 subst this;exact r.inj r'
theorem Inv.tuple_inj(I:Inv X pins σ H s)(h:SqT X.K H a xs)(h':SqT X.K H a ys):xs=ys:=by
 obtain⟨its,r,⟨o,e,_,n,d⟩,_⟩:=I.tuple h;obtain⟨its',r',⟨o',e',_,n',d'⟩,_⟩:=I.tuple h';rw[e] at e';cases e';rw[d] at d';injection d' with d1 _;have:its=its':=by simpa using congrArg Array.toList d1
 subst this;exact r.inj r'
end
abbrev Cx.wish(X:Cx)(E:Value->Shared->Prop):Cx:={ X with xe:=E }
abbrev Cx.nox(X:Cx):Cx:=X.wish fun _ _=>False
theorem Cx.Ok.wish{X:Cx}(ok:X.Ok)(E:Value->Shared->Prop):(X.wish E).Ok :=
 ⟨ok.mod,ok.kind,ok.glob,ok.blt,ok.above,ok.inj,ok.has,ok.cab,ok.hd,ok.frames,ok.stk,ok.exf,ok.bs,ok.bsz,ok.noex,ok.exfs,ok.funs,ok.frf⟩
theorem Cx.Ok.unwish{X:Cx}{E:Value->Shared->Prop}(ok:(X.wish E).Ok):X.Ok :=
 ⟨ok.mod,ok.kind,ok.glob,ok.blt,ok.above,ok.inj,ok.has,ok.cab,ok.hd,ok.frames,ok.stk,ok.exf,ok.bs,ok.bsz,ok.noex,ok.exfs,ok.funs,ok.frf⟩
section
variable{X:Cx}{pins:List (Addr×Obj)}{σ : St}{H:Hp}{s:Shared}{E:Value->Shared->Prop}
theorem Inv.wish(I:Inv X pins σ H s)(E:Value->Shared->Prop):Inv (X.wish E) pins σ H s:=⟨I.ok.wish E,I.os,I.bare,I.base,I.loc,I.cell,I.free,I.freeC,I.pin,I.hok,I.len⟩
theorem Inv.unwish(I:Inv (X.wish E) pins σ H s):Inv X pins σ H s:=⟨I.ok.unwish,I.os,I.bare,I.base,I.loc,I.cell,I.free,I.freeC,I.pin,I.hok,I.len⟩
theorem SP.unwish{D:Ends}{f:Flow}{s':Shared}(h:SP (X.wish E) pins D f s'):SP X pins D f s':=by
 cases f with
 | next=>obtain⟨σ',H',I,q⟩:=h;exact⟨σ',H',I.unwish,q⟩
 | brk=>obtain⟨σ',H',I,q⟩:=h;exact⟨σ',H',I.unwish,q⟩
 | cont=>obtain⟨σ',H',I,q⟩:=h;exact⟨σ',H',I.unwish,q⟩
 | ret u=>obtain⟨v,σ',H',I,r,q⟩:=h;exact⟨v,σ',H',I.unwish,r,q⟩
theorem PSs.nox{st:List Stmt}{t:TS}(h:PSs X.nox st t):PSs X st t:=fun pins s σ H D I hw =>
 wpAny_mono (h pins s σ H D (I.wish _) hw) (fun _ _ q=>q.unwish) fun _ _ z=>False.elim z
end
section
variable{X:Cx}{st:Stmt}{rest:List Stmt}{t u:TS}{e:Expr}{te:TE}{pos:Pos}
def ZlX:TS:=fun D σ H=>D.nx σ H
def ZmD(t u:TS):TS:=fun D σ H=>t { D with nx:=u D } σ H
theorem ZaR:PSs X [] ZlX:=fun _ _ σ H _ I h=>wpAny_execs_nil ⟨σ,H,I,h⟩
theorem Zd(h1:PS X st t)(h2:PSs X rest u):PSs X (st::rest) (ZmD t u):=by
 intro pins s σ H D I h;refine wpAny_execs_cons (thn (h1 pins s σ H { D with nx:=u D } I h) fun f s1 q=>?_);cases f with
 | next =>
  obtain⟨σ',H',I',q⟩:=q;exact h2 pins s1 σ' H' D I' q
 | ret v=>exact q
 | brk=>exact q
 | cont=>exact q
theorem Zj(h1:PS X st t):PSs X [st] t:=by
 intro pins s σ H D I h;refine wpAny_execs_cons (thn (h1 pins s σ H D I h) fun f s1 q=>?_);cases f with
 | next=>exact wpAny_execs_nil q
 | ret v=>exact q
 | brk=>exact q
 | cont=>exact q
def Zl3:TS:=fun D σ H=>D.ct σ H
theorem ZdB:PS X (.Continue pos) Zl3:=fun _ _ σ H _ I h=>wpAny_Continue ⟨σ,H,I,h⟩
theorem Inv.quiet{pins:List (Addr×Obj)}{σ : St}{H:Hp}{s:Shared}(I:Inv X pins σ H s):interactive X.env=false:=by simp[interactive,I.ok.kind]
def Zmj(te:TE):TS:=fun D σ H=>te σ H fun _ H1=>D.nx σ H1
theorem ZV(he:PE X e te)(hs:swapsWith e none pos.line X.env=pure false:=by rfl):PS X (.Expr e pos) (Zmj te):=by
 intro pins s σ H D I h;exact wpAny_Expr_any (thn (he pins s σ H _ I h) fun v s1 ⟨x,H1,I1,r1,q1⟩=>⟨σ,H1,I1,q1⟩) I.quiet hs
def ZmS(te:TE):TS:=fun D σ H=>te σ H D.rt
theorem ZS(he:PE X e te):PS X (.Return (some e) pos) (ZmS te):=by
 intro pins s σ H D I h;exact wpAny_Return_some (thn (he pins s σ H _ I h) fun v s1 ⟨x,H1,I1,r1,q1⟩=>⟨x,σ,H1,I1,r1,q1⟩)
def Zm5(c:TT)(t u:TS):TS:=fun D σ H=>c σ H fun b H1=>if b=true then t D σ H1 else u D σ H1
theorem Zbi{c:Expr}{a b:List Stmt}{tc:TT}(hc:PT X c tc)(ha:PSs X a t)(hb:PSs X b u):PS X (.If c a b pos) (Zm5 tc t u):=by
 intro pins s σ H D I h;refine wpAny_If (thn (hc pins s σ H _ I h) fun d s1 ⟨H1,I1,q1⟩=>?_);cases d with
 | true=>exact ha pins s1 σ H1 D I1 q1
 | false=>exact hb pins s1 σ H1 D I1 q1
end
abbrev TG:=V->St->Hp->(St->Hp->Prop)->Prop
abbrev TGs:=List V->St->Hp->(St->Hp->Prop)->Prop
def PG(X:Cx)(target:Expr)(t:TG):Prop :=
 ∀(pins:List (Addr×Obj))(s:Shared)(σ : St)(H:Hp)(v:V)(u:Value)(Q:St->Hp->Prop),Inv X pins σ H s->RelV v u->t v σ H Q ->
  wpAny (model X.prog X.w) X.A (assign target X.env u) (fun _ s'=>∃ σ' H',Inv X pins σ' H' s'/\Q σ' H') X.xe s
def PGs(X:Cx)(ts:List Expr)(t:TGs):Prop :=
 ∀(pins:List (Addr×Obj))(s:Shared)(σ : St)(H:Hp)(vs:List V)(us:List Value)(Q:St->Hp->Prop),Inv X pins σ H s->Vals vs us->t vs σ H Q ->
  wpAny (model X.prog X.w) X.A (assignInOrder ((assignEach ts X.env).map (·.2)) us) (fun _ s'=>∃ σ' H',Inv X pins σ' H' s'/\Q σ' H') X.xe s
abbrev Zmb:=V->V->V->Hp->(Hp->Prop)->Prop
def ZmH(X:Cx)(t:Zmb):Prop :=
 ∀(pins:List (Addr×Obj))(s:Shared)(σ : St)(H:Hp)(o i v:V)(ov iv u:Value)(Q:Hp->Prop),Inv X pins σ H s->RelV o ov->RelV i iv->RelV v u->t o i v H Q ->
  wpAny (model X.prog X.w) X.A (setItem ov iv u) (fun _ s'=>∃H',Inv X pins σ H' s'/\Q H') X.xe s
section
variable{X:Cx}{pos:Pos}
def ZlD(i:Nat):TG:=fun v σ H Q=>Q (σ.set i (some v)) H
theorem Zt{i:Nat}{x:Str}(hN:X.N.Nodup)(hi:X.N[i]?= some x)(hx:Loc X.env.scope x)(hf:X.fn x=true\/X.env.scope.names.lookup x=some .local:=by first|exact .inl rfl|exact .inr rfl|assumption):PG X (.Name x pos) (ZlD i):=by
 intro pins s σ H v u Q I r h;exact wpAny_assign_Name (Zgy I hN hi hx r (fun s' I'=>⟨_,H,I',h⟩) hf)
def Zm6:TGs:=fun vs σ H Q=>vs=[]/\Q σ H
def ZlY(t:TG)(u:TGs):TGs:=fun vs σ H Q=>∃v r,vs=v::r/\t v σ H fun σ' H'=>u r σ' H' Q
theorem Zbd:PGs X [] Zm6:=by
 intro pins s σ H vs us Q I r h;obtain⟨e,h⟩:=h;subst e;cases r;exact assignInOrder_nil ⟨σ,H,I,h⟩
theorem ZJ{e:Expr}{es:List Expr}{t:TG}{u:TGs}(h1:PG X e t)(h2:PGs X es u)
  (hs:(assignEach (e::es) X.env).map (·.2)=assign e X.env::(assignEach es X.env).map (·.2):=by rfl):PGs X (e::es) (ZlY t u):=by
 intro pins s σ H vs us Q I r h;obtain⟨v,vr,e1,h⟩:=h;subst e1;cases r with
 | cons r rr =>
  rw[hs];refine assignInOrder_cons (thn (h1 pins s σ H _ _ _ I r h) fun _ s1 ⟨σ1,H1,I1,q1⟩=>?_);exact h2 pins s1 σ1 H1 _ _ Q I1 rr q1
def Zmv(K:PySem.W.Frag)(n:Nat)(t:TGs):TG:=fun v σ H Q=>∃a xs,v=.ref a/\SqT K H a xs/\xs.length=n/\t xs σ H Q
theorem Zb1{es:List Expr}{k:Nat}{t:TGs}{n:Nat}(hc:X.calm=true)(h:PGs X es t)
  (hn:(assignEach es X.env).length=n:=by rfl) (hst:(assignEach es X.env).findIdx? (·.1)=none:=by rfl):PG X (.Tuple es k pos) (Zmv X.K n t):=by
 intro pins s σ H v u Q I r hw;obtain⟨a,xs,e1,hq,hl,hw⟩:=hw;subst e1;cases r;obtain⟨its,rv,ht,hz⟩:=I.tuple hq;refine assign_Tuple_tuple (I.ok.hd hc) ht (by simp[hn,<- hl,rv.length]) hst fun h' hx=>?_;have I1:Inv X pins σ H { s with heap:=h' }:=I.kept (t':=s.toks) fun b o e=>hx b o (Nat.ne_of_lt (Heap.lt_size e)) e;exact h pins _ σ H xs _ Q I1 (by simpa using rv) hw
def ZmT(to ti:TE)(t:Zmb):TG:=fun v σ H Q=>to σ H fun o H1=>ti σ H1 fun i H2=>t o i v H2 fun H3=>Q σ H3
theorem Zll{o i:Expr}{to ti:TE}{t:Zmb}(ho:PE X o to)(hi:PE X i ti)(hs:ZmH X t)
  (ha:∀v,assign (.Subscript o i pos) X.env v=(do
   let ov <- holding [v] (eval o X.env)
   let iv <- holding [v,ov] (eval i X.env)
   standAt pos
   holding [v,ov,iv] (setItem ov iv v)
   release [v,ov,iv] []):=by intro _;rfl):PG X (.Subscript o i pos) (ZmT to ti t):=by
 intro pins s σ H v u Q I r h;rw[ha];refine wpAny_bind (wpAny_holding (thn (ho pins s σ H _ I h) fun ov s1 ⟨x,H1,I1,r1,q1⟩=>?_));refine wpAny_bind (wpAny_holding (thn (hi pins s1 σ H1 _ I1 q1) fun iv s2 ⟨y,H2,I2,r2,q2⟩=>?_));refine wpAny_bind (wpAny_standAt (wpAny_bind (wpAny_holding (thn (hs pins s2 σ H2 x y v ov iv u _ I2 r1 r2 r q2) fun _ s3 ⟨H3,I3,q3⟩=>?_))));exact wpAny_release ⟨σ,H3,I3,q3⟩
def ZmE(te:TE)(g:TG):TS:=fun D σ H=>te σ H fun x H1=>g x σ H1 D.nx
theorem Zcc{tg e:Expr}{te:TE}{g:TG}(he:PE X e te)(hg:PG X tg g)(hs:swapsWithSole [tg] e pos.line X.env=pure false:=by rfl)(hw:swappedStores [tg] e X.env=pure none:=by rfl)
  (h1:(assignEach [tg] X.env).map (·.2)=[assign tg X.env]:=by rfl):PS X (.Assign [tg] e pos) (ZmE te g):=by
 intro pins s σ H D I h;refine wpAny_Assign_stores (thn (he pins s σ H _ I h) fun v s1 ⟨x,H1,I1,r1,q1⟩=>?_) hs hw;rw[h1];exact thn (hg pins s1 σ H1 x v _ I1 r1 q1) fun _ s2 q=>q
theorem Zn{i:Nat}{x:Str}{e:Expr}{te:TE}{pos':Pos}(hN:X.N.Nodup)(hi:X.N[i]?= some x)(hx:Loc X.env.scope x)(he:PE X e te)(hs:swapsWith e (some (.Name x pos')) pos.line X.env=pure false:=by rfl)(hf:X.fn x=true\/X.env.scope.names.lookup x=some .local:=by first|exact .inl rfl|exact .inr rfl|assumption) :
  PS X (.Assign [.Name x pos'] e pos) (ZmE te (ZlD i)):=by
 intro pins s σ H D I h;refine wpAny_Assign_Name (thn (he pins s σ H _ I h) fun v s1 ⟨y,H1,I1,r1,q1⟩=>?_) hs;exact Zgy I1 hN hi hx r1 (fun s2 I2=>⟨_,H1,I2,q1⟩) hf
def Zlt(c:TT)(tb:TS):TS:=fun D σ H=>∃W:Nat->St->Hp->Prop,(∃m,W m σ H)/\∀m σ H,W m σ H ->
 c σ H fun b H1=>if b=true then ∃N:St->Hp->Prop,(∀ σ' H',N σ' H'->∃m',m'<m/\W m' σ' H')/\tb { D with nx:=N,ct:=N,bk:=D.nx } σ H1 else D.nx σ H1
theorem ZgN{c:Expr}{body:List Stmt}{tc:TT}{tb:TS}(hp:PassesOwn (model X.prog X.w) X.A X.env X.xe)(hc:PT X c tc)(hb:PSs X body tb):PS X (.While c body [] pos) (Zlt tc tb):=by
 intro pins s σ H D I h;obtain⟨W,⟨m0,w0⟩,turn⟩:=h;refine wpAny_While (codeAny_whileLoop (fun n s'=>∃ σ' H',Inv X pins σ' H' s'/\W n σ' H') ?_ m0 ⟨σ,H,I,w0⟩);rintro n s1 ⟨σ1,H1,I1,w1⟩;refine wpAny_passesOwn hp (thn (hc pins s1 σ1 H1 _ I1 (turn n σ1 H1 w1)) fun b s2 ⟨H2,I2,q2⟩=>?_);cases b with
 | true =>
  obtain⟨N,hN,q2⟩:=q2;rw[if_pos rfl];refine wpAny_passesOwn hp (thn (hb pins s2 σ1 H2 _ I2 q2) fun f s3 q3=>?_);cases f with
  | next =>
   obtain⟨σ3,H3,I3,n3⟩:=q3;obtain⟨m',hm,w3⟩:=hN σ3 H3 n3;exact⟨m',hm,σ3,H3,I3,w3⟩
  | cont =>
   obtain⟨σ3,H3,I3,n3⟩:=q3;obtain⟨m',hm,w3⟩:=hN σ3 H3 n3;exact⟨m',hm,σ3,H3,I3,w3⟩
  | brk=>exact q3
  | ret v=>exact q3
 | false =>
  rw[if_neg Bool.false_ne_true];exact wpAny_execs_nil ⟨σ1,H2,I2,q2⟩
end
structure It where
 go:Nat->Hp->Prop
 yld:Nat->Hp->V->Hp->Prop
 stop:Nat->Hp->Prop
def ZeE(X:Cx)(pins:List (Addr×Obj))(H:Hp)(b:Addr):Prop :=
 H b=none/\b≠X.env.locals/\b∉X.fs/\(b∈X.ex\/X.s₀.heap.objs.size<=b)/\(∀x c,X.env.cells.lookup x=some c->c≠b)/\∀p∈X.pn++pins,p.1≠b
theorem Inv.fpOk{X:Cx}{pins:List (Addr×Obj)}{σ : St}{H H':Hp}{s:Shared}{b:Addr}(I:Inv X pins σ H s)(hb:s.heap.objs.size<=b)(hn:H' b=none):ZeE X pins H' b:=by
 refine⟨hn,Nat.ne_of_gt (Nat.lt_of_lt_of_le I.lt hb),I.nofs hb,.inr (Nat.le_trans I.sz hb),fun x c e z=>?_,fun p hp z=>?_⟩
 ·obtain⟨v,q⟩:=I.cell x c e;exact absurd (Nat.lt_of_lt_of_le q.lt (by rw[z];exact hb)) (Nat.lt_irrefl _)
 ·exact absurd (Nat.lt_of_lt_of_le (Heap.lt_size (I.pin p hp).1) (by rw[z];exact hb)) (Nat.lt_irrefl _)
structure Turn(P:Program)(w:World)(K:PySem.W.Frag)(tg:Expr)(J:It)(fp:List Addr)(it:Addr)(tn:Nat->Heap->Prop):Prop where
 mem:it∈fp
 obj:∀i h,tn i h->∀b∈fp,∃o,h.get? b=some o/\∀v,o.data ≠ .cell v
 keep:∀i h h',tn i h->(∀b∈fp,∀o,h.get? b=some o->h'.get? b=some o)->tn i h'
 item:∀(X:Cx),X.prog=P->X.w=w->X.K=K->X.calm=true->∀(i:Nat)(pins:List (Addr×Obj))(s:Shared)(σ : St)(H:Hp)(E:Value->Shared->Prop),Inv X pins σ H s->(∀b∈fp,ZeE X pins H b)->tn i s.heap->J.go i H ->
  wpAny (model P w) X.A (pyNext (.ref it)) (fun r s1=>∃u,r=some u /\
   wpAny (model P w) X.A (letOwnedTupleGo tg (.ref it) u) (fun _ s2=>∃x H',Inv X pins σ H' s2/\RelV x u/\J.yld i H x H'/\tn (i+1) s2.heap/\∀b∈fp,H' b=none) E s1) E s
 done:∀(X:Cx),X.prog=P->X.w=w->X.K=K->X.calm=true->∀(i:Nat)(pins:List (Addr×Obj))(s:Shared)(σ : St)(H:Hp)(E:Value->Shared->Prop),Inv X pins σ H s->(∀b∈fp,ZeE X pins H b)->tn i s.heap->J.stop i H ->
  wpAny (model P w) X.A (pyNext (.ref it)) (fun r s1=>r=none/\Inv X pins σ H s1) E s
 self:∀(A:Around)(i:Nat)(s:Shared)(Q:Value->Shared->Prop)(E:Value->Shared->Prop),tn i s.heap->Q (.ref it) s->wpAny (model P w) A (pyIter (.ref it)) Q E s
abbrev TI:=St->Hp->(It->Hp->Prop)->Prop
def PIE(X:Cx)(pins:List (Addr×Obj))(σ : St)(tg:Expr)(R:It->Hp->Prop)(itv:Value)(s2:Shared):Prop :=
 ∃(it:Addr)(fp:List Addr)(tn:Nat->Heap->Prop)(J:It)(H':Hp),itv=.ref it/\Inv X pins σ H' s2/\Turn X.prog X.w X.K tg J fp it tn/\tn 0 s2.heap/\(∀b∈fp,ZeE X pins H' b)/\R J H'
def PI(X:Cx)(tg iter:Expr)(wi:TI):Prop :=
 ∀(pins:List (Addr×Obj))(s:Shared)(σ : St)(H:Hp)(R:It->Hp->Prop),Inv X pins σ H s->wi σ H R ->
  wpAny (model X.prog X.w) X.A (eval iter X.env) (fun v s1=>wpAny (model X.prog X.w) X.A (pyIter v) (PIE X pins σ tg R) X.xe s1) X.xe s
theorem Zi4{M:Model}{A:Around}{E:Value->Shared->Prop}{s:Shared}{tg:Expr}{it:Addr}{u:Value}{o:Obj}{n:String}{vs:Array Value}{Q:Unit->Shared->Prop}(ho:s.heap.get? it=some o)(hc:o.cls=.type n)(hd:o.data=.fields vs)
    (hn:["enumerate","zip","dict_itemiterator","dict_reverseitemiterator","odict_iterator","itertools.zip_longest","itertools.pairwise"].contains n=false) (hQ:Q () s):wpAny M A (letOwnedTupleGo tg (.ref it) u) Q E s:=by
  unfold letOwnedTupleGo;cases tg <;> first
    | exact wpAny_pure hQ
    | (cases u <;> first
        | exact wpAny_pure hQ
        | (refine wpAny_bind (wpAny_load ho ?_)
           rw[hc,hd];show wpAny M A (if(["enumerate","zip","dict_itemiterator","dict_reverseitemiterator","odict_iterator","itertools.zip_longest","itertools.pairwise"].contains n&&vs[0]? == some (rawInt _))=true then _ else _) Q E s
           rw[if_neg (by intro h;rw[hn,Bool.false_and] at h;cases h)];exact wpAny_pure hQ))
def Itl(K:PySem.W.Frag)(a:Addr):It :=
 ⟨fun i H=>∃xs x,SqL K H a xs/\xs[i]?= some x,fun i H x H'=>H'=H/\∀xs,SqL K H a xs->xs[i]?= some x,fun i H=>∃xs,SqL K H a xs/\xs.length<=i⟩
def Itt(K:PySem.W.Frag)(a:Addr):It :=
 ⟨fun i H=>∃xs x,SqT K H a xs/\xs[i]?= some x,fun i H x H'=>H'=H/\∀xs,SqT K H a xs->xs[i]?= some x,fun i H=>∃xs,SqT K H a xs/\xs.length<=i⟩
def Itr(lo:Int)(n:Nat):It:=⟨fun i _=>i<n,fun i H x H'=>H'=H/\x=.int (lo+i),fun i _=>n<=i⟩
theorem Zil{P:Program}{w:World}{K:PySem.W.Frag}{tg:Expr}(a it:Addr):Turn P w K tg (Itl K a) [it] it (fun i h=>h.IsListIter it a i) where
 mem:=by simp
 obj:=fun i h st b hb=>by
  have e:b=it:=by simpa using hb
  subst e;obtain⟨o,e,c,d⟩:=st;exact⟨o,e,fun v z=>by rw[d] at z;cases z⟩
 keep:=fun i h h' st k=>st.at fun o e=>k it (by simp) o e
 item:=by
  intro X hP hw hK hc i pins s σ H E I hf st hg;subst hP hw hK;obtain⟨xs,x,hq,hx⟩:=hg;obtain⟨its,rv,p,hz⟩:=I.list hq;obtain⟨u,hu,ru⟩:=rv.get hx;obtain⟨f0,f1,f2,f3,f4,f5⟩:=hf it (by simp);refine wpAny_pyNext_list_item st p.isList (x:=u) (by simpa using hu) fun h' st' sb=>?_;have I1:Inv X pins σ H { s with heap:=h' }:=I.turned (t':=s.toks) (fun b o hb e=>(sb.2 b hb).trans e) f0 f1 f3 f4 f5;obtain⟨o,e,c,d⟩:=id st';exact⟨u,rfl,Zi4 (s:={ s with heap:=h' }) e c d (by decide) ⟨x,H,I1,ru,⟨rfl,fun ys hy=>by rw[I.list_inj hy hq];exact hx⟩,st',fun b hb=>(hf b hb).1⟩⟩
 done:=by
  intro X hP hw hK hc i pins s σ H E I hf st hg;subst hP hw hK;obtain⟨xs,hq,hx⟩:=hg;obtain⟨its,rv,p,hz⟩:=I.list hq;obtain⟨f0,f1,f2,f3,f4,f5⟩:=hf it (by simp);have hl:=rv.length;exact wpAny_pyNext_list_end (I.ok.hd hc) st p.isList (by simp;lia) fun h' eb=>⟨rfl,I.turned (t':=s.toks) (fun b o hb e=>eb b o hb e) f0 f1 f3 f4 f5⟩
 self:=fun _ _ _ _ _ st h=>wpAny_pyIter_listiter st h
theorem ZhC{P:Program}{w:World}{K:PySem.W.Frag}{tg:Expr}(a it:Addr):Turn P w K tg (Itt K a) [it] it (fun i h=>h.IsTupleIter it a i) where
 mem:=by simp
 obj:=fun i h st b hb=>by
  have e:b=it:=by simpa using hb
  subst e;obtain⟨o,e,c,d⟩:=st;exact⟨o,e,fun v z=>by rw[d] at z;cases z⟩
 keep:=fun i h h' st k=>st.at fun o e=>k it (by simp) o e
 item:=by
  intro X hP hw hK hc i pins s σ H E I hf st hg;subst hP hw hK;obtain⟨xs,x,hq,hx⟩:=hg;obtain⟨its,rv,p,hz⟩:=I.tuple hq;obtain⟨u,hu,ru⟩:=rv.get hx;obtain⟨f0,f1,f2,f3,f4,f5⟩:=hf it (by simp);refine wpAny_pyNext_tuple_item st (show s.heap.IsTuple a its.toArray from p) (x:=u) (by simpa using hu) fun h' st' sb=>?_;have I1:Inv X pins σ H { s with heap:=h' }:=I.turned (t':=s.toks) (fun b o hb e=>(sb.2 b hb).trans e) f0 f1 f3 f4 f5;obtain⟨o,e,c,d⟩:=id st';exact⟨u,rfl,Zi4 (s:={ s with heap:=h' }) e c d (by decide) ⟨x,H,I1,ru,⟨rfl,fun ys hy=>by rw[I.tuple_inj hy hq];exact hx⟩,st',fun b hb=>(hf b hb).1⟩⟩
 done:=by
  intro X hP hw hK hc i pins s σ H E I hf st hg;subst hP hw hK;obtain⟨xs,hq,hx⟩:=hg;obtain⟨its,rv,p,hz⟩:=I.tuple hq;obtain⟨f0,f1,f2,f3,f4,f5⟩:=hf it (by simp);have hl:=rv.length;exact wpAny_pyNext_tuple_end (I.ok.hd hc) st (show s.heap.IsTuple a its.toArray from p) (by simp;lia) fun h' eb=>⟨rfl,I.turned (t':=s.toks) (fun b o hb e=>eb b o hb e) f0 f1 f3 f4 f5⟩
 self:=fun _ _ _ _ _ st h=>wpAny_pyIter_tupleiter st h
theorem Zhd{P:Program}{w:World}{K:PySem.W.Frag}{tg:Expr}(it:Addr)(lo:Int)(n:Nat):Turn P w K tg (Itr lo n) [it] it (fun i h=>IsRangeIter h it (lo+(i:Nat)*1) ((n:Int)-(i:Nat)) 1) where
 mem:=by simp
 obj:=fun i h st b hb=>by
  have e:b=it:=by simpa using hb
  subst e;exact⟨_,st,fun v z=>by
   have z':Data.fields _=Data.cell v:=z;cases z'⟩
 keep:=fun i h h' st k=>k it (by simp) _ st
 item:=by
  intro X hP hw hK hc i pins s σ H E I hf st hg;subst hP hw hK;obtain⟨f0,f1,f2,f3,f4,f5⟩:=hf it (by simp);have W:=Walks.range (prog:=X.prog) (w:=X.w) (I.ok.hd hc) it lo 1 n;refine W.item i s _ _ hg st fun v h' tk hv st' kk=>?_;obtain⟨t,rfl⟩:=hv;have I1:Inv X pins σ H { s with heap:=h',toks:=tk }:=I.turned (fun b o hb e=>kk b o (by simpa using hb) e) f0 f1 f3 f4 f5;refine⟨_,rfl,Zi4 (s:={ s with heap:=h',toks:=tk }) (n := "range_iterator") st' rfl rfl (by decide) ⟨.int (lo+i),H,I1,⟨t,?_⟩,⟨rfl,rfl⟩,st',fun b hb=>(hf b hb).1⟩⟩;rw[Int.mul_one]
 done:=by
  intro X hP hw hK hc i pins s σ H E I hf st hg;subst hP hw hK;obtain⟨f0,f1,f2,f3,f4,f5⟩:=hf it (by simp);exact wpAny_pyNext_range_end (I.ok.hd hc) st (by have:n<=i:=hg;lia) fun h' eb=>⟨rfl,I.turned (t':=s.toks) (fun b o hb e=>eb b o hb e) f0 f1 f3 f4 f5⟩
 self:=fun _ _ _ _ _ st h=>wpAny_pyIter_rangeiter st h
section
variable{X:Cx}{tg:Expr}
def Zme(K:PySem.W.Frag)(tl:TE):TI:=fun σ H R=>tl σ H fun x H1=>∃a,x=.ref a/\(∃xs,SqL K H1 a xs)/\R (Itl K a) H1
def Zm9(K:PySem.W.Frag)(tl:TE):TI:=fun σ H R=>tl σ H fun x H1=>∃a,x=.ref a/\(∃xs,SqT K H1 a xs)/\R (Itt K a) H1
theorem ZbL{l:Expr}{tl:TE}(hl:PE X l tl):PI X tg l (Zme X.K tl):=by
 intro pins s σ H R I h;refine thn (hl pins s σ H _ I h) fun v s1 ⟨x,H1,I1,r1,q1⟩=>?_;obtain⟨a,e,⟨xs,hq⟩,q⟩:=q1;subst e;cases r1;obtain⟨its,rv,p,hz⟩:=I1.list hq;refine wpAny_pyIter_list p.isList ?_;refine⟨s1.heap.objs.size,[s1.heap.objs.size],_,_,H1,rfl,I1.kept (t':=s1.toks) fun b o e=>Heap.get?_push_of_some _ e,Zil a _,⟨_,Heap.get?_push_size _ rfl,rfl,rfl⟩,fun b hb=>?_,q⟩;have e:b=s1.heap.objs.size:=by simpa using hb
 subst e;exact I1.fpOk (Nat.le_refl _) (I1.hok.fresh (Nat.le_refl _))
theorem Zea{l:Expr}{tl:TE}(hl:PE X l tl):PI X tg l (Zm9 X.K tl):=by
 intro pins s σ H R I h;refine thn (hl pins s σ H _ I h) fun v s1 ⟨x,H1,I1,r1,q1⟩=>?_;obtain⟨a,e,⟨xs,hq⟩,q⟩:=q1;subst e;cases r1;obtain⟨its,rv,p,hz⟩:=I1.tuple hq;refine wpAny_pyIter_tuple (show s1.heap.IsTuple a its.toArray from p) ?_;refine⟨s1.heap.objs.size,[s1.heap.objs.size],_,_,H1,rfl,I1.kept (t':=s1.toks) fun b o e=>Heap.get?_push_of_some _ e,ZhC a _,⟨_,Heap.get?_push_size _ rfl,rfl,rfl⟩,fun b hb=>?_,q⟩;have e:b=s1.heap.objs.size:=by simpa using hb
 subst e;exact I1.fpOk (Nat.le_refl _) (I1.hok.fresh (Nat.le_refl _))
theorem ZjV{pins:List (Addr×Obj)}{σ : St}{H:Hp}{s:Shared}{R:It->Hp->Prop}{E:Value->Shared->Prop}{lo hi:Int}{t u v:Tok}{tk:Nat}(I:Inv X pins σ H s)(h1 : -(2 ^ 62)<=lo)(h2:lo<2 ^ 62)(h3 : -(2 ^ 62)<=hi)(h4:hi<2 ^ 62)
  (q:R (Itr lo (hi-lo).toNat) H):wpAny (model X.prog X.w) X.A (pyIter (.ref s.heap.objs.size)) (PIE X pins σ tg R) E { s with heap:=s.heap.push { cls:=.type "range",data:=.fields #[.int lo t,.int hi u,.int 1 v] },toks:=tk }:=by
 refine wpAny_pyIter_range (IsRange.new ..) (small_one h1 h2 h3 h4) ?_;have I1:Inv X pins σ H { s with heap:=s.heap.push { cls:=.type "range",data:=.fields #[.int lo t,.int hi u,.int 1 v] },toks:=tk }:=I.kept fun b o e=>Heap.get?_push_of_some _ e;refine⟨(s.heap.push { cls:=.type "range",data:=.fields #[.int lo t,.int hi u,.int 1 v] }).objs.size,[(s.heap.push { cls:=.type "range",data:=.fields #[.int lo t,.int hi u,.int 1 v] }).objs.size],_,_,H,rfl,
  I1.kept (t':=tk) fun b o e=>Heap.get?_push_of_some _ e,Zhd _ lo (hi-lo).toNat,?_,fun b hb=>?_,q⟩
 ·have e1:lo+((0:Nat):Int)*1=lo:=by simp
  have e2:(((hi-lo).toNat:Nat):Int)-((0:Nat):Int)=Builtin.Range.rangeSize lo hi 1:=by rw[rangeSize_one];split <;> lia
  show IsRangeIter _ _ (lo+((0:Nat):Int)*1) ((((hi-lo).toNat:Nat):Int)-((0:Nat):Int)) 1;rw[e1,e2];exact Heap.get?_push_size _ rfl
 ·have e:b=(s.heap.push { cls:=.type "range",data:=.fields #[.int lo t,.int hi u,.int 1 v] }).objs.size:=by simpa using hb
  subst e;exact I1.fpOk (Nat.le_refl _) (I1.hok.fresh (Nat.le_refl _))
def Zl5(ta:TA):TI:=fun σ H R=>ta σ H fun vs H1=>∃j:Int,vs=[.int j] /\ -(2 ^ 62)<=j/\j<2 ^ 62/\R (Itr 0 j.toNat) H1
theorem Zbq{a:Expr}{ta:TA}{p pos:Pos}(hg:Gl X "range") (hm:X.mg "range" = none) (ha:PA X [a] ta) (hs:starEach [a] X.env=[(false,eval a X.env)]:=by rfl):PI X tg (.Call (.Name "range" p) [a] [] pos) (Zl5 ta):=by
 intro pins s σ H R I h;refine Call_ (Zdf I hg hm boot_range (PyProof.Rows.callWith_type1 (thn (ha pos pins s σ H _ I h) fun us s1 ⟨vs,H1,I1,r1,q1⟩=>?_) hs rfl));obtain⟨j,e,q1,q2,q⟩:=q1;subst e;cases r1 with
 | cons r rr =>
  cases rr;obtain⟨t,rfl⟩:=r;exact call_range_1 (ZjV I1 (by lia) (by lia) q1 q2 (by simpa using q))
def Znd(wi:TI)(g:TG)(tb:TS):TS:=fun D σ H=>wi σ H fun J H1=>∃W:Nat->Nat->St->Hp->Prop,(∃m,W 0 m σ H1)/\∀i m σ H,W i m σ H ->
 (J.stop i H/\D.nx σ H)\/(J.go i H/\∃N:St->Hp->Prop,(∀ σ' H',N σ' H'->∃m',m'<m/\W (i+1) m' σ' H')/\∀x H',J.yld i H x H'->g x σ H' fun σ2 H2=>tb { D with nx:=N,ct:=N,bk:=D.nx } σ2 H2)
def ZgY(fp:List Addr)(h:Heap):List (Addr×Obj):=fp.filterMap fun b=>(h.get? b).map fun o=>(b,o)
theorem Zb8{fp:List Addr}{h:Heap}{b:Addr}{o:Obj}(hb:b∈fp)(e:h.get? b=some o):(b,o)∈ZgY fp h:=List.mem_filterMap.mpr ⟨b,hb,by rw[e];rfl⟩
theorem Zi3{fp:List Addr}{h:Heap}{p:Addr×Obj}(hp:p∈ZgY fp h):p.1∈fp/\h.get? p.1=some p.2:=by
 obtain⟨b,hb,e⟩:=List.mem_filterMap.mp hp;cases q:h.get? b with
 | none=>rw[q] at e;cases e
 | some o =>
  rw[q] at e;have e':(b,o)=p:=Option.some.inj e;subst e';exact⟨hb,q⟩
theorem Inv.pinned{pins:List (Addr×Obj)}{σ : St}{H:Hp}{s:Shared}{fp:List Addr}(I:Inv X pins σ H s)(hf:∀b∈fp,ZeE X pins H b)(ho:∀b∈fp,∃o,s.heap.get? b=some o/\∀v,o.data ≠ .cell v):Inv X (pins++ZgY fp s.heap) σ H s :=
 I.pins_of fun p hp=>(List.mem_append.mp hp).elim (fun z=>I.pin p (List.mem_append_right _ z)) fun z=>by
  obtain⟨hb,e⟩:=Zi3 z;obtain⟨f0,f1,f2,_⟩:=hf p.1 hb;obtain⟨o,e',d⟩:=ho p.1 hb;rw[e] at e';cases e';exact⟨e,f0,f1,f2,d⟩
theorem Inv.unpinned{pins pl:List (Addr×Obj)}{σ : St}{H:Hp}{s:Shared}(I:Inv X (pins++pl) σ H s):Inv X pins σ H s:=I.pins_of fun p hp=>I.pin p (List.mem_append_right _ (List.mem_append_left _ hp))
theorem ZaB{iter:Expr}{body:List Stmt}{wi:TI}{g:TG}{tb:TS}{pos:Pos}(hp:PassesOwn (model X.prog X.w) X.A X.env X.xe)(hc:X.calm=true)(hi:PI X tg iter wi)(hg:PG X tg g)(hb:PSs X body tb)
  (hs:∀x,foldedSetIterable iter X.env x=pure x:=by intro _;rfl):PS X (.For tg iter body [] pos) (Znd wi g tb):=by
 intro pins s σ H D I h;refine wpAny_For (thn (hi pins s σ H _ I h) fun v s1 h1=>thn h1 fun itv s2 h2=>?_) hs;obtain⟨it,fp,tn,J,H2,e,I2,T,st2,f2,W,⟨m0,w0⟩,turn⟩:=h2;subst e;have stat:∀{H':Hp},(∀b∈fp,H' b=none)->∀b∈fp,ZeE X pins H' b:=fun hn b hb=>⟨hn b hb,(f2 b hb).2⟩;refine codeAny_forLoop_any (fun n s'=>∃i σ' H',Inv X pins σ' H' s'/\tn i s'.heap/\(∀b∈fp,H' b=none)/\W i n σ' H') ?_ m0 ⟨0,σ,H2,I2,st2,fun b hb=>(f2 b hb).1,w0⟩;rintro n s3 ⟨i,σ3,H3,I3,st3,fr3,w3⟩;rcases turn i n σ3 H3 w3 with⟨stop,qn⟩|⟨go,N,hN,step⟩
 ·refine wpAny_passesOwn hp (thn (T.done X rfl rfl rfl hc i pins s3 σ3 H3 X.xe I3 (stat fr3) st3 stop) fun r s4 ⟨hr,I4⟩=>?_);subst hr;exact wpAny_execs_nil ⟨σ3,H3,I4,qn⟩
 ·refine wpAny_passesOwn hp (thn (T.item X rfl rfl rfl hc i pins s3 σ3 H3 X.xe I3 (stat fr3) st3 go) fun r s4 ⟨u,hr,h4⟩=>?_);subst hr;refine wpAny_passesOwn hp (thn h4 fun _ s5 ⟨x,H5,I5,r5,y5,st5,fr5⟩=>?_);have I5':=I5.pinned (stat fr5) (T.obj _ _ st5);refine wpAny_passesOwn hp (thn (hg _ s5 σ3 H5 x u _ I5' r5 (step x H5 y5)) fun _ s6 ⟨σ6,H6,I6,q6⟩=>?_);refine wpAny_passesOwn hp (thn (hb _ s6 σ6 H6 _ I6 q6) fun f s7 q7=>?_);have again:∀{σ7:St}{H7:Hp},Inv X (pins++ZgY fp s5.heap) σ7 H7 s7->N σ7 H7->∃m,m<n/\∃i σ' H',Inv X pins σ' H' s7/\tn i s7.heap/\(∀b∈fp,H' b=none)/\W i m σ' H':=fun{σ7 H7} I7 n7=>by
   obtain⟨m',hm,w7⟩:=hN σ7 H7 n7;refine⟨m',hm,i+1,σ7,H7,I7.unpinned,T.keep _ _ _ st5 fun b hb o e=>(I7.pin (b,o) (List.mem_append_right _ (List.mem_append_right _ (Zb8 hb e)))).1,fun b hb=>?_,w7⟩;obtain⟨o,e,d⟩:=T.obj _ _ st5 b hb;exact(I7.pin (b,o) (List.mem_append_right _ (List.mem_append_right _ (Zb8 hb e)))).2.1
  cases f with
  | next=>obtain⟨σ7,H7,I7,n7⟩:=q7;exact again I7 n7
  | cont=>obtain⟨σ7,H7,I7,n7⟩:=q7;exact again I7 n7
  | brk=>obtain⟨σ7,H7,I7,q7⟩:=q7;exact⟨σ7,H7,I7.unpinned,q7⟩
  | ret v=>obtain⟨x7,σ7,H7,I7,r7,q7⟩:=q7;exact⟨x7,σ7,H7,I7.unpinned,r7,q7⟩
end
theorem Zbu{K:PySem.W.Frag}{a:Addr}{xs:List V}{g:TG}{tb:TS}{D:Ends}{σ : St}{H:Hp}(Pv:Nat->St->Hp->Prop)(h0:Pv 0 σ H)(hl:∀i σ H,i<=xs.length->Pv i σ H->SqL K H a xs)
  (hs:∀i x σ H,xs[i]?= some x->Pv i σ H->g x σ H fun σ2 H2=>tb { D with nx:=Pv (i+1),ct:=Pv (i+1),bk:=D.nx } σ2 H2) (hd:∀ σ H,Pv xs.length σ H->D.nx σ H) :
  ∃W:Nat->Nat->St->Hp->Prop,(∃m,W 0 m σ H)/\∀i m σ H,W i m σ H ->
   ((Itl K a).stop i H/\D.nx σ H)\/((Itl K a).go i H/\∃N:St->Hp->Prop,(∀ σ' H',N σ' H'->∃m',m'<m/\W (i+1) m' σ' H')/\∀x H',(Itl K a).yld i H x H'->g x σ H' fun σ2 H2=>tb { D with nx:=N,ct:=N,bk:=D.nx } σ2 H2):=by
 refine⟨fun i m σ H=>m=xs.length-i/\i<=xs.length/\Pv i σ H,⟨xs.length,by simp,Nat.zero_le _,h0⟩,?_⟩;rintro i m σ H ⟨rfl,hi,p⟩;have q:=hl i σ H hi p;by_cases hlt:i<xs.length
 ·refine .inr ⟨⟨xs,xs[i],q,by simp[hlt]⟩,Pv (i+1),fun σ' H' p'=>⟨xs.length-(i+1),by lia,rfl,hlt,p'⟩,fun x H' y=>?_⟩;obtain⟨e,y⟩:=y;subst e;exact hs i x σ _ (y xs q) p
 ·have e:i=xs.length:=by lia
  subst e;exact .inl ⟨⟨xs,q,Nat.le_refl _⟩,hd σ H p⟩
theorem Zdx{K:PySem.W.Frag}{a:Addr}{xs:List V}{g:TG}{tb:TS}{D:Ends}{σ : St}{H:Hp}(Pv:Nat->St->Hp->Prop)(h0:Pv 0 σ H)(hl:∀i σ H,i<=xs.length->Pv i σ H->SqT K H a xs)
  (hs:∀i x σ H,xs[i]?= some x->Pv i σ H->g x σ H fun σ2 H2=>tb { D with nx:=Pv (i+1),ct:=Pv (i+1),bk:=D.nx } σ2 H2) (hd:∀ σ H,Pv xs.length σ H->D.nx σ H) :
  ∃W:Nat->Nat->St->Hp->Prop,(∃m,W 0 m σ H)/\∀i m σ H,W i m σ H ->
   ((Itt K a).stop i H/\D.nx σ H)\/((Itt K a).go i H/\∃N:St->Hp->Prop,(∀ σ' H',N σ' H'->∃m',m'<m/\W (i+1) m' σ' H')/\∀x H',(Itt K a).yld i H x H'->g x σ H' fun σ2 H2=>tb { D with nx:=N,ct:=N,bk:=D.nx } σ2 H2):=by
 refine⟨fun i m σ H=>m=xs.length-i/\i<=xs.length/\Pv i σ H,⟨xs.length,by simp,Nat.zero_le _,h0⟩,?_⟩;rintro i m σ H ⟨rfl,hi,p⟩;have q:=hl i σ H hi p;by_cases hlt:i<xs.length
 ·refine .inr ⟨⟨xs,xs[i],q,by simp[hlt]⟩,Pv (i+1),fun σ' H' p'=>⟨xs.length-(i+1),by lia,rfl,hlt,p'⟩,fun x H' y=>?_⟩;obtain⟨e,y⟩:=y;subst e;exact hs i x σ _ (y xs q) p
 ·have e:i=xs.length:=by lia
  subst e;exact .inl ⟨⟨xs,q,Nat.le_refl _⟩,hd σ H p⟩
theorem Zby{lo:Int}{n:Nat}{g:TG}{tb:TS}{D:Ends}{σ : St}{H:Hp}(Pv:Nat->St->Hp->Prop)(h0:Pv 0 σ H)
  (hs:∀i σ H,i<n->Pv i σ H->g (.int (lo+i)) σ H fun σ2 H2=>tb { D with nx:=Pv (i+1),ct:=Pv (i+1),bk:=D.nx } σ2 H2) (hd:∀ σ H,Pv n σ H->D.nx σ H) :
  ∃W:Nat->Nat->St->Hp->Prop,(∃m,W 0 m σ H)/\∀i m σ H,W i m σ H ->
   ((Itr lo n).stop i H/\D.nx σ H)\/((Itr lo n).go i H/\∃N:St->Hp->Prop,(∀ σ' H',N σ' H'->∃m',m'<m/\W (i+1) m' σ' H')/\∀x H',(Itr lo n).yld i H x H'->g x σ H' fun σ2 H2=>tb { D with nx:=N,ct:=N,bk:=D.nx } σ2 H2):=by
 refine⟨fun i m σ H=>m=n-i/\i<=n/\Pv i σ H,⟨n,by simp,Nat.zero_le _,h0⟩,?_⟩;rintro i m σ H ⟨rfl,hi,p⟩;by_cases hlt:i<n
 ·refine .inr ⟨hlt,Pv (i+1),fun σ' H' p'=>⟨n-(i+1),by lia,rfl,hlt,p'⟩,fun x H' y=>?_⟩;obtain⟨e,y⟩:=y;subst e y;exact hs i σ _ hlt p
 ·have e:i=n:=by lia
  subst e;exact .inl ⟨Nat.le_refl _,hd σ H p⟩
abbrev R2:=V->V->Hp->VK->Prop
def OpR(X:Cx)(f:Value->Value->Sem Value)(r:R2):Prop :=
 ∀(pins:List (Addr×Obj))(s:Shared)(σ : St)(H:Hp)(x y:V)(v u:Value)(Q:VK),Inv X pins σ H s->RelV x v->RelV y u->r x y H Q ->
  wpAny (model X.prog X.w) X.A (f v u) (EP X pins σ Q) X.xe s
def UnR(X:Cx)(f:Value->Sem Value)(r:V->Hp->VK->Prop):Prop :=
 ∀(pins:List (Addr×Obj))(s:Shared)(σ : St)(H:Hp)(x:V)(v:Value)(Q:VK),Inv X pins σ H s->RelV x v->r x H Q ->
  wpAny (model X.prog X.w) X.A (f v) (EP X pins σ Q) X.xe s
def ZcR(X:Cx)(f:Value)(r:List V->Hp->VK->Prop):Prop :=
 ∀(pins:List (Addr×Obj))(s:Shared)(σ : St)(H:Hp)(xs:List V)(us:List Value)(Q:VK),Inv X pins σ H s->Vals xs us->r xs H Q ->
  wpAny (model X.prog X.w) X.A (call f us) (EP X pins σ Q) X.xe s
def Zm2(X:Cx)(r:V->Hp->(Bool->Hp->Prop)->Prop):Prop :=
 ∀(pins:List (Addr×Obj))(s:Shared)(σ : St)(H:Hp)(x:V)(v:Value)(Q:Bool->Hp->Prop),Inv X pins σ H s->RelV x v->r x H Q ->
  wpAny (model X.prog X.w) X.A (truthy v) (TP X pins σ Q) X.xe s
def tOp(r:R2)(ta tb:TE):TE:=fun σ H Q=>ta σ H fun x H1=>tb σ H1 fun y H2=>r x y H2 Q
def tUn(r:V->Hp->VK->Prop)(ta:TE):TE:=fun σ H Q=>ta σ H fun x H1=>r x H1 Q
def rI(C:Int->Int->Prop)(g:Int->Int->V):R2:=fun x y H Q=>∃i j,x=.int i/\y=.int j/\C i j/\Q (g i j) H
def rI0(g:Int->Int->V):R2:=fun x y H Q=>∃i j,x=.int i/\y=.int j/\Q (g i j) H
def rU(g:Int->V):V->Hp->VK->Prop:=fun x H Q=>∃i,x=.int i/\Q (g i) H
section
variable{X:Cx}{a b c:Expr}{ta tb tc:TE}{pos:Pos}
theorem Zmd(ha:PE X a ta)(hb:PE X b tb){pins:List (Addr×Obj)}{s:Shared}{σ : St}{H:Hp}{R:V->V->Hp->Prop}(I:Inv X pins σ H s)
  (h:ta σ H fun x H1=>tb σ H1 fun y H2=>R x y H2) {Q:Value->Shared->Prop} {f:Value->Value->Sem Value}
  (hf:∀v u s2 x y H2,Inv X pins σ H2 s2->RelV x v->RelV y u->R x y H2->wpAny (model X.prog X.w) X.A (f v u) Q X.xe s2) :
  wpAny (model X.prog X.w) X.A (eval a X.env) (fun v s₁=>wpAny (model X.prog X.w) X.A (eval b X.env) (fun u s₂=>wpAny (model X.prog X.w) X.A (f v u) Q X.xe s₂) X.xe s₁) X.xe s:=by
 refine thn (ha pins s σ H _ I h) fun v s1 ⟨x,H1,I1,r1,q1⟩=>?_;refine thn (hb pins s1 σ H1 _ I1 q1) fun u s2 ⟨y,H2,I2,r2,q2⟩=>?_;exact hf v u s2 x y H2 I2 r1 r2 q2
theorem Zy{op:Operator}{r:R2}(ho:OpR X (binaryOp op) r)(ha:PE X a ta)(hb:PE X b tb):PE X (.BinOp a op b pos) (tOp r ta tb):=by
 intro pins s σ H Q I h;exact wpAny_BinOp (Zmd ha hb I h fun v u s2 x y H2 I2 rx ry q=>ho pins s2 σ H2 x y v u Q I2 rx ry q)
theorem Ze1{op:UnaryOp}{r:V->Hp->VK->Prop}(ho:UnR X (unaryOp op) r)(ha:PE X a ta):PE X (.UnaryOp op a pos) (tUn r ta):=by
 intro pins s σ H Q I h;exact UnaryOp_ (thn (ha pins s σ H _ I h) fun v s1 ⟨x,H1,I1,r1,q1⟩=>ho pins s1 σ H1 x v Q I1 r1 q1)
theorem opI{f:Value->Value->Sem Value}{C:Int->Int->Prop}{g:Int->Int->Int}
  (rule:∀(i j:Int)(t u:Tok)(s:Shared)(Q:Value->Shared->Prop)(E:Value->Shared->Prop),C i j->Q (.int (g i j) s.toks) { s with toks:=s.toks+1 }->wpAny (model X.prog X.w) X.A (f (.int i t) (.int j u)) Q E s) :
  OpR X f (rI C fun i j=>.int (g i j)):=by
 intro pins s σ H x y v u Q I rx ry h;obtain⟨i,j,rfl,rfl,hc,q⟩:=h;obtain⟨t,rfl⟩:=rx;obtain⟨t',rfl⟩:=ry;exact rule i j t t' s _ _ hc ⟨.int (g i j),H,I.tok _,⟨_,rfl⟩,q⟩
theorem Zmy{f:Value->Value->Sem Value}{g:Int->Int->Int}
  (rule:∀(i j:Int)(t u:Tok)(s:Shared)(Q:Value->Shared->Prop)(E:Value->Shared->Prop),Q (.int (g i j) s.toks) { s with toks:=s.toks+1 }->wpAny (model X.prog X.w) X.A (f (.int i t) (.int j u)) Q E s) :
  OpR X f (rI0 fun i j=>.int (g i j)):=by
 intro pins s σ H x y v u Q I rx ry h;obtain⟨i,j,rfl,rfl,q⟩:=h;obtain⟨t,rfl⟩:=rx;obtain⟨t',rfl⟩:=ry;exact rule i j t t' s _ _ ⟨.int (g i j),H,I.tok _,⟨_,rfl⟩,q⟩
theorem ZmA{f:Value->Value->Sem Value}{g:Int->Int->Bool}
  (rule:∀(i j:Int)(t u:Tok)(s:Shared)(Q:Value->Shared->Prop)(E:Value->Shared->Prop),Q (.bool (g i j)) s->wpAny (model X.prog X.w) X.A (f (.int i t) (.int j u)) Q E s) :
  OpR X f (rI0 fun i j=>.bl (g i j)):=by
 intro pins s σ H x y v u Q I rx ry h;obtain⟨i,j,rfl,rfl,q⟩:=h;obtain⟨t,rfl⟩:=rx;obtain⟨t',rfl⟩:=ry;exact rule i j t t' s _ _ ⟨.bl (g i j),H,I,rfl,q⟩
def Zm4(i j:Int):Prop:=0<j/\j<1073741824
def Zmr(i j:Int):Prop:=(-(2 ^ 64)<i/\i<2 ^ 64)\/(-(2 ^ 64)<j/\j<2 ^ 64)
theorem Zmr.ok{i j:Int}(h:Zmr i j):IntMulOk i j:=by
 rcases h with⟨h1,h2⟩|⟨h1,h2⟩
 ·exact .of_left (intBits_le_64 h1 h2)
 ·exact .of_right (intBits_le_64 h1 h2)
theorem Zal:OpR X (binaryOp .Add) (rI0 fun i j=>.int (i+j)):=Zmy fun _ _ _ _ _ _ _ q=>add_int q
theorem Zkh:OpR X (binaryOp .Sub) (rI0 fun i j=>.int (i-j)):=Zmy fun _ _ _ _ _ _ _ q=>sub_int q
theorem ZiC:OpR X (binaryOp .Mult) (rI Zmr fun i j=>.int (i*j)):=opI fun _ _ _ _ _ _ _ hc q=>mul_int q hc.ok
theorem Zbw:OpR X (binaryOp .FloorDiv) (rI Zm4 fun i j=>.int (i / j)):=opI fun i j _ _ _ _ _ hc q=>by
 have h1:(0:Int)<j:=hc.1;have h2:j<1073741824:=hc.2;exact floordiv_int (by lia) (by rw[Int.fdiv_eq_ediv_of_nonneg i (by lia)];exact q) (.inl (PyProof.noPylong_small (by lia)))
theorem ZaT:OpR X (binaryOp .Mod) (rI (fun _ j=>0<j) fun i j=>.int (i % j)):=opI fun i j _ _ _ _ _ hc q=>by
 have h1:(0:Int)<j:=hc;exact mod_int' (by lia) (by rw[Int.fmod_eq_emod_of_nonneg i (by lia)];exact q)
theorem unI{f:Value->Sem Value}{g:Int->Int}
  (rule:∀(i:Int)(t:Tok)(s:Shared)(Q:Value->Shared->Prop)(E:Value->Shared->Prop),Q (.int (g i) s.toks) { s with toks:=s.toks+1 }->wpAny (model X.prog X.w) X.A (f (.int i t)) Q E s) :
  UnR X f (rU fun i=>.int (g i)):=by
 intro pins s σ H x v Q I rx h;obtain⟨i,rfl,q⟩:=h;obtain⟨t,rfl⟩:=rx;exact rule i t s _ _ ⟨.int (g i),H,I.tok _,⟨_,rfl⟩,q⟩
theorem ZcP:UnR X (unaryOp .USub) (rU fun i=>.int (-i)):=unI fun _ _ _ _ _ q=>neg_int q
end
def ZmG:V->V->Bool
 | .non,.non=>true | .non,.int _=>true | .int _,.non=>true | .non,.bl _=>true | .bl _,.non=>true | .non,.str _=>true | .str _,.non=>true
 | .int _,.int _=>true | .bl _,.bl _=>true | .str _,.str _=>true | .byt _,.byt _=>true
 | .int _,.str _=>true | .str _,.int _=>true | .bl _,.str _=>true | .str _,.bl _=>true
 | _,_=>false
def rEq:R2:=fun x y H Q=>ZmG x y=true/\Q (.bl (decide (x=y))) H
def rNe:R2:=fun x y H Q=>ZmG x y=true/\Q (.bl (!decide (x=y))) H
theorem Zi7{i j:Int}:decide (V.int i=V.int j)=(i == j):=by
 rw[Bool.eq_iff_iff];simp
theorem Zkb{i j:Bool}:decide (V.bl i=V.bl j)=(i == j):=by
 rw[Bool.eq_iff_iff];simp
theorem Zir{i j:Str}:decide (V.str i=V.str j)=(i == j):=by
 rw[Bool.eq_iff_iff];simp
theorem ZhO{i j:Array UInt8}:decide (V.byt i=V.byt j)=(i.toList == j.toList):=by
 rw[Bool.eq_iff_iff];cases i;cases j;simp
section
variable{X:Cx}{a b c:Expr}{ta tb tc:TE}{pos:Pos}
theorem Zab{pins:List (Addr×Obj)}{σ : St}{H:Hp}{s:Shared}{Q:VK}{k k':Bool}(I:Inv X pins σ H s)(q:Q (.bl k) H)(e:k=k'):EP X pins σ Q (.bool k') s:=by
 subst e;exact⟨.bl k,H,I,rfl,q⟩
theorem Zcr:OpR X (compareOp .Eq) rEq:=by
 intro pins s σ H x y v u Q I rx ry h;obtain⟨hs,q⟩:=h;cases x with
 | non =>
  cases rx;cases y with
  | non=>cases ry;exact PySem.EqNone.eq_none_none (Zab I q (by simp))
  | bl j=>cases ry;exact PySem.EqNone.eq_none_bool (Zab I q (by simp))
  | int j=>obtain⟨t',rfl⟩:=ry;exact PySem.EqNone.eq_none_int (Zab I q (by simp))
  | str j=>obtain⟨t',rfl⟩:=ry;exact PySem.EqNone.eq_none_str (Zab I q (by simp))
  | _=>exact absurd (show false=true from hs) Bool.false_ne_true
 | bl i =>
  cases rx;cases y with
  | non=>cases ry;exact PySem.EqNone.eq_bool_none (Zab I q (by simp))
  | bl j=>cases ry;exact eq_bool (Zab I q Zkb)
  | str j=>obtain⟨t',rfl⟩:=ry;exact PySem.EqMixed.eq_bool_str (Zab I q (by simp))
  | _=>exact absurd (show false=true from hs) Bool.false_ne_true
 | int i =>
  obtain⟨t,rfl⟩:=rx;cases y with
  | non=>cases ry;exact PySem.EqNone.eq_int_none (Zab I q (by simp))
  | int j=>obtain⟨t',rfl⟩:=ry;exact eq_int (Zab I q Zi7)
  | str j=>obtain⟨t',rfl⟩:=ry;exact PySem.EqMixed.eq_int_str (Zab I q (by simp))
  | _=>exact absurd (show false=true from hs) Bool.false_ne_true
 | str i =>
  obtain⟨t,rfl⟩:=rx;cases y with
  | non=>cases ry;exact PySem.EqNone.eq_str_none (Zab I q (by simp))
  | bl j=>cases ry;exact PySem.EqMixed.eq_str_bool (Zab I q (by simp))
  | int j=>obtain⟨t',rfl⟩:=ry;exact PySem.EqMixed.eq_str_int (Zab I q (by simp))
  | str j=>obtain⟨t',rfl⟩:=ry;exact eq_str (Zab I q Zir)
  | _=>exact absurd (show false=true from hs) Bool.false_ne_true
 | byt i =>
  obtain⟨t,rfl⟩:=rx;cases y with
  | byt j=>obtain⟨t',rfl⟩:=ry;exact PySem.W.eq_bytes (Zab I q ZhO)
  | _=>exact absurd (show false=true from hs) Bool.false_ne_true
 | _=>cases y <;> exact absurd (show false=true from hs) Bool.false_ne_true
theorem Zmc:OpR X (compareOp .NotEq) rNe:=by
 intro pins s σ H x y v u Q I rx ry h;obtain⟨hs,q⟩:=h;cases x with
 | non =>
  cases rx;cases y with
  | non=>cases ry;exact PySem.EqNone.ne_none_none (Zab I q (by simp))
  | bl j=>cases ry;exact PySem.EqNone.ne_none_bool (Zab I q (by simp))
  | int j=>obtain⟨t',rfl⟩:=ry;exact PySem.EqNone.ne_none_int (Zab I q (by simp))
  | str j=>obtain⟨t',rfl⟩:=ry;exact PySem.EqNone.ne_none_str (Zab I q (by simp))
  | _=>exact absurd (show false=true from hs) Bool.false_ne_true
 | bl i =>
  cases rx;cases y with
  | non=>cases ry;exact PySem.EqNone.ne_bool_none (Zab I q (by simp))
  | bl j=>cases ry;exact ne_bool (Zab I q (congrArg not Zkb))
  | str j=>obtain⟨t',rfl⟩:=ry;exact PySem.EqMixed.ne_bool_str (Zab I q (by simp))
  | _=>exact absurd (show false=true from hs) Bool.false_ne_true
 | int i =>
  obtain⟨t,rfl⟩:=rx;cases y with
  | non=>cases ry;exact PySem.EqNone.ne_int_none (Zab I q (by simp))
  | int j=>obtain⟨t',rfl⟩:=ry;exact ne_int (Zab I q (congrArg not Zi7))
  | str j=>obtain⟨t',rfl⟩:=ry;exact PySem.EqMixed.ne_int_str (Zab I q (by simp))
  | _=>exact absurd (show false=true from hs) Bool.false_ne_true
 | str i =>
  obtain⟨t,rfl⟩:=rx;cases y with
  | non=>cases ry;exact PySem.EqNone.ne_str_none (Zab I q (by simp))
  | bl j=>cases ry;exact PySem.EqMixed.ne_str_bool (Zab I q (by simp))
  | int j=>obtain⟨t',rfl⟩:=ry;exact PySem.EqMixed.ne_str_int (Zab I q (by simp))
  | str j=>obtain⟨t',rfl⟩:=ry;exact ne_str (Zab I q (congrArg not Zir))
  | _=>exact absurd (show false=true from hs) Bool.false_ne_true
 | byt i =>
  obtain⟨t,rfl⟩:=rx;cases y with
  | byt j=>obtain⟨t',rfl⟩:=ry;exact PySem.W.ne_bytes (Zab I q (congrArg not ZhO))
  | _=>exact absurd (show false=true from hs) Bool.false_ne_true
 | _=>cases y <;> exact absurd (show false=true from hs) Bool.false_ne_true
theorem Zkq:OpR X (compareOp .Lt) (rI0 fun i j=>.bl (decide (i<j))):=ZmA fun _ _ _ _ _ _ _ q=>lt_int q
theorem Zhe:OpR X (compareOp .Gt) (rI0 fun i j=>.bl (decide (j<i))):=ZmA fun _ _ _ _ _ _ _ q=>gt_int q
theorem OpR.or{f:Value->Value->Sem Value}{r r':R2}(h:OpR X f r)(h':OpR X f r'):OpR X f (fun x y H Q=>r x y H Q\/r' x y H Q):=by
 intro pins s σ H x y v u Q I rx ry q;rcases q with q|q
 ·exact h pins s σ H x y v u Q I rx ry q
 ·exact h' pins s σ H x y v u Q I rx ry q
theorem Zaf(b:Expr){op:CmpOp}(h:op ≠ .In:=by decide)(h2:op ≠ .NotIn:=by decide):behindInMarks op b=false:=by
 have e1:(op == CmpOp.In)=false:=by cases op <;> first|rfl|exact absurd rfl h
 have e2:(op == CmpOp.NotIn)=false:=by cases op <;> first|rfl|exact absurd rfl h2
 cases b <;> simp[behindInMarks,e1,e2]
theorem Zer{op:CmpOp}{r:R2}(ho:OpR X (compareOp op) r)(ha:PE X a ta)(hb:PE X b tb)(hm:behindInMarks op b=false):PE X (.Compare a [op] [b] pos) (tOp r ta tb):=by
 intro pins s σ H Q I h;exact wpAny_Compare1 (Zmd ha hb I h fun v u s2 x y H2 I2 rx ry q=>ho pins s2 σ H2 x y v u Q I2 rx ry q) hm
def Zmg(t:TE):TT:=fun σ H Q=>t σ H fun x H'=>∃k,x=.bl k/\Q k H'
theorem Z2{op:CmpOp}{r:R2}(ho:OpR X (compareOp op) r)(ha:PE X a ta)(hb:PE X b tb)(hm:behindInMarks op b=false):PT X (.Compare a [op] [b] pos) (Zmg (tOp r ta tb)):=by
 intro pins s σ H Q I h;refine wpAny_isTrue_Compare1 (thn (ha pins s σ H _ I h) fun v s1 ⟨x,H1,I1,r1,q1⟩=>thn (hb pins s1 σ H1 _ I1 q1) fun u s2 ⟨y,H2,I2,r2,q2⟩ =>
  thn (ho pins s2 σ H2 x y v u _ I2 r1 r2 q2) fun c s3 ⟨z,H3,I3,r3,k,e,q3⟩=>?_) hm
 subst e;cases r3;exact wpAny_truthy_bool ⟨H3,I3,q3⟩
def Zmt(K:PySem.W.Frag)(x:V)(H:Hp)(k:Bool):Prop :=
 match x with
 | .non=>k=false
 | .bl b=>k=b
 | .int i=>k=(i != 0)
 | .str y=>y.length<=sizeLine/\k=((y.length:Int) != 0)
 | .byt y=>y.size<=sizeLine/\k=((y.size:Int) != 0)
 | .ref p=>(∃xs,SqL K H p xs/\k= !xs.isEmpty)\/(∃xs,SqT K H p xs/\k= !xs.isEmpty)\/∃kvs,H p=some (.dK kvs)/\k= !kvs.isEmpty
 | _=>False
theorem Zhb{κ : Type}{kvs:List (κ × V)}{vs:List (κ × Value)}(r:KV kvs vs):(!vs.isEmpty)= !kvs.isEmpty:=by
 cases r <;> rfl
theorem Zeb{xs:List V}{its:List Value}(r:Vals xs its):(!its.toArray.isEmpty)= !xs.isEmpty:=by
 cases r <;> simp
theorem Zd7:(sizeLine:Nat)<2 ^ 63:=by rw[sizeLine_eq];decide
theorem Zlh:Zm2 X (fun x H Q=>∃k,Zmt X.K x H k/\Q k H):=by
 intro pins s σ H x v Q I rx h;obtain⟨k,e,q⟩:=h;have hl:=Zd7;have hs:sizeLine=16777216:=sizeLine_eq;cases x with
 | non =>
  cases rx;have e':k=false:=e;subst e';exact truthy_none ⟨H,I,q⟩
 | bl b =>
  cases rx;have e':k=b:=e;subst e';exact wpAny_truthy_bool ⟨H,I,q⟩
 | int i =>
  obtain⟨t,rfl⟩:=rx;have e':k=(i != 0):=e;subst e';exact PySem.P.truthy_int ⟨H,I,q⟩
 | str y =>
  obtain⟨t,rfl⟩:=rx;obtain⟨hy,e'⟩:y.length<=sizeLine/\k=((y.length:Int) != 0):=e;subst e';exact PySem.P.truthy_str (by lia) ⟨H,I.tok _,q⟩
 | byt y =>
  obtain⟨t,rfl⟩:=rx;obtain⟨hy,e'⟩:y.size<=sizeLine/\k=((y.size:Int) != 0):=e;subst e';exact PySem.W.truthy_bytes (by lia) ⟨H,I.tok _,q⟩
 | ref p =>
  cases rx;have e':(∃xs,SqL X.K H p xs/\k= !xs.isEmpty)\/(∃xs,SqT X.K H p xs/\k= !xs.isEmpty)\/∃kvs,H p=some (.dK kvs)/\k= !kvs.isEmpty:=e;rcases e' with⟨xs,hx,e'⟩|⟨xs,hx,e'⟩|⟨kvs,hx,e'⟩
  ·subst e';obtain⟨its,r,pl,hz⟩:=I.list hx;have hlen:=r.length;exact wpAny_truthy_list pl.isList (by simp only[List.size_toArray];lia) ⟨H,I.tok _,by rw[Zeb r];exact q⟩
  ·subst e';obtain⟨its,r,pl,hz⟩:=I.tuple hx;have hlen:=r.length;exact truthy_tuple pl (by simp only[List.size_toArray];lia) ⟨H,I.tok _,by rw[Zeb r];exact q⟩
  ·subst e';obtain⟨hz,hS,vs,r,m⟩:kvs.length<=sizeLine/\(p == sysModules)=false/\∃vs,KV kvs vs/\s.heap.DictOf (Z0 X.prog X.w) p vs:=I.hok p _ hx;have hlen:kvs.length=vs.length:=Paired.length r;exact wpAny_truthy_dict hS m (by lia) ⟨H,I.tok _,by rw[Zhb r];exact q⟩
 | _=>exact(show False from e).elim
theorem Zbt(ha:PE X a ta)(he:∀whole,isTrue a X.env whole=(do let v <- whole;standAt a.pos;holding [v] (truthy v))) :
  PT X a (fun σ H Q=>ta σ H fun x H'=>∃k,Zmt X.K x H' k/\Q k H'):=by
 intro pins s σ H Q I h;exact isTrue_plain (thn (ha pins s σ H _ I h) fun v s1 ⟨x,H1,I1,r1,q1⟩=>Zlh pins s1 σ H1 x v Q I1 r1 q1) (he _)
theorem ZcI:OpR X (binaryOp .Add) (fun x y H Q=>∃i j,x=.str i/\y=.str j/\i.length+j.length<=sizeLine/\Q (.str (i++j)) H):=by
 intro pins s σ H x y v u Q I rx ry h;obtain⟨i,j,rfl,rfl,hz,q⟩:=h;obtain⟨t,rfl⟩:=rx;obtain⟨t',rfl⟩:=ry;exact add_str (fun t' tk=>⟨.str (i++j),H,I.tok _,⟨_,rfl⟩,q⟩) hz
theorem vals1{x:V}{us:List Value}(r:Vals [x] us):∃u,us=[u]/\RelV x u:=by
 cases r with
 | cons r1 r2=>cases r2;exact⟨_,rfl,r1⟩
theorem vals2{x y:V}{us:List Value}(r:Vals [x,y] us):∃u w',us=[u,w']/\RelV x u/\RelV y w':=by
 cases r with
 | cons r1 r2 =>
  cases r2 with
  | cons r3 r4=>cases r4;exact⟨_,_,rfl,r1,r3⟩
theorem Zcn(hc:X.calm=true):ZcR X (.builtin "max") (fun xs H Q=>∃i j,xs=[.int i,.int j]/\Q (.int (if j > i then j else i)) H):=by
 intro pins s σ H xs us Q I r h;obtain⟨i,j,rfl,q⟩:=h;obtain⟨u,w',rfl,⟨t,rfl⟩,⟨t',rfl⟩⟩:=vals2 r;refine max_two_ints (I.ok.hd hc) fun h' tk k=>⟨_,H,I.kept k,?_,q⟩;by_cases hj:j > i
 ·rw[if_pos hj,if_pos hj];exact⟨_,rfl⟩
 ·rw[if_neg hj,if_neg hj];exact⟨_,rfl⟩
theorem Zfr(hc:X.calm=true):ZcR X (.builtin "min") (fun xs H Q=>∃i j,xs=[.int i,.int j]/\Q (.int (if j<i then j else i)) H):=by
 intro pins s σ H xs us Q I r h;obtain⟨i,j,rfl,q⟩:=h;obtain⟨u,w',rfl,⟨t,rfl⟩,⟨t',rfl⟩⟩:=vals2 r;refine min_two_ints (I.ok.hd hc) fun h' tk k=>⟨_,H,I.kept k,?_,q⟩;by_cases hj:j<i
 ·rw[if_pos hj,if_pos hj];exact⟨_,rfl⟩
 ·rw[if_neg hj,if_neg hj];exact⟨_,rfl⟩
end
structure ObjM(h:Heap)(x dx C:Addr)(mA:Str->Option Value):Prop where
 obj:h.get? x=some (PySem.W.instObj C dx)
 ns:h.Ns1 dx mA
 ne:dx≠x
theorem Zib{h:Heap}{dx:Addr}{mA:Str->Option Value}(n:h.Ns1 dx mA):∃od,h.get? dx=some od/\∀name,PySem.W.lookIn name od=some (mA name):=by
 obtain⟨o,es,ep,ho,hd,hk,_,hm⟩:=n;refine⟨o,ho,fun name=>?_⟩;have e:=hm name;unfold nsFind findBy at e;rw[<- Array.find?_toList] at e;unfold PySem.W.lookIn;rw[hd];dsimp only
 split
 ·rename_i y q
  rw[q] at e;exact congrArg some e
 ·rename_i q
  rw[q] at e;have a:es.toList.any (·.refKey)=false:=by
   rw[List.any_eq_false];intro y hy;obtain⟨z,t,hkey⟩:=hk y (Array.mem_toList_iff.mp hy);simp[DictEntry.refKey,hkey]
  have a' : ¬ es.toList.any (·.refKey)=true:=by rw[a];exact Bool.false_ne_true
  rw[if_neg a'];exact congrArg some e
theorem ObjM.look{h:Heap}{x dx C:Addr}{mA:Str->Option Value}(I:ObjM h x dx C mA):∃od,PySem.W.InstAt h x (PySem.W.instObj C dx) C (some od)/\∀name,PySem.W.lookIn name od=some (mA name) :=
 let ⟨od,ho,hl⟩:=Zib I.ns
 ⟨od,⟨I.obj,rfl,rfl,ho⟩,hl⟩
section
variable{prog:Program}{w:World}{A:Around}{E:Value->Shared->Prop}{s:Shared}{K:PySem.W.Frag}{x dx C f:Addr}{mA:Str->Option Value}{name:Str}{v:Value}
theorem Zjp{pl:Sem Bool}{Q:Value×List Value->Shared->Prop}(X:K.In s.heap)(I:ObjM s.heap x dx C mA)(hg:PySem.W.plainGet K C name=true)
  (hf:PySem.W.findIn K (.ref C) name=some (some (.ref f))) (ht:PySem.W.isFn K (.ref f)=true) (hv:mA name=none) (h:Q (.ref f,[.ref x]) s) :
  wpAny (model prog w) A (getMethod (.ref x) name pl) Q E s:=by
 obtain⟨od,J,hl⟩:=I.look;exact PySem.W.method_fn X J (PySem.W.plainGet_of hg).1 (PySem.W.plainGet_of hg).2 hf (beq_iff_eq.mp ht) (by show(PySem.W.lookIn name od).map (·.isSome)=some false;rw[hl,hv];rfl) h
theorem ZiV{R:Result->Shared->Prop}(X:K.In s.heap)(hm:PySem.W.makesIn K C=true)
  (hi:PySem.W.findIn K (.ref C) "__init__" = some (some (.builtin "object.__init__")))
  (hb:∀self,PySem.W.Looks (model prog w) s.heap (bindSpecial (.builtin "object.__init__") self) (.builtin "object.__init__",[self]))
  (h:codeAny (model prog w) (A.under (.builtin "type.__call__" ⟨[.ref C],[]⟩)) (.call (.builtin "object.__init__") ⟨[.ref (s.heap.objs.size+1)],[]⟩) (PySem.W.InitBack (s.heap.objs.size+1) R)
   { s with heap:=(s.heap.push PySem.W.emptyDict).push (PySem.W.instObj C s.heap.objs.size) }) :
  codeAny (model prog w) A (.call (.ref C) ⟨[],[]⟩) R s:=by
 obtain⟨hh,g,d,t,os⟩:=s;exact PySem.W.make_core (PySem.W.makes_of X hm) (PySem.W.looks_findIn X hi) hb (.inr ⟨rfl,rfl⟩) h
end
theorem ZfM.some_of{v:V}{o:Option Value}(r:ZfM (some v) o):∃u,o=some u/\RelV v u:=by
 cases o with
 | none=>exact(show False from r).elim
 | some u=>exact⟨u,rfl,r⟩
theorem ZfM.none_of{o:Option Value}(r:ZfM none o):o=none:=by
 cases o with
 | none=>rfl
 | some u=>exact(show False from r).elim
section
variable{P:Program}{w:World}{H H':Hp}{h h':Heap}{a C dx:Addr}{fs fs':List (Str×V)}
theorem ZhP(hok:HOk P w H h)(e:H a=some (.ins C dx fs)):∃mA,ObjM h a dx C mA/\(∀f,ZfM (fs.lookup f) (mA f))/\PySem.Within mA (fs.map (·.1))/\fs.length<=1000/\H dx=some (.own a):=by
 obtain⟨d,z,ne,ob,mA,n,r,q⟩:=(show Zar P w H h a (.ins C dx fs) from hok a _ e);exact⟨mA,⟨ob,n,ne⟩,r,q,z,d⟩
end
structure Cls(K:PySem.W.Frag)(C:Addr):Prop where
 pg:PySem.W.plainGet K C Str.empty=true
 hd:PySem.W.hasDictIn K C=true
 po:PySem.W.plainOver K C=true
 sa:PySem.W.findIn K (.ref C) "__setattr__" = some (some (.builtin "object.__setattr__"))
theorem Cls.get{K:PySem.W.Frag}{C:Addr}(c:Cls K C)(f:Str):PySem.W.plainGet K C f=true:=c.pg
structure Meth(K:PySem.W.Frag)(C:Addr)(m:Str)(f:Addr):Prop where
 at_:PySem.W.findIn K (.ref C) m=some (some (.ref f))
 fn:PySem.W.isFn K (.ref f)=true
 kp:PySem.W.keepIn K (.ref f)=true
section
variable{X:Cx}{pins:List (Addr×Obj)}{σ : St}{H:Hp}{s:Shared}{a C dx:Addr}{fs:List (Str×V)}{f:Str}{v:V}{A:Around}{E:Value->Shared->Prop}
theorem Zef{m:Str}{g:Addr}{pl:Sem Bool}{Q:Value×List Value->Shared->Prop}(I:Inv X pins σ H s)(e:H a=some (.ins C dx fs))(c:Cls X.K C)(k:Meth X.K C m g)(l:fs.lookup m=none)
  (h:Q (.ref g,[.ref a]) s):wpAny (model X.prog X.w) A (getMethod (.ref a) m pl) Q E s:=by
 obtain⟨mA,O,r,_,_,_⟩:=ZhP I.hok e;have hn:mA m=none:=ZfM.none_of (by rw[<- l];exact r m);exact Zjp I.kIn O (c.get m) k.at_ k.fn hn h
theorem Inv.made(I:Inv X pins σ H s):Inv X pins σ (upd (upd H s.heap.objs.size (.own (s.heap.objs.size+1))) (s.heap.objs.size+1) (.ins C s.heap.objs.size []))
  { s with heap:=(s.heap.push PySem.W.emptyDict).push (PySem.W.instObj C s.heap.objs.size) }:=by
 have e1:(s.heap.push PySem.W.emptyDict).get? s.heap.objs.size=some PySem.W.emptyDict:=Heap.get?_push_size s.heap rfl;have e2:((s.heap.push PySem.W.emptyDict).push (PySem.W.instObj C s.heap.objs.size)).get? (s.heap.objs.size+1)=some (PySem.W.instObj C s.heap.objs.size):=by
  have:=Heap.get?_push_size (s.heap.push PySem.W.emptyDict) (o:=PySem.W.instObj C s.heap.objs.size) rfl
  rwa [Heap.size_push] at this
 have e3:(s.heap.push PySem.W.emptyDict).Ns s.heap.objs.size (fun _=>none):=⟨PySem.W.emptyDict,#[],_,e1,rfl,(fun e he=>absurd he (by simp)),fun _=>rfl⟩;have I1:=I.laid (a:=s.heap.objs.size) (o:=.own (s.heap.objs.size+1)) (h':=s.heap.push PySem.W.emptyDict) (t':=s.toks) (fun b u q=>Heap.get?_push_of_some _ q) (Nat.le_refl _) ⟨_,e1⟩;refine I1.laid (a:=s.heap.objs.size+1) (o:=.ins C s.heap.objs.size []) (t':=s.toks) (fun b u q=>Heap.get?_push_of_some _ q) (Nat.le_of_eq (Heap.size_push _ _)) ?_;have ne:s.heap.objs.size≠s.heap.objs.size+1:=Nat.ne_of_lt (Nat.lt_succ_self _);refine⟨by rw[Zc ne,Zb],Nat.zero_le _,ne,e2,fun _=>none,(Heap.Ns1.of_empty e3).at fun o q=>Heap.get?_push_of_some _ q,fun _=>True.intro,fun y hy=>absurd rfl hy⟩
end
section
variable{X:Cx}{pins:List (Addr×Obj)}{σ : St}{H:Hp}{s:Shared}{A:Around}{E:Value->Shared->Prop}{Q:Value->Shared->Prop}{c:Value}{b:Bool}
inductive TyOf(K:PySem.W.Frag)(H:Hp):V->Value->Prop where
 | non:TyOf K H .non (.type "NoneType")
 | bl (x:Bool):TyOf K H (.bl x) (.type "bool")
 | int (i:Int):TyOf K H (.int i) (.type "int")
 | str (x:Str):TyOf K H (.str x) (.type "str")
 | flt (x:UInt64):TyOf K H (.flt x) (.type "float")
 | lst {a:Addr} {xs:List V} (e:H a=some (.lst xs)):TyOf K H (.ref a) (.type "list")
 | frz {a:Addr} {o:Obj} {xs:List V} (e:H a=some (.frz o (.lst xs))):TyOf K H (.ref a) (.type "list")
 | tup {a:Addr} {xs:List V} (e:H a=some (.tup xs)):TyOf K H (.ref a) (.type "tuple")
 | dK {a:Addr} {kvs:List (Key×V)} (e:H a=some (.dK kvs)):TyOf K H (.ref a) (.type "dict")
 | dT {a:Addr} {kvs:List (List Key×V)} (e:H a=some (.dT kvs)):TyOf K H (.ref a) (.type "dict")
 | ins {a C dx:Addr} {fs:List (Str×V)} (e:H a=some (.ins C dx fs)) (cl:Cls K C) (ha:PySem.W.findIn K (.ref C) "__class__" = some (some (.builtin "object.__class__")))
   (hn:PySem.W.specialIn K (.builtin "object.__class__") "__get__" = some (some (.builtin "getset_descriptor.__get__"))) (htk:PySem.W.takesIn K (.builtin "object.__class__")=some true)
   (hm:PySem.W.mroIn K C (.type "object")=some true):TyOf K H (.ref a) (.ref C)
theorem Zi9{x:V}{u t:Value}(I:Inv X pins σ H s)(rx:RelV x u)(ty:TyOf X.K H x t)(e:PySem.W.kitOne X.K t c=some b)(h:∀tk,Q (.bool b) { s with toks:=tk }) :
  wpAny (model X.prog X.w) A (call (.builtin "isinstance") [u,c]) Q E s:=by
 cases ty with
 | non=>cases (show u=Value.none from rx);exact PySem.W.kia_one PySem.W.kitx_none I.kIn True.intro e (fun z=>nomatch z) h
 | bl y=>cases (show u=Value.bool y from rx);exact PySem.W.kia_one PySem.W.kitx_bool I.kIn True.intro e (fun z=>nomatch z) h
 | int i=>obtain⟨t,q⟩:=(show ∃t,u=Value.int i t from rx);cases q;exact PySem.W.kia_one PySem.W.kitx_int I.kIn True.intro e (fun z=>nomatch z) h
 | str y=>obtain⟨t,q⟩:=(show ∃t,u=Value.str y t from rx);cases q;exact PySem.W.kia_one PySem.W.kitx_str I.kIn True.intro e (fun z=>nomatch z) h
 | flt y=>obtain⟨t,q⟩:=(show ∃t,u=Value.float y t from rx);cases q;exact PySem.W.kia_one PySem.W.kitx_float I.kIn True.intro e (fun z=>nomatch z) h
 | @lst a xs ea =>
  cases (show u=Value.ref a from rx);obtain⟨_,_,n,_,h1⟩:=(show Zar X.prog X.w H s.heap a (.lst xs) from I.hok a _ ea);exact PySem.W.kia_one PySem.W.kitx_list I.kIn ⟨_,h1,rfl⟩ e (fun z=>nomatch z) h
 | @frz a ob xs ea =>
  cases (show u=Value.ref a from rx);obtain⟨_,_,_,n,_,h1⟩:=(show Zar X.prog X.w H s.heap a (.frz ob (.lst xs)) from I.hok a _ ea);exact PySem.W.kia_one PySem.W.kitx_list I.kIn ⟨_,h1,rfl⟩ e (fun z=>nomatch z) h
 | @tup a xs ea =>
  cases (show u=Value.ref a from rx);obtain⟨_,_,_,p⟩:=(show Zar X.prog X.w H s.heap a (.tup xs) from I.hok a _ ea);obtain⟨o,h1,h2,_⟩:=p;exact PySem.W.kia_one PySem.W.kitx_tuple I.kIn ⟨o,h1,h2⟩ e (fun z=>nomatch z) h
 | @dK a kvs ea =>
  cases (show u=Value.ref a from rx);obtain⟨_,_,vs,_,p⟩:=(show Zar X.prog X.w H s.heap a (.dK kvs) from I.hok a _ ea);obtain⟨o,es,ep,h1,h2,_⟩:=p;exact PySem.W.kia_one PySem.W.kitx_dict I.kIn ⟨o,h1,h2.1⟩ e (fun z=>nomatch z) h
 | @dT a kvs ea =>
  cases (show u=Value.ref a from rx);obtain⟨_,_,xs,_,o,es,ep,h1,h2,_⟩:=(show Zar X.prog X.w H s.heap a (.dT kvs) from I.hok a _ ea);exact PySem.W.kia_one PySem.W.kitx_dict I.kIn ⟨o,h1,h2.1⟩ e (fun z=>nomatch z) h
 | @ins a C dx fs ea cl ha hn htk hm =>
  cases (show u=Value.ref a from rx);obtain⟨mA,O,_⟩:=ZhP I.hok ea;obtain⟨od,J,_⟩:=O.look;exact PySem.W.kia_one (PySem.W.kitx_own (cl.get _) cl.hd ha hn htk hm) I.kIn J e (fun z=>nomatch z) h
end
structure Room(k:Nat)(A:Around):Prop where
 hd:A.handled=none
 dp:A.depth+2*k+5<recursionLimit
 un:A.units+16*k+200<cLine
theorem Room.mono{j k:Nat}{A:Around}(r:Room k A)(h:j<=k):Room j A:=⟨r.hd,by have:=r.dp;lia,by have:=r.un;lia⟩
theorem Room.deeper{k:Nat}{A:Around}(r:Room (k+1) A)(env:Env):Room k (A.deeper env) :=
 ⟨r.hd,by have:=r.dp;show A.depth+1+2*k+5<_;lia,by have:=r.un;show A.units+3+16*k+200<_;lia⟩
theorem Room.depth{k:Nat}{A:Around}(r:Room k A):A.depth<recursionLimit:=by have:=r.dp;lia
def Zlm:TA:=fun _ H Q=>Q [] H
def Zjt(ta:TE)(tr:TA):TA:=fun σ H Q=>ta σ H fun x H1=>tr σ H1 fun xs H2=>Q (x::xs) H2
section
variable{X:Cx}{e:Expr}{es:List Expr}{te:TE}{t:TA}{pos:Pos}
theorem Zf:PA X [] Zlm:=fun _ _ _ _ H Q I h=>Calls.spliced_nil ⟨[],H,I,.nil,h⟩
theorem Za(ha:PE X e te)(hr:PA X es t)(hs:starEach (e::es) X.env=(false,eval e X.env)::starEach es X.env:=by rfl):PA X (e::es) (Zjt te t):=by
 intro pos pins s σ H Q I h;rw[hs];show wpAny _ _ (spliced ((false,eval e X.env)::backTo pos (starEach es X.env))) _ _ s;refine Calls.spliced_cons (thn (ha pins s σ H _ I h) fun u s1 ⟨x,H1,I1,r1,q1⟩=>?_);exact thn (hr pos pins s1 σ H1 _ I1 q1) fun us s2 ⟨xs,H2,I2,r2,q2⟩=>⟨x::xs,H2,I2,.cons r1 r2,q2⟩
def ZmL(t:TA):TE:=fun σ H Q=>t σ H fun xs H1=>xs.length<=sizeLine/\∀p,H1 p=none->Q (.ref p) (upd H1 p (.tup xs))
def Zm7(t:TA):TE:=fun σ H Q=>t σ H fun xs H1=>xs.length<=sizeLine/\∀p,H1 p=none->Q (.ref p) (upd H1 p (.lst xs))
theorem ZK{x1}(h:PA X es t):PE X (.Tuple es x1 pos) (ZmL t):=by
 intro pins s σ H Q I hq;refine wpAny_Tuple_spliced (thn (h pos pins s σ H _ I hq) fun us s1 ⟨xs,H1,I1,r,z,q⟩=>⟨by rw[<- r.length];exact z,?_⟩);have hf:H1 s1.heap.objs.size=none:=I1.hok.fresh (Nat.le_refl _);refine⟨.ref s1.heap.objs.size,upd H1 s1.heap.objs.size (.tup xs),I1.laid (t':=s1.toks) (fun b u e=>Heap.get?_push_of_some _ e) (Nat.le_refl _) ?_,rfl,q _ hf⟩;exact⟨z,us,r,⟨_,Heap.get?_push_size _ rfl,rfl,_,rfl⟩⟩
theorem Zas(h:PA X es t):PE X (.List es pos) (Zm7 t):=by
 intro pins s σ H Q I hq;refine wpAny_List_spliced (thn (h pos pins s σ H _ I hq) fun us s1 ⟨xs,H1,I1,r,z,q⟩=>⟨by rw[<- r.length];exact z,?_⟩);have hf:H1 s1.heap.objs.size=none:=I1.hok.fresh (Nat.le_refl _);refine⟨.ref s1.heap.objs.size,upd H1 s1.heap.objs.size (.lst xs),I1.laid (t':=s1.toks) (fun b u e=>Heap.get?_push_of_some _ e) (Nat.le_refl _) ?_,rfl,q _ hf⟩;exact⟨z,us,0,r,Heap.get?_push_size _ rfl⟩
end
abbrev Sp:=List V->Hp->VK->XK->Prop
abbrev CXT:=List Env->Hp->Shared->XK->Value->Shared->Prop
structure Env0(P:Program)(w:World)(K:PySem.W.Frag)(mg:Str->Option Value)(base:Heap)(A:Around)(outer:List Env)(s:Shared)(H:Hp):Prop where
 frames:A.frames=some outer
 mod:Mod K mg base
 bs:∀b o,base.get? b=some o->s.heap.get? b=some o/\H b=none
 bsz:base.objs.size<=s.heap.objs.size
 funs:s.heap.FunFrames base outer
 frf:∀b∈frs outer,H b=none
 hok:HOk P w H s.heap
 bare:AllBare s.gens
def CE(outer:List Env)(P:Program)(w:World)(H:Hp)(s:Shared)(Q:VK)(u:Value)(s':Shared):Prop :=
 ∃v H',s'.os=s.os/\AllBare s'.gens/\Un (frs outer) [] H H' s.heap s'.heap/\HOk P w H' s'.heap/\RelV v u/\Q v H'
def CR(CX:CXT)(outer:List Env)(P:Program)(w:World)(H:Hp)(s:Shared)(Q:VK)(E:XK)(r:Result)(s':Shared):Prop :=
 match r with
 | .ok (.ret u)=>CE outer P w H s Q u s'
 | .ok _=>False
 | .error e=>CX outer H s E e s'
structure FnOk(P:Program)(w:World)(K:PySem.W.Frag)(mg:Str->Option Value)(base:Heap)(CX:CXT)(k:Nat)(f:Addr)(fd:FuncData)(ps:List Str)(sp:Sp):Prop where
 len:∀vs H Q E,sp vs H Q E->vs.length=ps.length
 run:∀(A:Around)(outer:List Env)(s:Shared)(H:Hp)(args:Args)(us:List Value)(vs:List V)(Q:VK)(E:XK),Room k A->Env0 P w K mg base A outer s H->BindsTo s fd args (ps.zip us)->Vals vs us->sp vs H Q E ->
  codeAny (model P w) A (.call (.ref f) args) (CR CX outer P w H s Q E) s
section
variable{X:Cx}{pins:List (Addr×Obj)}{σ : St}{H:Hp}{s s':Shared}
theorem Inv.env0(I:Inv X pins σ H s):Env0 X.prog X.w X.K X.mg X.base X.A X.stack s H :=
 ⟨I.ok.frames,I.ok.mod,I.bs,Nat.le_trans I.ok.bsz I.sz,I.stack,I.stkFree,I.hok,I.bare⟩
theorem Inv.after{Q:VK}{u:Value}(I:Inv X pins σ H s)(h:CE X.stack X.prog X.w H s Q u s'):EP X pins σ Q u s':=by
 obtain⟨v,H',os,bare,un,hok,r,q⟩:=h;obtain⟨hh,g,d,t,os'⟩:=s';obtain rfl:os'=s.os:=os;exact⟨v,H',I.call (h':=hh) (g':=g) (d':=d) (t':=t) (ch:=[]) un hok bare (fun b z=>absurd z (by simp)),r,q⟩
end
def Zle(sp:Sp)(dvs:List V)(E:XK)(t:TA):TE:=fun σ H Q=>t σ H fun vs H1=>sp (vs++dvs) H1 Q E
def ZjN(C:Addr)(m:Str)(sp:Sp)(dvs:List V)(E:XK)(ta:TE)(t:TA):TE:=fun σ H Q=>ta σ H fun x H1=>∃a dx fs,x=.ref a/\H1 a=some (.ins C dx fs)/\fs.lookup m=none /\
 t σ H1 fun vs H2=>sp (x::(vs++dvs)) H2 Q E
def Binds(K:PySem.W.Frag)(fd:FuncData)(ps:List Str)(ds:List Value):Prop :=
 ∀(s:Shared)(us:List Value),K.In s.heap->(us++ds).length=ps.length->BindsTo s fd ⟨us,[]⟩ (ps.zip (us++ds))
theorem Binds.all{K:PySem.W.Frag}{fd:FuncData}{ps:List Str}(h:∀us:List Value,us.length=ps.length->bindArgs fd ⟨us,[]⟩=pure (ps.zip us)):Binds K fd ps []:=fun s us _ hl=>by
 rw[List.append_nil] at hl ⊢;exact .of_eq (h us hl)
def Ze9(CX:CXT)(X:Cx)(E:XK):Prop := ∀(pins:List (Addr×Obj))(σ : St)(H:Hp)(s:Shared)(e:Value)(s':Shared),Inv X pins σ H s->CX X.stack H s E e s'->X.xe e s'
section
variable{X:Cx}{CX:CXT}{k:Nat}{f C:Addr}{fd:FuncData}{ps:List Str}{sp:Sp}{dvs:List V}{ds:List Value}{E:XK}{x m:Str}{p pos apos:Pos}{e o:Expr}{es:List Expr}{ta:TE}{t:TA}
theorem ZiN{pins:List (Addr×Obj)}{σ : St}{H:Hp}{s:Shared}{Q:VK}{us:List Value}{vs:List V}(F:FnOk X.prog X.w X.K X.mg X.base CX k f fd ps sp)(hr:Room k X.A)(hb:Binds X.K fd ps ds)(hd:Vals dvs ds)(hx:Ze9 CX X E)
  (I:Inv X pins σ H s) (r:Vals vs us) (h:sp (vs++dvs) H Q E):wpAny (model X.prog X.w) X.A (call (.ref f) us) (EP X pins σ Q) X.xe s:=by
 have r2:Vals (vs++dvs) (us++ds):=r.append hd;have hl:(us++ds).length=ps.length:=by rw[<- r2.length];exact F.len _ _ _ _ h
 refine wpAny_call (codeAny_mono (F.run X.A X.stack s H ⟨us,[]⟩ (us++ds) (vs++dvs) Q E hr I.env0 (hb s us I.kIn hl) r2 h) fun r s' hq=>?_);cases r with
 | error e=>exact hx pins σ H s e s' I hq
 | ok fl =>
  cases fl with
  | ret u=>exact I.after hq
  | next=>exact False.elim hq
  | brk=>exact False.elim hq
  | cont=>exact False.elim hq
theorem ZkI(F:FnOk X.prog X.w X.K X.mg X.base CX k f fd ps sp)(hr:Room k X.A)(hg:Gl X x)(hm:X.mg x=some (.ref f))(hk:PySem.W.keepIn X.K (.ref f)=true)(hb:Binds X.K fd ps ds)(hd:Vals dvs ds)(hx:Ze9 CX X E)
  (ha:PA X (e::es) t) (hdb:(x == ("__debug__" : Str))=false:=by decide) (he:starEach (e::es) X.env=(false,eval e X.env)::starEach es X.env:=by rfl) (hpl:(backTo pos (starEach es X.env)).any (·.1)=false:=by rfl) :
  PE X (.Call (.Name x p) (e::es) [] pos) (Zle sp dvs E t):=by
 intro pins s σ H Q I h;refine wpAny_Call_Name_kw (Zdp I hg hm ?_ hdb);refine PySem.W.callWith_K (h₀ := X.base) I.ok.mod.kin hk (thn (ha pos pins s σ H _ I h) fun us s1 ⟨vs,H1,I1,r,q⟩=>⟨I1.kIn,?_⟩) he hpl;exact ZiN F hr hb hd hx I1 r q
theorem ZkQ{pl:Sem Bool}(he:PE X o ta)(c:Cls X.K C)(hm:Meth X.K C m f)(F:FnOk X.prog X.w X.K X.mg X.base CX k f fd ps sp)(hr:Room k X.A)(hb:Binds X.K fd ps ds)(hd:Vals dvs ds)(hx:Ze9 CX X E)(ha:PA X (e::es) t)
  (hst:starEach (e::es) X.env=(false,eval e X.env)::starEach es X.env:=by rfl) (hpl:(backTo pos (starEach es X.env)).any (·.1)=false:=by rfl)
  (ht:eval (.Call (.Attribute o m apos) (e::es) [] pos) X.env=(do
   let ov <- eval o X.env
   standAt apos.atName
   let (f,first) <- holding [ov] (getMethod ov m pl)
   callWith pos f first (backTo pos (starEach (e::es) X.env)) (backToKw pos (keywordEach [] X.env))):=by rfl) :
  PE X (.Call (.Attribute o m apos) (e::es) [] pos) (ZjN C m sp dvs E ta t):=by
 intro pins s σ H Q I h;refine PySem.W.methodCall_KW (pl:=pl) (thn (he pins s σ H _ I h) fun u s1 ⟨x,H1,I1,rx,a,dx,fs,ex,ea,l,q⟩=>?_) ht;subst ex;obtain rfl:u=Value.ref a:=rx;refine Zef I1 ea c hm l ?_;refine PySem.W.callWith_K (first:=[.ref a]) (h₀ := X.base) I.ok.mod.kin hm.kp (thn (ha pos pins s1 σ H1 _ I1 q) fun us s2 ⟨vs,H2,I2,r,q2⟩=>⟨I2.kIn,?_⟩) hst hpl
 exact ZiN (us:=.ref a::us) (vs:=.ref a::vs) F hr hb hd hx I2 (.cons rfl r) q2
theorem ZjC{pl:Sem Bool}(he:PE X o ta)(c:Cls X.K C)(hm:Meth X.K C m f)(F:FnOk X.prog X.w X.K X.mg X.base CX k f fd ps sp)(hr:Room k X.A)(hb:Binds X.K fd ps ds)(hd:Vals dvs ds)(hx:Ze9 CX X E)
  (ht:eval (.Call (.Attribute o m apos) [] [] pos) X.env=(do
   let ov <- eval o X.env
   standAt apos.atName
   let (f,first) <- holding [ov] (getMethod ov m pl)
   callWith pos f first (backTo pos (starEach [] X.env)) (backToKw pos (keywordEach [] X.env))):=by rfl) :
  PE X (.Call (.Attribute o m apos) [] [] pos) (ZjN C m sp dvs E ta Zlm):=by
 intro pins s σ H Q I h;refine PySem.W.methodCall_KW (pl:=pl) (thn (he pins s σ H _ I h) fun u s1 ⟨x,H1,I1,rx,a,dx,fs,ex,ea,l,q⟩=>?_) ht;subst ex;obtain rfl:u=Value.ref a:=rx;refine Zef I1 ea c hm l ?_;exact PySem.W.callWith_K0 (first:=[.ref a]) I1.kIn hm.kp (ZiN (us:=[.ref a]) (vs:=[.ref a]) F hr hb hd hx I1 (.cons rfl .nil) q)
end
structure FnScope(N P:List Str)(sc:Scope):Prop where
 kind:sc.kind=.function
 co:sc.isCoroutine=false
 gen:sc.isGenerator=false
 nd:N.Nodup
 pre:N.take P.length=P
 par:∀x∈P,sc.names.lookup x=some .local\/sc.names.lookup x=some .cell
 Zjl:∀y∈sc.names,y.2 ≠ .free
theorem ZeY{kindOf:Str->Option NameKind}{x:Str}:∀{binds:List (Str×Value)}{m:Str->Option Value},(∀v,(x,v)∉binds)->bindL kindOf binds m x=m x
 | [],_,_=>rfl
 | (n,v)::r,m,h=>by
  unfold bindL;rw[ZeY fun w hw=>h w (List.mem_cons_of_mem _ hw)]
  split
  ·have:x≠n:=by rintro rfl;exact h v List.mem_cons_self
   simp[this]
  ·rfl
theorem Zfo{kindOf:Str->Option NameKind}{x:Str}:∀{binds:List (Str×Value)}{m:Str->Option Value},(∀v,(x,v)∉binds)->bindC kindOf binds m x=m x
 | [],_,_=>rfl
 | (n,v)::r,m,h=>by
  unfold bindC;rw[Zfo fun w hw=>h w (List.mem_cons_of_mem _ hw)]
  split
  ·rfl
  ·have:x≠n:=by rintro rfl;exact h v List.mem_cons_self
   simp[this]
theorem Ze7{kindOf:Str->Option NameKind}{x:Str}{v:Value}:∀{P:List Str}{vs:List Value}{i:Nat}{m:Str->Option Value},P.Nodup->P[i]?= some x->vs[i]?= some v->kindOf x=some .local ->
  bindL kindOf (P.zip vs) m x=some v
 | [],_,_,_,_,h,_,_=>by simp at h
 | _::_,[],_,_,_,_,h,_=>by simp at h
 | p::P,w::vs,0,m,nd,h1,h2,hk=>by
  simp at h1 h2;subst h1;subst h2;show bindL kindOf ((p,w)::P.zip vs) m p=_;unfold bindL;rw[ZeY fun v hv=>(List.nodup_cons.mp nd).1 (List.of_mem_zip hv).1,if_pos hk];simp
 | p::P,w::vs,i+1,m,nd,h1,h2,hk=>by
  show bindL kindOf ((p,w)::P.zip vs) m x=_;unfold bindL;exact Ze7 (i:=i) (List.nodup_cons.mp nd).2 (by simpa using h1) (by simpa using h2) hk
theorem Zft{kindOf:Str->Option NameKind}{x:Str}{v:Value}:∀{P:List Str}{vs:List Value}{i:Nat}{m:Str->Option Value},P.Nodup->P[i]?= some x->vs[i]?= some v->kindOf x≠some .local ->
  bindC kindOf (P.zip vs) m x=some v
 | [],_,_,_,_,h,_,_=>by simp at h
 | _::_,[],_,_,_,_,h,_=>by simp at h
 | p::P,w::vs,0,m,nd,h1,h2,hk=>by
  simp at h1 h2;subst h1;subst h2;show bindC kindOf ((p,w)::P.zip vs) m p=_;unfold bindC;rw[Zfo fun v hv=>(List.nodup_cons.mp nd).1 (List.of_mem_zip hv).1,if_neg hk];simp
 | p::P,w::vs,i+1,m,nd,h1,h2,hk=>by
  show bindC kindOf ((p,w)::P.zip vs) m x=_;unfold bindC;exact Zft (i:=i) (List.nodup_cons.mp nd).2 (by simpa using h1) (by simpa using h2) hk
def start(N:List Str)(vs:List V):St:=vs.map some++List.replicate (N.length-vs.length) none
def Zjn(CX:CXT)(P:Program)(w:World)(K:PySem.W.Frag)(mg:Str->Option Value)(base:Heap)(N:List Str)(qual:Str)(scope:Scope)(f:Addr)(cd:Value)(A:Around)(outer:List Env)(s:Shared)(H:Hp)(E:XK):Cx where
 prog:=P
 w:=w
 K:=K
 mg:=mg
 base:=base
 A:=A.deeper (envOfC qual scope s.heap.objs.size f cd)
 N:=N
 s₀ := s
 H₀ := H
 env:=envOfC qual scope s.heap.objs.size f cd
 outer:=outer
 stack:=envOfC qual scope s.heap.objs.size f cd::outer
 ex:=[]
 calm:=true
 fn:=fun _=>true
 pn:=[]
 xe:=fun e s'=>wpAny (model P w) (A.deeper (envOfC qual scope s.heap.objs.size f cd)) (leaving (envOfC qual scope s.heap.objs.size f cd) e) (fun _ s''=>CX outer H s E e s'') (fun e' s''=>CX outer H s E e' s'') s'
theorem ZgX{sc:Scope}{n:Nat}{x:Str}(h:sc.names.lookup x=some .cell):∃c,(cellsFrom n sc.names []).lookup x=some c:=by
 have q:=PySem.W.cellsFrom_some sc.names n [] (.inl h);exact Option.isSome_iff_exists.mp q
theorem Ziy{CX:CXT}{P:Program}{w:World}{K:PySem.W.Frag}{mg:Str->Option Value}{base:Heap}{N ps:List Str}{qual:Str}{scope:Scope}{f:Addr}{cd:Value}{A:Around}{outer:List Env}{s s1:Shared}{H:Hp}{E:XK}{us:List Value}{vs:List V}
  (S:FnScope N ps scope) (hd:A.handled=none) (e0:Env0 P w K mg base A outer s H) (hl:vs.length=ps.length) (r:Vals vs us)
  (x:InCallC s s.heap.objs.size (bindL (envOfC qual scope s.heap.objs.size f cd).kindOf (ps.zip us) fun _=>none) (cellsFrom (s.heap.objs.size+1) scope.names []) (bindC (envOfC qual scope s.heap.objs.size f cd).kindOf (ps.zip us) fun _=>none) s1) :
  Inv (Zjn CX P w K mg base N qual scope f cd A outer s H E) [] (start N vs) H s1:=by
 have hpl:ps.length<=N.length:=by have:=congrArg List.length S.pre;rw[List.length_take] at this;lia
 obtain⟨h1,tk,rfl,hk⟩:=x.done;have noA:∀b:Addr,b∉(Zjn CX P w K mg base N qual scope f cd A outer s H E).ex:=fun b z=>absurd (show b∈([]:List Addr) from z) (by simp);refine⟨⟨e0.mod,S.kind,rfl,rfl,Nat.le_refl _,fun y z c h1 h2=>?_,fun y hy=>?_,fun y c _ h=>?_,fun _=>hd,Around.frames_deeper e0.frames,.inr ⟨rfl,rfl⟩,fun b z=>absurd z (noA b),e0.bs,e0.bsz,fun b _ _=>noA b,fun b z=>absurd z (noA b),e0.funs,e0.frf⟩,
  rfl,e0.bare,Un.kept hk,⟨_,x.toInCall.ns,fun i y v h1 h2 h3=>?_⟩,fun y c h=>⟨_,x.cell y c h⟩,e0.hok.fresh (Nat.le_refl _),fun y c h=>?_,fun p hp=>absurd (show p∈([]:List (Addr×Obj)) from hp) (by simp),e0.hok.kept hk,?_⟩
 ·exact name_of_addr x.apart (PySem.mem_of_lookup h1) (PySem.mem_of_lookup h2)
 ·have hy:scope.names.lookup y=some .cell\/scope.names.lookup y=some .free:=hy;rcases hy with hy|hy
  ·exact ZgX hy
  ·exact absurd rfl (S.Zjl _ (PySem.mem_of_lookup hy))
 ·exact Nat.le_of_lt (x.above y c (PySem.mem_of_lookup h))
 ·have hi:i<vs.length:=by
   unfold start at h2;by_cases hi:i<vs.length
   ·exact hi
   ·rw[List.getElem?_append_right (by simpa using hi)] at h2;rw[List.getElem?_replicate] at h2
    split at h2 <;> cases h2
  have ha:vs[i]?= some v:=by
   unfold start at h2;rw[List.getElem?_append_left (by simpa using hi),List.getElem?_map] at h2;cases e:vs[i]? with
   | none=>rw[e] at h2;cases h2
   | some a=>rw[e] at h2;cases h2;rfl
  obtain⟨u,hu,rv⟩:=r.get ha;have hp:ps[i]?= some y:=by
   rw[<- S.pre,List.getElem?_take_of_lt (by lia)];exact h1
  have ndP:ps.Nodup:=by rw[<- S.pre];exact S.nd.sublist (List.take_sublist _ _)
  refine⟨u,rv,?_⟩;rcases S.par y (List.mem_of_getElem? hp) with k|k
  ·exact .inl ⟨k,Ze7 ndP hp hu k⟩
  ·obtain⟨c,e⟩:=ZgX (n:=s.heap.objs.size+1) k;refine .inr ⟨.inl k,c,e,?_⟩;have q:=x.cell y c e;rw[Zft ndP hp hu (by show scope.names.lookup y≠_;rw[k];decide)] at q;exact q
 ·exact e0.hok.fresh (Nat.le_of_lt (x.above y c (PySem.mem_of_lookup h)))
 ·unfold start;show _=N.length;rw[List.length_append,List.length_map,List.length_replicate];lia
theorem Zk2{CX:CXT}{P:Program}{w:World}{K:PySem.W.Frag}{mg:Str->Option Value}{base:Heap}{k:Nat}{f:Addr}{name qual:Str}{params:Arguments}{body:List Stmt}{scope:Scope}{dV kV doc pm cdv ct oc:Value}{an od:Option Addr}
  {osl:Array (Option Value)} {N ps:List Str} {sp:Sp} (lk:K.lookup f=some ⟨oc,od,.func (PySem.W.fnOf name qual params body scope dV kV doc pm an cdv ct),osl⟩) (hcd:PySem.W.codeIn K cdv qual=true) (S:FnScope N ps scope)
  (len:∀vs H Q E,sp vs H Q E->vs.length=ps.length)
  (hbody:∀(A:Around)(outer:List Env)(s:Shared)(H:Hp)(vs:List V)(Q:VK)(E:XK),Room k (A.deeper (envOfC qual scope s.heap.objs.size f cdv))->sp vs H Q E ->
   ∃t,PSs (Zjn CX P w K mg base N qual scope f cdv A outer s H E) body t/\t { nx:=fun _ H'=>Q .non H',rt:=Q } (start N vs) H) :
  FnOk P w K mg base CX (k+1) f (PySem.W.fnOf name qual params body scope dV kV doc pm an cdv ct) ps sp:=by
 refine⟨len,fun A outer s H args us vs Q E hr e0 hb r hsp=>?_⟩;have hl:=len _ _ _ _ hsp;have KX:K.In s.heap:=e0.mod.kin.keeps fun b o e=>(e0.bs b o e).1;have lim:s.heap.NoLimit:=e0.mod.nolimit.keeps fun b o e=>(e0.bs b o e).1;have hkind:∀y∈ps.zip us,scope.names.lookup y.1=some .local\/(scope.names.lookup y.1=some .cell/\((cellsFrom (s.heap.objs.size+1) scope.names []).lookup y.1).isSome=true):=fun⟨n,v⟩ hy=>by
  rcases S.par n (List.of_mem_zip hy).1 with q|q
  ·exact .inl q
  ·exact .inr ⟨q,PySem.W.cellsFrom_some _ _ _ (.inl q)⟩
 refine codeAny_call_function hr.depth (KX _ _ lk) rfl S.co S.gen rfl (PySem.W.codeRec_of KX hcd) (hb _ _ _ _ ?_);refine wpAny_newFunctionEnv_cells S.kind hkind fun env he s1 x=>?_;subst he;refine⟨lim.keeps x.toInCall.keep,codeAny_func ?_⟩;obtain⟨t,ht,hq⟩:=hbody A outer s H vs Q E (hr.deeper _) hsp;have I:Inv (Zjn CX P w K mg base N qual scope f cdv A outer s H E) [] (start N vs) H s1:=Ziy S hr.hd e0 hl r x;refine wpAny_mono (ht [] s1 (start N vs) H _ I hq) (fun fl s' hs=>?_) fun e s' hs=>hs;have fin:∀{σ':St}{H':Hp}{v:V}{u:Value},Inv (Zjn CX P w K mg base N qual scope f cdv A outer s H E) [] σ' H' s'->RelV v u->Q v H'->CE outer P w H s Q u s' :=
  fun{σ' H' v u} J rv q=>⟨v,H',J.os,J.bare,J.base,J.hok,rv,q⟩
 cases fl with
 | ret u =>
  obtain⟨v,σ',H',J,rv,q⟩:=hs;exact fin J rv q
 | next =>
  obtain⟨σ',H',J,q⟩:=hs;exact fin (v:=V.non) (u:=Value.none) J rfl q
 | brk =>
  obtain⟨_,_,_,q⟩:=hs;exact False.elim q
 | cont =>
  obtain⟨_,_,_,q⟩:=hs;exact False.elim q
section
variable{X:Cx}{x:Str}{p pos:Pos}{e:Expr}{es:List Expr}{t:TA}{id T:String}{r:List V->Hp->VK->Prop}
def tCB(r:List V->Hp->VK->Prop)(t:TA):TE:=fun σ H Q=>t σ H fun vs H1=>r vs H1 Q
theorem ZaG(hc:ZcR X (.builtin id) r)(hg:Gl X x)(hm:X.mg x=none)(hv:bootBuiltins x=some (.builtin id))(ha:PA X (e::es) t)(hn:x ≠ "__name__" := by decide) (hdb:(x == ("__debug__" : Str))=false:=by decide)
  (he:starEach (e::es) X.env=(false,eval e X.env)::starEach es X.env:=by rfl) (hpl:(backTo pos (starEach es X.env)).any (·.1)=false:=by rfl):PE X (.Call (.Name x p) (e::es) [] pos) (tCB r t):=by
 intro pins s σ H Q I h;refine wpAny_Call_Name_kw (Zdf I hg hm hv ?_ hn hdb);exact PyProof.Rows.callWith_builtin1 (thn (ha pos pins s σ H _ I h) fun us s1 ⟨vs,H1,I1,r1,q1⟩=>hc pins s1 σ H1 vs us Q I1 r1 q1) he hpl
theorem ZaM(hc:ZcR X (.type T) r)(hg:Gl X x)(hm:X.mg x=none)(hv:bootBuiltins x=some (.type T))(ha:PA X (e::es) t)(hn:x ≠ "__name__" := by decide) (hdb:(x == ("__debug__" : Str))=false:=by decide)
  (he:starEach (e::es) X.env=(false,eval e X.env)::starEach es X.env:=by rfl) (hpl:(backTo pos (starEach es X.env)).any (·.1)=false:=by rfl):PE X (.Call (.Name x p) (e::es) [] pos) (tCB r t):=by
 intro pins s σ H Q I h;refine wpAny_Call_Name_kw (Zdf I hg hm hv ?_ hn hdb);exact PyProof.Rows.callWith_type1 (thn (ha pos pins s σ H _ I h) fun us s1 ⟨vs,H1,I1,r1,q1⟩=>hc pins s1 σ H1 vs us Q I1 r1 q1) he hpl
end
end L2
namespace HT
open PySem PyProof.Rows
section
variable{prog:Program}{w:World}{A:Around}{E:Value->Shared->Prop}{s:Shared}
def sIx(n d:Nat):Option Int->Nat
 | none=>d
 | some v=>if v<0 then(v+(n:Int)).toNat else min v.toNat n
theorem ZgE(n d:Nat):sIx n d none=d:=rfl
theorem Zeo(n d k:Nat):sIx n d (some (k:Int))=min k n:=by
 show(if(k:Int)<0 then((k:Int)+(n:Int)).toNat else min (k:Int).toNat n)=min k n
 rw[if_neg (by lia),Int.toNat_natCast]
theorem Zlx(n d:Nat)(hd:d<=n)(o:Option Int):sIx n d o<=n:=by
 cases o with
 | none=>exact hd
 | some v =>
  show(if v<0 then(v+(n:Int)).toNat else min v.toNat n)<=n
  by_cases hv:v<0
  ·rw[if_pos hv];lia
  ·rw[if_neg hv];exact Nat.min_le_right _ _
theorem ZiU(v:Int)(n d:Nat):(if v<0 then max (v+(n:Int)) 0 else min v (n:Int))=((sIx n d (some v):Nat):Int):=by
 show(if v<0 then max (v+(n:Int)) 0 else min v (n:Int))=(((if v<0 then(v+(n:Int)).toNat else min v.toNat n):Nat):Int)
 by_cases hv:v<0
 ·simp only[if_pos hv];lia
 ·simp only[if_neg hv];lia
theorem Zhg(lo hi:Option Int)(n:Nat):Builtin.Slice.sliceAdjust lo hi 1 (n:Int)=(((sIx n 0 lo:Nat):Int),((sIx n n hi:Nat):Int)):=by
 have h1 : ¬ ((1:Int)<0):=by lia
 unfold Builtin.Slice.sliceAdjust;simp only[h1,if_false];refine Prod.ext ?_ ?_
 ·cases lo with
  | none=>rfl
  | some v=>exact ZiU v n 0
 ·cases hi with
  | none=>rfl
  | some v=>exact ZiU v n n
theorem ZhJ(i j:Nat):Builtin.Slice.slicePlaces (i:Int) (j:Int) 1=j-i:=by
 unfold Builtin.Slice.slicePlaces;have h1:(1:Int) > 0:=by lia
 simp only[h1,if_true,Int.ediv_one]
 split <;> lia
theorem Zbz{v:Value}{o:Option Int}{Q:Option Int->Shared->Prop}(p:IsPart v o)(h:Q o s):wpAny (model prog w) A (Builtin.Slice.slicePartIndex v) Q E s:=by
 cases p with
 | none=>exact slicePart_none h
 | int i t=>exact slicePart_int h
theorem ZbP{sl:Addr}{vl vu:Value}{lo hi:Option Int}{n:Nat}{Q:Int×Int×Nat->Shared->Prop}(hs:s.heap.IsSliceOf sl vl vu .none)(pl:IsPart vl lo)(pu:IsPart vu hi)
  (h:Q (((sIx n 0 lo:Nat):Int),1,sIx n n hi-sIx n 0 lo) s):wpAny (model prog w) A (Builtin.Slice.sliceApplied (.ref sl) (pure (n:Int))) Q E s:=by
 obtain⟨os,hos,hcs,hds⟩:=id hs;unfold Builtin.Slice.sliceApplied Builtin.Slice.sliceFields;refine wpAny_bind (wpAny_bind (wpAny_field hos hds (x:=vl) rfl (wpAny_bind (wpAny_field hos hds (x:=vu) rfl (wpAny_bind (wpAny_field hos hds (x:=.none) rfl (wpAny_pure ?_)))))));refine wpAny_bind (slicePart_none ?_);show wpAny _ _ (if((1:Int) == 0)=true then _ else _) _ _ s
 rw[if_neg (by decide)];refine wpAny_bind (Zbz pl (wpAny_bind (Zbz pu (wpAny_bind (wpAny_pure ?_)))));show wpAny _ _ (match Builtin.Slice.sliceAdjust lo hi 1 (n:Int) with|(lo,hi)=>pure (lo,(1:Int),Builtin.Slice.slicePlaces lo hi 1)) _ _ s
 rw[Zhg lo hi n];show wpAny _ _ (pure (((sIx n 0 lo:Nat):Int),(1:Int),Builtin.Slice.slicePlaces ((sIx n 0 lo:Nat):Int) ((sIx n n hi:Nat):Int) 1)) _ _ s;rw[ZhJ];exact wpAny_pure h
theorem ZjY(xs:Array Value)(i k:Nat):((List.range k).filterMap fun(m:Nat)=>xs[((i:Int)+(m:Int)*1).toNat]?).toArray=((xs.toList.drop i).take k).toArray:=by
 have e:(fun(m:Nat)=>xs[((i:Int)+(m:Int)*1).toNat]?)=fun m=>xs[i+m]? := by
  funext m
  have:((i:Int)+(m:Int)*1).toNat=i+m:=by lia
  rw[this]
 rw[e];have:=pick_run xs i k;rw[List.filterMap_map] at this;have e2:((fun x=>xs[x]?) ∘ fun x=>i+x)=fun m=>xs[i+m]? := rfl;rw[e2] at this;rw[this]
theorem Zcy{t sl:Addr}{items:Array Value}{vl vu:Value}{lo hi:Option Int}{Q:Value->Shared->Prop}(ht:IsTup s.heap t items)(hs:s.heap.IsSliceOf sl vl vu .none)(pl:IsPart vl lo)(pu:IsPart vu hi)
  (hw : ¬ (sIx items.size 0 lo=0/\sIx items.size items.size hi=items.size))
  (h:Q (.ref s.heap.objs.size) { s with heap:=s.heap.push { cls:=.type "tuple",data:=.seq ((items.toList.drop (sIx items.size 0 lo)).take (sIx items.size items.size hi-sIx items.size 0 lo)).toArray } })
  (hsz:items.size<=sizeLine):wpAny (model prog w) A (getItem (.ref t) (.ref sl)) Q E s:=by
 have htake:sizeOk (.seq ((items.toList.drop (sIx items.size 0 lo)).take (sIx items.size items.size hi-sIx items.size 0 lo)).toArray):=by
  show((items.toList.drop (sIx items.size 0 lo)).take (sIx items.size items.size hi-sIx items.size 0 lo)).toArray.size<=sizeLine;rw[List.size_toArray,List.length_take,List.length_drop,Array.length_toList];lia
 have hj:sIx items.size items.size hi<=items.size:=Zlx _ _ (Nat.le_refl _) hi;obtain⟨os,hos,hcs,hds⟩:=id hs;have hTs:s.TypeIs (.ref sl) "slice" := ⟨os,hos,hcs⟩;unfold getItem
 try with_reducible refine wpAny_holding ?_
 first|refine wpAny_bind (wpAny_pure ?_)|skip
 refine wpAny_bind (wpAny_sequenceKey ht.typeIs (by decide) ?_);refine wpAny_bind (wpAny_callSpecial?_slot (name:=Str.ofString "__getitem__") ht.typeIs PyProof.Rows.slot_tuple_getitem
  (wpAny_call_entry PyProof.Rows.slot_tuple_getitem ht.typeIs entry_tuple_getitem ?_ (args_tuple_getitem _ _)))
 show wpAny _ _ (Builtin.Tuple.tupleItemsOf (.ref t) >>= _) _ _ s;refine wpAny_bind (tupleItemsOf_ ht ?_);refine wpAny_bind (wpAny_typeOf hTs ?_);rw[if_pos (by decide)];refine wpAny_bind (ZbP hs pl pu ?_);have hno : ¬ ((((sIx items.size 0 lo:Nat):Int) == 0&&(1:Int) == 1&&(sIx items.size items.size hi-sIx items.size 0 lo) == items.size)=true):=by
  intro q;rw[Bool.and_eq_true,Bool.and_eq_true] at q;have q1:((sIx items.size 0 lo:Nat):Int)=0:=eq_of_beq q.1.1;have q2:sIx items.size items.size hi-sIx items.size 0 lo=items.size:=eq_of_beq q.2;exact hw ⟨by lia,by lia⟩
 show wpAny _ _ (if(((sIx items.size 0 lo:Nat):Int) == 0&&(1:Int) == 1&&(sIx items.size items.size hi-sIx items.size 0 lo) == items.size)=true then _ else _) _ _ s
 rw[if_neg hno,ZjY]
 first
  | exact wpAny_bind (m:=Builtin.Tuple.tupleExact _) (wpAny_newObj_type (wpAny_pure ⟨_,rfl,wpAny_pure h⟩) htake)
  | exact wpAny_bind (m:=Builtin.Tuple.tupleExact _) (wpAny_newObj_type (wpAny_bind (wpAny_pure (wpAny_pure ⟨_,rfl,wpAny_pure h⟩))) htake)
  | exact wpAny_bind (wpAny_bind (m:=Builtin.Tuple.tupleExact _) (wpAny_newObj_type (wpAny_pure (wpAny_pure ⟨_,rfl,wpAny_pure h⟩)) htake))
  | exact wpAny_bind (wpAny_bind (m:=Builtin.Tuple.tupleExact _) (wpAny_newObj_type (wpAny_pure ⟨_,rfl,wpAny_pure h⟩) htake))
end
end HT
namespace L2
open PySem PySem.Spec PyProof.Rows
abbrev TO:=St->Hp->(Option Int->Hp->Prop)->Prop
def PO(X:Cx)(e:Option Expr)(t:TO):Prop :=
 ∀(pins:List (Addr×Obj))(s:Shared)(σ : St)(H:Hp)(Q:Option Int->Hp->Prop),Inv X pins σ H s->t σ H Q ->
  wpAny (model X.prog X.w) X.A (evalPart e X.env) (fun u s'=>∃o H',Inv X pins σ H' s'/\IsPart u o/\Q o H') X.xe s
def ZkB:TO:=fun _ H Q=>Q none H
def Zmo(t:TE):TO:=fun σ H Q=>t σ H fun x H1=>∃i,x=.int i/\Q (some i) H1
section
variable{X:Cx}{e:Expr}{te:TE}{lo hi:Option Expr}{tl th:TO}{pos p2:Pos}
theorem Zdj:PO X none ZkB:=by
 intro pins s σ H Q I h;rw[evalPart_none];exact wpAny_pure ⟨none,H,I,.none,h⟩
theorem ZcF(h:PE X e te):PO X (some e) (Zmo te):=by
 intro pins s σ H Q I hw;rw[evalPart_some];refine thn (h pins s σ H _ I hw) fun u s1 ⟨x,H1,I1,r1,q1⟩=>?_;obtain⟨i,rfl,q⟩:=q1;obtain⟨t,rfl⟩:=r1;exact⟨some i,H1,I1,.int i t,q⟩
def SlR(X:Cx)(r:V->Option Int->Option Int->Hp->VK->Prop):Prop :=
 ∀(pins:List (Addr×Obj))(s:Shared)(σ : St)(H:Hp)(x:V)(v vl vu:Value)(lo hi:Option Int)(sl:Addr)(Q:VK),Inv X pins σ H s->RelV x v->s.heap.IsSliceOf sl vl vu .none->IsPart vl lo->IsPart vu hi->r x lo hi H Q ->
  ∃T id,typeLookup (.type T) "__getitem__" = pure (some (.builtin id))/\s.TypeIs v T/\wpAny (model X.prog X.w) X.A (getItem v (.ref sl)) (EP X pins σ Q) X.xe s
def tSl(r:V->Option Int->Option Int->Hp->VK->Prop)(te:TE)(tl th:TO):TE:=fun σ H Q=>te σ H fun x H1=>tl σ H1 fun l H2=>th σ H2 fun u H3=>r x l u H3 Q
theorem Zc2{r:V->Option Int->Option Int->Hp->VK->Prop}(hr:SlR X r)(he:PE X e te)(hl:PO X lo tl)(hu:PO X hi th):PE X (.Subscript e (.Slice lo hi none p2) pos) (tSl r te tl th):=by
 intro pins s σ H Q I h;refine Subscript_ (thn (he pins s σ H _ I h) fun v s1 ⟨x,H1,I1,r1,q1⟩=>?_);refine wpAny_Slice (thn (hl pins s1 σ H1 _ I1 q1) fun vl s2 ⟨l,H2,I2,pl,q2⟩=>thn (hu pins s2 σ H2 _ I2 q2) fun vu s3 ⟨u,H3,I3,pu,q3⟩=>?_);rw[evalPart_none];refine wpAny_pure ?_;have I4:Inv X pins σ H3 { s3 with heap:=s3.heap.push { cls:=.type "slice",data:=.fields #[vl,vu,.none] } }:=I3.kept (t':=s3.toks) fun b ob q=>Heap.get?_push_of_some _ q;obtain⟨T,id,hT,ht,hg⟩:=hr pins { s3 with heap:=s3.heap.push { cls:=.type "slice",data:=.fields #[vl,vu,.none] } } σ H3 x v vl vu l u s3.heap.objs.size Q I4 r1 (Heap.IsSliceOf.new ..) pl pu q3;show wpAny (model X.prog X.w) X.A (subscriptTail e (.Slice lo hi none p2) v (.ref s3.heap.objs.size)) (EP X pins σ Q) X.xe { s3 with heap:=s3.heap.push { cls:=.type "slice",data:=.fields #[vl,vu,.none] } };exact tail_any (ops:=[.ref s3.heap.objs.size,v]) ht hT hg (by with_unfolding_all rfl)
def ZdU(xs:List V)(lo hi:Option Int):List V:=(xs.drop (HT.sIx xs.length 0 lo)).take (HT.sIx xs.length xs.length hi-HT.sIx xs.length 0 lo)
theorem Zdr(xs:List V)(lo hi:Option Int):(ZdU xs lo hi).length<=xs.length:=by
 unfold ZdU;rw[List.length_take,List.length_drop];lia
def ZmV(K:PySem.W.Frag):V->Option Int->Option Int->Hp->VK->Prop:=fun x lo hi H Q=>∃a xs,x=.ref a/\SqT K H a xs /\
 ¬ (HT.sIx xs.length 0 lo=0/\HT.sIx xs.length xs.length hi=xs.length)/\∀p,H p=none->Q (.ref p) (upd H p (.tup (ZdU xs lo hi)))
theorem ZlN:SlR X (ZmV X.K):=by
 intro pins s σ H x v vl vu lo hi sl Q I rx hs pl pu h;obtain⟨a,xs,rfl,hx,hw,q⟩:=h;cases rx;obtain⟨its,r,ht,hz⟩:=I.tuple hx;have hlen:its.toArray.size=xs.length:=by rw[List.size_toArray];exact r.length.symm
 refine⟨"tuple",_,PyProof.Rows.slot_tuple_getitem.lookup,ht.typeIs,?_⟩;refine HT.Zcy ht hs pl pu (by rw[hlen];exact hw) ?_ (by rw[hlen];exact hz);rw[hlen];refine⟨.ref s.heap.objs.size,_,I.laid (t':=s.toks) (o:=.tup (ZdU xs lo hi)) (fun b ob q=>Heap.get?_push_of_some _ q) (Nat.le_refl _) ?_,rfl,q _ (I.hok.fresh (Nat.le_refl _))⟩;exact⟨Nat.le_trans (Zdr xs lo hi) hz,_,(r.drop (HT.sIx xs.length 0 lo)).take (HT.sIx xs.length xs.length hi-HT.sIx xs.length 0 lo),IsTup.new _ _⟩
end
def ixN(n:Nat)(i:Int):Option Nat:=if 0<=i then(if i<n then some i.toNat else none) else if -(n:Int)<=i then some (i+n).toNat else none
def atI{α : Type}(xs:List α)(i:Int):Option α := (ixN xs.length i).bind fun j=>xs[j]?
theorem Zif{n:Nat}{i:Int}{j:Nat}(h:ixN n i=some j):seqIndex? i n=some j/\j<n /\ -(n:Int)<=i/\i<n:=by
 unfold ixN at h;by_cases h0:0<=i
 ·rw[if_pos h0] at h;by_cases h1:i<n
  ·rw[if_pos h1] at h;have e:i.toNat=j:=Option.some.inj h;exact⟨by rw[seqIndex_of h0 h1,e],by lia,by lia,h1⟩
  ·rw[if_neg h1] at h;cases h
 ·rw[if_neg h0] at h;by_cases h1 : -(n:Int)<=i
  ·rw[if_pos h1] at h;have e:(i+n).toNat=j:=Option.some.inj h;exact⟨by rw[seqIndex_neg (by lia) h1,e],by lia,h1,by lia⟩
  ·rw[if_neg h1] at h;cases h
theorem ZfW{α : Type}{xs:List α}{i:Int}{v : α}(h:atI xs i=some v):∃j,seqIndex? i xs.length=some j/\xs[j]?= some v/\j<xs.length /\ -(xs.length:Int)<=i/\i<xs.length:=by
 unfold atI at h;cases e:ixN xs.length i with
 | none=>rw[e] at h;cases h
 | some j =>
  rw[e] at h;obtain⟨h1,h2,h3,h4⟩:=Zif e;exact⟨j,h1,h,h2,h3,h4⟩
theorem Za5{α : Type}{xs:List α}{j:Nat}{v : α}(h:xs[j]?= some v):atI xs (j:Int)=some v:=by
 have hj:j<xs.length:=(List.getElem?_eq_some_iff.mp h).1;have e:ixN xs.length (j:Int)=some j:=by
  unfold ixN;rw[if_pos (by lia),if_pos (by lia)];simp
 unfold atI;rw[e];exact h
theorem ZbH{α : Type}(xs:List α)(v : α):atI (xs ++ [v]) (-1)=some v:=by
 have hl:(xs ++ [v]).length=xs.length+1:=by simp
 have e:ixN (xs ++ [v]).length (-1)=some xs.length:=by
  unfold ixN;rw[hl,if_neg (by decide),if_pos (by lia)]
  congr 1
  lia
 unfold atI;rw[e];show(xs ++ [v])[xs.length]?= some v;simp
def ZkT(b:Expr):Prop := ∀o i,subscripted b false o i=operate [o,i] (getItem o i)
def IxR(X:Cx)(r:R2):Prop :=
 ∀(value slice:Expr)(pins:List (Addr×Obj))(s:Shared)(σ : St)(H:Hp)(x y:V)(v u:Value)(Q:VK),Inv X pins σ H s->RelV x v->RelV y u->r x y H Q ->
  subscripted slice false v u=operate [v,u] (getItem v u)->wpAny (model X.prog X.w) X.A (subscriptTail value slice v u) (EP X pins σ Q) X.xe s
def MtR(X:Cx)(id:String)(r:V->List V->Hp->VK->Prop):Prop :=
 ∀(pins:List (Addr×Obj))(s:Shared)(σ : St)(H:Hp)(x:V)(xs:List V)(v:Value)(us:List Value)(Q:VK),Inv X pins σ H s->RelV x v->Vals xs us->r x xs H Q ->
  wpAny (model X.prog X.w) X.A (call (.builtin id) (v::us)) (EP X pins σ Q) X.xe s
section
variable{X:Cx}{a b:Expr}{ta tb:TE}{pos:Pos}
theorem ZG{r:R2}(hr:IxR X r)(ha:PE X a ta)(hb:PE X b tb)(hs:ZkT b):PE X (.Subscript a b pos) (tOp r ta tb):=by
 intro pins s σ H Q I h;exact Subscript_ (Zmd ha hb I h fun v u s2 x y H2 I2 rx ry q=>hr a b pins s2 σ H2 x y v u Q I2 rx ry q (hs _ _))
def ZmJ(K:PySem.W.Frag):R2:=fun x y H Q=>∃p xs i v,x=.ref p/\y=.int i/\SqL K H p xs/\atI xs i=some v/\Q v H
def ZmM(K:PySem.W.Frag):R2:=fun x y H Q=>∃p xs i v,x=.ref p/\y=.int i/\SqT K H p xs/\atI xs i=some v/\Q v H
def Znb:R2:=fun x y H Q=>∃z i c,x=.str z/\y=.int i/\z.length<=sizeLine/\atI z.cps.toList i=some c/\Q (.str ⟨#[c]⟩) H
theorem Z3:IxR X (ZmJ X.K):=by
 intro value slice pins s σ H x y v u Q I rx ry h hs;obtain⟨p,xs,i,z,rfl,rfl,hq,he,q⟩:=h;cases rx;obtain⟨t,rfl⟩:=ry;obtain⟨its,r,pl,hz⟩:=I.list hq;obtain⟨j,h1,h2,h3,h4,h5⟩:=ZfW he;obtain⟨w,ew,rw'⟩:=r.get h2;have hl:=r.length;have hn:=Zd7;have fin:EP X pins σ Q w s:=⟨z,H,I,rw',q⟩;by_cases h0:0<=i
 ·have hj:i.toNat=j:=by
   rw[seqIndex_of h0 h5] at h1;exact Option.some.inj h1
  exact item_listR pl.isList h0 (by lia) (by rw[hj];simpa using ew) fin hs
 ·have hj:(i+(its.toArray.size:Int)).toNat=j:=by
   rw[seqIndex_neg (by lia) h4] at h1;rw[List.size_toArray,<- hl];exact Option.some.inj h1
  exact subscriptTail_builtinR (x:=w) pl.isList.typeIs slot_list_getitem.lookup
   (wpAny_getItem_list_neg (Q:=fun r s'=>r=w/\EP X pins σ Q r s') pl.isList (by lia) (by rw[List.size_toArray] <;> lia) (by lia) (by rw[hj];simpa using ew) ⟨rfl,fin⟩) hs
theorem ZQ:IxR X (ZmM X.K):=by
 intro value slice pins s σ H x y v u Q I rx ry h hs;obtain⟨p,xs,i,z,rfl,rfl,hq,he,q⟩:=h;cases rx;obtain⟨t,rfl⟩:=ry;obtain⟨its,r,pl,hz⟩:=I.tuple hq;obtain⟨j,h1,h2,h3,h4,h5⟩:=ZfW he;obtain⟨w,ew,rw'⟩:=r.get h2;have hl:=r.length;have hn:=Zd7;have fin:EP X pins σ Q w s:=⟨z,H,I,rw',q⟩;exact subscriptTail_builtinR (x:=w) pl.typeIs slot_tuple_getitem.lookup
  (getItem_tuple (j:=j) (Q:=fun r s'=>r=w/\EP X pins σ Q r s') pl (by lia) (by lia) (by rw[List.size_toArray,<- hl];exact h1) (by simpa using ew) ⟨rfl,fin⟩) hs
theorem Zka:IxR X Znb:=by
 intro value slice pins s σ H x y v u Q I rx ry h hs;obtain⟨z,i,c,rfl,rfl,hz,he,q⟩:=h;obtain⟨t,rfl⟩:=rx;obtain⟨t',rfl⟩:=ry;obtain⟨j,h1,h2,h3,h4,h5⟩:=ZfW he;have hl:z.cps.toList.length=z.length:=by simp[Str.length]
 rw[hl] at h1 h4 h5;have hn:=Zd7;exact tail_any (typeIs_str s z t) slot_str_getitem.lookup (getItem_str (c:=c) (by
  have e1:decide (i < -(2 ^ 63:Int))=false:=decide_eq_false (by lia);have e2:decide (i>=2 ^ 63)=false:=decide_eq_false (by lia);rw[e1,e2,Bool.or_false]) (by rw[h1];simpa using h2) ⟨.str ⟨#[c]⟩,H,I.tok _,⟨_,rfl⟩,q⟩) hs
theorem Zhx(its:List Value)(n j:Nat)(u:Value):Obj.mapSeq (·.setIfInBounds j u) { cls:=.type "list",data:=.seq its.toArray n }= { cls:=.type "list",data:=.seq (its.set j u).toArray n }:=by
 simp[Obj.mapSeq]
theorem Inv.lst{pins:List (Addr×Obj)}{σ : St}{H:Hp}{s:Shared}{p:Addr}{xs:List V}(I:Inv X pins σ H s)(h:H p=some (.lst xs)) :
  ∃(its:List Value)(n:Nat),Vals xs its/\s.heap.get? p=some { cls:=.type "list",data:=.seq its.toArray n }/\xs.length<=sizeLine:=by
 obtain⟨z,its,n,r,e⟩:=I.hok p _ h;exact⟨its,n,r,e,z⟩
theorem Inv.lstUpd{pins:List (Addr×Obj)}{σ : St}{H:Hp}{s:Shared}{p:Addr}{xs ys:List V}{its its':List Value}{n n':Nat}{f:Obj->Obj}(I:Inv X pins σ H s)(h:H p=some (.lst xs))
  (ho:s.heap.get? p=some { cls:=.type "list",data:=.seq its.toArray n }) (hf:f { cls:=.type "list",data:=.seq its.toArray n }= { cls:=.type "list",data:=.seq its'.toArray n' }) (r:Vals ys its') (hz:ys.length<=sizeLine) (t:Nat) :
  Inv X pins σ (upd H p (.lst ys)) { s with heap:=s.heap.update p f,toks:=t }:=by
 have e:(s.heap.update p f).get? p=some { cls:=.type "list",data:=.seq its'.toArray n' }:=by
  rw[Heap.get?_update_self f ho (by rw[hf] <;> rfl),hf]
 refine I.write (x:=p) (e:=p) (by rw[h];trivial) (.inl rfl) (fun b u hb q=>(Heap.get?_update_other _ _ (Ne.symm hb)).trans q) ⟨_,e⟩ ?_;exact⟨hz,its',n',r,e⟩
def Zl0:V->V->V->Hp->(Hp->Prop)->Prop:=fun o i v H Q=>∃p xs k j,o=.ref p/\i=.int k/\H p=some (.lst xs)/\ixN xs.length k=some j/\Q (upd H p (.lst (xs.set j v)))
theorem set_list:ZmH X Zl0:=by
 intro pins s σ H o i v ov iv u Q I ro ri rv h;obtain⟨p,xs,k,j,rfl,rfl,hp,hj,q⟩:=h;cases ro;obtain⟨t,rfl⟩:=ri;obtain⟨its,n,r,ho,hz⟩:=I.lst hp;obtain⟨h1,h2,h3,h4⟩:=Zif hj;have hl:=r.length;have hn:=Zd7;have I':Inv X pins σ (upd H p (.lst (xs.set j v))) { s with heap:=s.heap.update p (Obj.mapSeq (·.setIfInBounds j u)) } :=
  I.lstUpd hp ho (Zhx its n j u) (r.set rv j) (by rw[List.length_set];exact hz) s.toks
 by_cases h0:0<=k
 ·have hk:k.toNat=j:=by
   rw[seqIndex_of h0 h4] at h1;exact Option.some.inj h1
  exact PySem.W.ki_setAt ho h0 (by lia) (by rw[List.size_toArray,<- hl];exact h4) (by rw[hk];exact⟨_,I',q⟩)
 ·have hk:(k+(its.toArray.size:Int)).toNat=j:=by
   rw[seqIndex_neg (by lia) h3] at h1;rw[List.size_toArray,<- hl];exact Option.some.inj h1
  exact PySem.W.ki_setBack ho (by lia) (by rw[List.size_toArray,<- hl];exact h3) (by lia) (by rw[hk];exact⟨_,I',q⟩)
theorem Zfk(lo hi:Option Int)(n:Nat):(sliceBounds lo hi none n).1=((HT.sIx n 0 lo:Nat):Int)/\(sliceBounds lo hi none n).2.1=((HT.sIx n n hi:Nat):Int)/\(sliceBounds lo hi none n).2.2=1:=by
 refine⟨?_,?_,rfl⟩
 ·cases lo with
  | none=>simp[sliceBounds,HT.sIx]
  | some i =>
   simp only[sliceBounds,HT.sIx,Option.getD_none,show(1:Int) > 0 by decide,if_true];by_cases h:i<0
   ·simp only[h,if_true] <;> lia
   ·simp only[h,if_false] <;> lia
 ·cases hi with
  | none=>simp[sliceBounds,HT.sIx]
  | some i =>
   simp only[sliceBounds,HT.sIx,Option.getD_none,show(1:Int) > 0 by decide,if_true];by_cases h:i<0
   ·simp only[h,if_true] <;> lia
   ·simp only[h,if_false] <;> lia
theorem Zet(its:List Value)(lo hi:Option Int):slicePick its.toArray lo hi none=((its.drop (HT.sIx its.length 0 lo)).take (HT.sIx its.length its.length hi-HT.sIx its.length 0 lo)).toArray:=by
 obtain⟨h1,h2,h3⟩:=Zfk lo hi its.toArray.size;unfold slicePick;rw[h1,h2,h3];simp only[sliceRange_one,pick_run,List.size_toArray] <;> rfl
def ZmY(K:PySem.W.Frag):V->Option Int->Option Int->Hp->VK->Prop:=fun x lo hi H Q=>∃a xs,x=.ref a/\SqL K H a xs/\∀p,H p=none->Q (.ref p) (upd H p (.lst (ZdU xs lo hi)))
theorem ZiJ:SlR X (ZmY X.K):=by
 intro pins s σ H x v vl vu lo hi sl Q I rx hs pl pu h;obtain⟨a,xs,rfl,hx,q⟩:=h;cases rx;obtain⟨its,r,ht,hz⟩:=I.list hx;have hlen:=r.length;refine⟨"list",_,slot_list_getitem.lookup,ht.isList.typeIs,?_⟩;refine wpAny_getItem_list_slice ht.isList hs pl pu .none (by simp) ?_ (by rw[List.size_toArray] <;> lia)
 rw[Zet,<- hlen];refine⟨.ref s.heap.objs.size,_,I.laid (t':=s.toks) (o:=.lst (ZdU xs lo hi)) (fun b ob q=>Heap.get?_push_of_some _ q) (Nat.le_refl _) ?_,rfl,q _ (I.hok.fresh (Nat.le_refl _))⟩;exact⟨Nat.le_trans (Zdr xs lo hi) hz,_,0,(r.drop (HT.sIx xs.length 0 lo)).take (HT.sIx xs.length xs.length hi-HT.sIx xs.length 0 lo),Heap.get?_push_size _ rfl⟩
theorem Zba:ZcR X (.builtin "len") (fun xs H Q=>∃p ys,xs=[.ref p]/\(SqL X.K H p ys\/SqT X.K H p ys)/\Q (.int ys.length) H):=by
 intro pins s σ H xs us Q I r h;obtain⟨p,ys,rfl,hq,q⟩:=h;obtain⟨u,rfl,rx⟩:=vals1 r;cases rx;have hn:=Zd7;rcases hq with hq|hq
 ·obtain⟨its,r',pl,hz⟩:=I.list hq;have hlen:=r'.length;exact Calls.call_len_list pl.isList (by simp only[List.size_toArray] <;> lia) ⟨.int ys.length,H,I.tok _,⟨s.toks+1,by rw[List.size_toArray,hlen]⟩,q⟩
 ·obtain⟨its,r',pl,hz⟩:=I.tuple hq;have hlen:=r'.length;exact len_tuple pl (by simp only[List.size_toArray] <;> lia) ⟨.int ys.length,H,I.tok _,⟨s.toks+1,by rw[List.size_toArray,hlen]⟩,q⟩
theorem Zfl:ZcR X (.type "list") (fun xs H Q=>∃p ys,xs=[.ref p]/\(SqL X.K H p ys\/SqT X.K H p ys)/\∀l,H l=none->Q (.ref l) (upd H l (.lst ys))):=by
 intro pins s σ H xs us Q I r h;obtain⟨p,ys,rfl,hq,q⟩:=h;obtain⟨u,rfl,rx⟩:=vals1 r;cases rx;have fin:∀(its:List Value),Vals ys its->ys.length<=sizeLine->∀(h':Heap)(c':Nat),(∀b o',s.heap.get? b=some o'->h'.get? b=some o') ->
   h'.get? s.heap.objs.size=some { cls:=.type "list",dict:=none,data:=.seq its.toArray c',slots :=#[] }->EP X pins σ Q (.ref s.heap.objs.size) { s with heap:=h' }:=fun its r' hz h' c' kp e =>
  ⟨.ref s.heap.objs.size,_,I.laid (t':=s.toks) kp (Nat.le_refl _) (show Zar X.prog X.w _ h' _ (.lst ys) from⟨hz,its,c',r',e⟩),rfl,q _ (I.hok.fresh (Nat.le_refl _))⟩
 rcases hq with hq|hq
 ·obtain⟨its,r',pl,hz⟩:=I.list hq;have hlen:=r'.length;obtain⟨o,ho,hc,n,hd⟩:=pl.isList;exact call_list_seq p (.inl rfl) ho hc hd (fun h' c' kp e=>fin its r' hz h' c' kp e) (by simp only[List.size_toArray] <;> lia)
 ·obtain⟨its,r',pl,hz⟩:=I.tuple hq;have hlen:=r'.length;obtain⟨o,ho,hc,n,hd⟩:=pl;exact call_list_seq p (.inr rfl) ho hc hd (fun h' c' kp e=>fin its r' hz h' c' kp e) (by simp only[List.size_toArray] <;> lia)
theorem ZaF:ZcR X (.type "tuple") (fun xs H Q=>∃p ys,xs=[.ref p]/\((SqL X.K H p ys/\∀l,H l=none->Q (.ref l) (upd H l (.tup ys)))\/(SqT X.K H p ys/\Q (.ref p) H))):=by
 intro pins s σ H xs us Q I r h;obtain⟨p,ys,rfl,h⟩:=h;obtain⟨u,rfl,rx⟩:=vals1 r;cases rx;rcases h with⟨hq,q⟩|⟨hq,q⟩
 ·obtain⟨its,r',pl,hz⟩:=I.list hq;have hlen:=r'.length;refine call_tuple_list pl.isList (fun h' kp=>?_) (by simp only[List.size_toArray] <;> lia)
  have I1:Inv X pins σ H { s with heap:=h' }:=I.kept (t':=s.toks) kp;have I2:Inv X pins σ (upd H h'.objs.size (.tup ys)) { s with heap:=h'.push { cls:=.type "tuple",data:=.seq its.toArray } } :=
   I1.laid (t':=s.toks) (fun b o e=>Heap.get?_push_of_some _ e) (Nat.le_refl _) (show Zar X.prog X.w _ _ _ (.tup ys) from⟨hz,its,r',IsTup.new _ _⟩)
  exact⟨.ref h'.objs.size,_,I2,rfl,q _ (I1.hok.fresh (Nat.le_refl _))⟩
 ·obtain⟨its,r',pl,hz⟩:=I.tuple hq;exact call_tuple_same pl ⟨.ref p,H,I,rfl,q⟩
def tyV(K:PySem.W.Frag)(T:String)(x:V)(H:Hp):Prop:=match x with
 | .str _=>T= "str"
 | .int _=>T= "int"
 | .ref p=>(T= "list" /\ ∃xs,SqL K H p xs)\/(T= "tuple" /\ ∃o,K.lookup p=some o/\o.cls=.type "tuple" /\ o.dict=none) \/
   (T= "dict" /\ ((∃kvs,H p=some (.dK kvs))\/∃kvs,H p=some (.dT kvs)))\/(T= "set" /\ ∃S n,H p=some (.set S n))
 | _=>False
theorem Zj6{pins:List (Addr×Obj)}{σ : St}{H:Hp}{s:Shared}{T:String}{x:V}{v:Value}(I:Inv X pins σ H s)(r:RelV x v)(ty:tyV X.K T x H) :
  s.TypeIs v T/\∀a,v=.ref a->∃ob,s.heap.get? a=some ob/\ob.dict=none:=by
 cases x with
 | str z =>
  obtain⟨t,rfl⟩:=r;cases (show T= "str" from ty);exact⟨typeIs_str s z t,fun _ e=>nomatch e⟩
 | int i =>
  obtain⟨t,rfl⟩:=r;cases (show T= "int" from ty);exact⟨typeIs_int s i t,fun _ e=>nomatch e⟩
 | ref p =>
  cases r;rcases ty with⟨rfl,xs,hq⟩|⟨rfl,o,hk,hc,hd⟩|⟨rfl,hk⟩|⟨rfl,S,n,hk⟩
  ·obtain⟨its,_,pl,_⟩:=I.list hq;refine⟨pl.isList.typeIs,fun a e=>?_⟩;cases e;obtain⟨o,n,e,c,hd,_⟩:=pl;exact⟨o,e,hd⟩
  ·refine⟨⟨o,I.kIn p o hk,hc⟩,fun a e=>?_⟩;cases e;exact⟨o,I.kIn _ o hk,hd⟩
  ·have z:∃o,s.heap.get? p=some o/\o.ExactDict:=by
    rcases hk with⟨kvs,hk⟩|⟨kvs,hk⟩
    ·obtain⟨_,_,_,_,o,_,_,e,ex,_⟩:=I.hok p _ hk;exact⟨o,e,ex⟩
    ·obtain⟨_,_,_,_,o,_,_,e,ex,_⟩:=I.hok p _ hk;exact⟨o,e,ex⟩
   obtain⟨o,e,ex⟩:=z;refine⟨⟨o,e,ex.1⟩,fun a e2=>?_⟩;cases e2;exact⟨o,e,ex.2.1⟩
  ·obtain⟨o,_,_,_,e,ex,_⟩:=I.hok p _ hk;refine⟨⟨o,e,ex.1⟩,fun a e2=>?_⟩;cases e2;exact⟨o,e,ex.2.1⟩
 | _=>exact False.elim ty
def ZmP(K:PySem.W.Frag)(T:String)(r:V->List V->Hp->VK->Prop)(to:TE):TE:=fun σ H Q=>to σ H fun x H1=>tyV K T x H1/\r x [] H1 Q
def tBM(K:PySem.W.Frag)(T:String)(r:V->List V->Hp->VK->Prop)(to:TE)(t:TA):TE:=fun σ H Q=>to σ H fun x H1=>tyV K T x H1/\t σ H1 fun xs H2=>r x xs H2 Q
variable{o e:Expr}{es:List Expr}{to:TE}{t:TA}{name:Str}{apos cpos:Pos}{T id:String}{r:V->List V->Hp->VK->Prop}
theorem ZbX(pa:PlainAttrs T)(slot:Slot T name id)(hty:typeOf (.builtin id)=pure (.type "method_descriptor")) (hm:MtR X id r) (ho:PE X o to)
  (hbase:attributeBase o name X.env (eval o X.env)=eval o X.env:=by rfl) (hline:(apos.endLine == cpos.line)=true:=by rfl):PE X (.Call (.Attribute o name apos) [] [] cpos) (ZmP X.K T r to):=by
 intro pins s σ H Q I h;refine wpAny_Call_method0_late hbase hline (thn (ho pins s σ H _ I h) fun v s1 ⟨x,H1,I1,r1,ty,q1⟩=>?_);obtain⟨h1,h2⟩:=Zj6 I1 r1 ty;exact⟨T,id,pa,slot,hty,h1,h2,Calls.callWith_builtin rfl (PySem.evalArgs_none (hm pins s1 σ H1 x [] v [] Q I1 r1 .nil q1))⟩
theorem Zbe(pa:PlainAttrs T)(slot:Slot T name id)(hty:typeOf (.builtin id)=pure (.type "method_descriptor")) (hm:MtR X id r) (ho:PE X o to) (ha:PA X (e::es) t)
  (hbase:attributeBase o name X.env (eval o X.env)=eval o X.env:=by rfl)
  (hfew:((backTo cpos (starEach (e::es) X.env)).all (fun x=>!x.1)&&(backToKw cpos (keywordEach [] X.env)).all (fun x=>x.1.isSome)
   && decide ((e::es).length+([]:List Keyword).length+(if([]:List Keyword).isEmpty then 0 else 1)<30))=true:=by rfl)
  (hline:(apos.endLine == cpos.line)=true:=by rfl) (hs:starEach (e::es) X.env=(false,eval e X.env)::starEach es X.env:=by rfl) (hplain:(backTo cpos (starEach es X.env)).any (·.1)=false:=by rfl) :
  PE X (.Call (.Attribute o name apos) (e::es) [] cpos) (tBM X.K T r to t):=by
 intro pins s σ H Q I h;refine wpAny_Call_method_late hbase hfew hline rfl (thn (ho pins s σ H _ I h) fun v s1 ⟨x,H1,I1,r1,ty,q1⟩=>?_);obtain⟨h1,h2⟩:=Zj6 I1 r1 ty;refine⟨T,id,pa,slot,hty,h1,h2,?_⟩;have hA:=ha cpos pins s1 σ H1 _ I1 q1;rw[hs] at hA ⊢;refine Calls.callWith_builtin (by show(false || (backTo cpos (starEach es X.env)).any (·.1))=false;rw[hplain] <;> rfl) (Calls.evalArgs_plain ?_)
 exact thn hA fun us s2 ⟨vs,H2,I2,r2,q2⟩=>hm pins s2 σ H2 x vs v us Q I2 r1 r2 q2
/- xs.append(e),list.index on a module's tuple .. are MtR facts of 06m -/
end
def MtM(X:Cx)(id:String)(r:V->List V->Hp->VK->Prop):Prop :=
 ∀(pins:List (Addr×Obj))(s:Shared)(σ : St)(H:Hp)(x:V)(xs:List V)(v:Value)(us:List Value)(Q:VK),Inv X pins σ H s->RelV x v->Vals xs us->r x xs H Q ->
  wpAny (model X.prog X.w) X.A (call (.builtin id) (v::us)) (EP X pins σ Q) X.xe s
theorem Vals.one:∀{x:V}{us:List Value},Vals [x] us->∃u,us=[u]/\RelV x u
 | _,_,.cons r .nil=>⟨_,rfl,r⟩
theorem Vals.two:∀{x y:V}{us:List Value},Vals [x,y] us->∃u v,us=[u,v]/\RelV x u/\RelV y v
 | _,_,_,.cons r (.cons q .nil)=>⟨_,_,rfl,r,q⟩
theorem Vals.zero:∀{us:List Value},Vals [] us->us=[]
 | _,.nil=>rfl
theorem Vals.dropLast{xs:List V}{us:List Value}(h:Vals xs us):Vals xs.dropLast us.dropLast:=by
 induction h with
 | nil=>exact .nil
 | cons r t ih =>
  cases t with
  | nil=>exact .nil
  | cons q t'=>exact .cons r ih
theorem Vals.reverse{xs:List V}{us:List Value}(h:Vals xs us):Vals xs.reverse us.reverse:=by
 induction h with
 | nil=>exact .nil
 | cons r t ih=>rw[List.reverse_cons,List.reverse_cons];exact Vals.append ih (.cons r .nil)
theorem Vals.rep{xs:List V}{us:List Value}(h:Vals xs us):∀k:Nat,Vals (List.replicate k xs).flatten (List.replicate k us).flatten
 | 0=>.nil
 | k+1=>by
  rw[List.replicate_succ,List.replicate_succ,List.flatten_cons,List.flatten_cons];exact Vals.append h (Vals.rep h k)
theorem Zhz{α : Type}(l:List α):l.eraseIdx (l.length-1)=l.dropLast:=by
 induction l with
 | nil=>rfl
 | cons a r ih =>
  cases r with
  | nil=>rfl
  | cons b r =>
   have e:(a::b::r).length-1=((b::r).length-1)+1:=by
    have h1:(a::b::r).length=r.length+2:=rfl;have h2:(b::r).length=r.length+1:=rfl;lia
   rw[e,List.eraseIdx_cons_succ,ih]
   all_goals rfl
theorem foldl_rep(its:List Value):∀(k:Nat)(acc:List Value),
  List.foldl (fun x1 x2=>x1++x2) acc.toArray (List.replicate k its.toArray)=(acc++(List.replicate k its).flatten).toArray
 | 0,acc=>by simp
 | k+1,acc=>by
  have e:acc.toArray++its.toArray=(acc++its).toArray:=by simp
  have e2:(acc++its)++(List.replicate k its).flatten=acc++(List.replicate (k+1) its).flatten:=by
   rw[List.replicate_succ,List.flatten_cons,List.append_assoc]
  rw[<- e2,<- foldl_rep its k (acc++its),<- e,List.replicate_succ,List.foldl_cons]
section
variable{X:Cx}{pins:List (Addr×Obj)}{σ : St}{H:Hp}{s:Shared}{l b:Addr}{xs ys zs:List V}
theorem Inv.lset{its its':List Value}{n:Nat}{f:Array Value->Array Value}{t':Nat}(I:Inv X pins σ H s)(hH:H l=some (.lst xs))
  (e:s.heap.get? l=some { cls:=.type "list",data:=.seq its.toArray n }) (hf:f its.toArray=its'.toArray) (hv:Vals ys its') (hz:ys.length<=sizeLine) :
  Inv X pins σ (upd H l (.lst ys)) { s with heap:=s.heap.update l (Obj.mapSeq f),toks:=t' }:=by
 have q:=PySem.IsL.update e f;rw[hf] at q;refine I.write (x:=l) (e:=l) (by rw[hH];exact trivial) (.inl rfl) (fun b' u hb hu=>(Heap.get?_update_other s.heap (Obj.mapSeq f) (Ne.symm hb)).trans hu) ⟨_,q⟩ ?_;exact⟨hz,its',_,hv,q⟩
theorem Inv.lnew{its:List Value}{t':Nat}(I:Inv X pins σ H s)(hv:Vals ys its)(hz:ys.length<=sizeLine) :
  Inv X pins σ (upd H s.heap.objs.size (.lst ys)) { s with heap:=s.heap.push { cls:=.type "list",data:=.seq its.toArray },toks:=t' } :=
 I.laid (fun _ _ q=>Heap.get?_push_of_some _ q) (Nat.le_refl _) ⟨hz,its,0,hv,Heap.get?_push_size _ rfl⟩
theorem Inv.fresh(I:Inv X pins σ H s):H s.heap.objs.size=none:=I.hok.fresh (Nat.le_refl _)
theorem Inv.lstM(I:Inv X pins σ H s)(hH:H l=some (.lst xs)):xs.length<=sizeLine/\∃(its:List Value)(n:Nat),Vals xs its/\xs.length=its.length/\s.heap.get? l=some { cls:=.type "list",data:=.seq its.toArray n }:=by
 obtain⟨z,its,n,r,e⟩:=I.hok l _ hH;exact⟨z,its,n,r,r.length,e⟩
theorem ZeN{n:Nat}(h:n<=sizeLine):Builtin.List.listTooLong n=false:=by
 unfold Builtin.List.listTooLong;exact decide_eq_false (by lia)
end
section
variable{X:Cx}
def ZkR:V->List V->Hp->VK->Prop:=fun x vs H Q=>∃l xs y,x=.ref l/\vs=[y]/\H l=some (.lst xs)/\xs.length<sizeLine/\Q .non (upd H l (.lst (xs ++ [y])))
theorem ZD:MtM X "list.append" ZkR:=by
 intro pins s σ H x vs v us Q I rx rv h;obtain⟨l,xs,y,rfl,rfl,hH,hz,q⟩:=h;cases rx;obtain⟨u,rfl,ru⟩:=rv.one;obtain⟨z,its,n,r,hl,e⟩:=I.lstM hH;refine call_meets F.slot_list_append ⟨_,e,rfl⟩ F.entry_list_append (F.args_list_append_2 _ _) (PySem.list_append l its.toArray n u (by rw[List.size_toArray];lia)) ⟨e,?_⟩;refine⟨.non,_,I.lset (its':=its ++ [u]) hH e (by simp) (r.append (.cons ru .nil)) ?_,rfl,q⟩;rw[List.length_append,List.length_singleton];lia
def Zih:V->List V->Hp->VK->Prop:=fun x vs H Q=>∃l b xs zs,x=.ref l/\vs=[.ref b]/\H l=some (.lst xs)/\H b=some (.lst zs)/\xs.length+zs.length<=sizeLine/\Q .non (upd H l (.lst (xs++zs)))
theorem ZdS:MtM X "list.extend" Zih:=by
 intro pins s σ H x vs v us Q I rx rv h;obtain⟨l,b,xs,zs,rfl,rfl,hH,hB,hz,q⟩:=h;cases rx;obtain⟨u,rfl,ru⟩:=rv.one;cases ru;obtain⟨z,its,n,r,hl,e⟩:=I.lstM hH;obtain⟨z2,its2,n2,r2,hl2,e2⟩:=I.lstM hB;have hsz:its.toArray.size+its2.toArray.size<=sizeLine:=by rw[List.size_toArray,List.size_toArray];lia
 have hlong : ¬ (!its.toArray.isEmpty&&Builtin.List.listTooLong (its.toArray.size+its2.toArray.size))=true:=by
  rw[ZeN hsz,Bool.and_false];exact Bool.false_ne_true
 refine call_meets F.slot_list_extend ⟨_,e,rfl⟩ F.entry_list_extend (F.args_list_extend_2 _ _)
  (AutoSeq1.list_extend_list_list_0 l its.toArray n b its2.toArray n2 hlong (by rw[List.size_toArray];lia) (by lia)) ⟨e,e2,?_⟩
 refine⟨.non,_,I.lset (its':=its++its2) hH e (by simp) (r.append r2) ?_,rfl,q⟩;rw[List.length_append];lia
def Znc:V->List V->Hp->VK->Prop:=fun x vs H Q=>∃l xs y,x=.ref l/\vs=[]/\H l=some (.lst xs)/\xs[xs.length-1]?= some y/\Q y (upd H l (.lst xs.dropLast))
theorem Zb3:MtM X "list.pop" Znc:=by
 intro pins s σ H x vs v us Q I rx rv h;obtain⟨l,xs,y,rfl,rfl,hH,hy,q⟩:=h;cases rx;have hus:=rv.zero;subst hus;obtain⟨z,its,n,r,hl,e⟩:=I.lstM hH;obtain⟨u,hu,ru⟩:=r.get hy;have hy':its.toArray[its.toArray.size-1]?= some u:=by
  show its.toArray[its.length-1]?= some u;rw[<- Array.getElem?_toList,<- hl];exact hu
 refine call_meets F.slot_list_pop ⟨_,e,rfl⟩ F.entry_list_pop (F.args_list_pop_1 _) (MeetsSeq.list_pop_last l its.toArray n u hy' (by rw[List.size_toArray];lia)) ⟨e,?_⟩;refine⟨y,_,I.lset (its':=its.dropLast) hH e ?_ r.dropLast ?_,ru,q⟩
 ·show its.toArray.eraseIdxIfInBounds (its.toArray.size-1)=its.dropLast.toArray;rw[List.size_toArray,List.eraseIdxIfInBounds_toArray,Zhz]
 ·rw[List.length_dropLast];lia
def ZmW:R2:=fun x y H Q=>∃l b xs zs,x=.ref l/\y=.ref b/\H l=some (.lst xs)/\H b=some (.lst zs)/\xs.length+zs.length<=sizeLine/\∀p,H p=none->Q (.ref p) (upd H p (.lst (xs++zs)))
theorem Zlw:OpR X (binaryOp .Add) ZmW:=by
 intro pins s σ H x y v u Q I rx ry h;obtain⟨l,b,xs,zs,rfl,rfl,hH,hB,hz,q⟩:=h;cases rx;cases ry;obtain⟨z,its,n,r,hl,e⟩:=I.lstM hH;obtain⟨z2,its2,n2,r2,hl2,e2⟩:=I.lstM hB;refine PySem.P.add_list e e2 ?_ (by rw[List.size_toArray,List.size_toArray];lia);have ea:its.toArray++its2.toArray=(its++its2).toArray:=by simp
 rw[ea];exact⟨.ref _,_,I.lnew (t':=s.toks) (r.append r2) (by rw[List.length_append];lia),rfl,q _ I.fresh⟩
def ZmO:R2:=fun x y H Q=>∃l k xs,x=.ref l/\y=.int k/\H l=some (.lst xs) /\ -(2 ^ 63)<=k/\k<2 ^ 63/\xs.length*k.toNat<=sizeLine /\
 ∀p,H p=none->Q (.ref p) (upd H p (.lst (List.replicate k.toNat xs).flatten))
theorem len_rep{α : Type}(xs:List α)(k:Nat):(List.replicate k xs).flatten.length=k*xs.length:=by
 induction k with
 | zero=>simp
 | succ k ih=>rw[List.replicate_succ,List.flatten_cons,List.length_append,ih,Nat.succ_mul,Nat.add_comm]
theorem Zfd:OpR X (binaryOp .Mult) ZmO:=by
 intro pins s σ H x y v u Q I rx ry h;obtain⟨l,k,xs,rfl,rfl,hH,h1,h2,hz,q⟩:=h;cases rx;obtain⟨t,rfl⟩:=ry;obtain⟨z,its,n,r,hl,e⟩:=I.lstM hH;have hlen:its.toArray.size*k.toNat<=sizeLine:=by rw[List.size_toArray,<- hl];exact hz
 have hcap : ¬ its.toArray.size*k.toNat > (2 ^ 63-1) / 8:=by
  have:(sizeLine:Nat)<=(2 ^ 63-1) / 8:=by decide
  lia
 have hfit : ¬ (!Builtin.List.listFitsIndex k)=true:=by
  rw[fitsIndex_both h1 h2];exact Bool.false_ne_true
 have hlong : ¬ Builtin.List.listTooLong (its.toArray.size*k.toNat)=true:=by
  rw[ZeN hlen];exact Bool.false_ne_true
 have hnew:List.foldl (fun x1 x2=>x1++x2) #[] (List.replicate (if its.toArray.isEmpty=true then 0 else k.toNat) its.toArray)=(List.replicate k.toNat its).flatten.toArray:=by
  have f0:∀m:Nat,List.foldl (fun x1 x2=>x1++x2) #[] (List.replicate m its.toArray)=(List.replicate m its).flatten.toArray:=fun m=>by
   have:=foldl_rep its m [];rw[List.nil_append] at this;exact this
  rw[f0];cases its with
  | nil=>simp
  | cons a r'=>rw[if_neg (by simp)]
 refine wpAny_binaryOp_repeat_ref (T := "list") (U := "int") (by decide) ⟨_,e,rfl⟩ (fun s'=>typeIs_int s' k t) noFill_list_mul F.fills_int_mul F.slot_int_rmul repeat_list F.slot_int_index.lookup
  (call_meets F.slot_int_rmul (typeIs_int s k t) F.entry_int_rmul (F.args_int_rmul_2 _ _) (int___rmul___int_list k t l its.toArray n)
   ⟨e,rfl,⟨_,e,rfl⟩,call_meets F.slot_list_mul ⟨_,e,rfl⟩ F.entry_list_mul (F.args_list_mul_2 _ _) (AutoListH.list___mul___list_int_3 l its.toArray n k t hfit hcap hlong) ⟨e,?_⟩⟩)
 rw[hnew];exact⟨.ref _,_,I.lnew (t':=s.toks) (r.rep k.toNat) (by rw[len_rep,Nat.mul_comm];exact hz),rfl,q _ I.fresh⟩
end
end L2
namespace Att
open PySem PySem.W PySem.Calls PyProof.Rows
theorem ZdN{P:Params}{h:Heap}:∀(ns:List Int)(vs:List Value),WellAll P h vs (ns.map WData.int)->IntsAre vs ns:=by
 intro ns
 induction ns with
 | nil =>
  intro vs w;rw[List.map_nil] at w;cases w;exact .nil
 | cons n ns ih =>
  intro vs w;rw[List.map_cons] at w;cases w with
  | cons a b =>
   cases a;exact .cons _ _ (ih _ b)
theorem ZhN{l:OpenLaw}{n:Nat}(hn:l.most=some n){P:Params}{h:Heap}{args:List WData}{vals:List Value}
  (hpre:l.row.toRowW.claim.pre args=true) (hwl:WellAll P h vals args) :
  ∃a vs ns,vals=[Value.ref a]/\args=[WData.list (ns.map WData.int)]/\h.get? a=some { cls:=.type "list",data:=.seq vs.toArray }/\IntsAre vs ns/\ns.length<=n:=by
 have hsh:WShape.hasAll [] args [.list .int]=true:=(pre_splitW hpre).1;have hc:l.pre.holds [] { args:=args }=true:=(pre_splitW hpre).2;obtain⟨d,r,rfl,h1,h2⟩:=hasAllW_cons hsh;obtain rfl:=hasAllW_nil h2;obtain⟨xs,rfl,h3⟩:=hasW_list h1;obtain⟨ns,rfl⟩:=items_int h3;have hlen:ns.length<=n:=by
  unfold OpenLaw.pre at hc;have h4:(WTm.not (.lt (.lit (.int (n:Int))) (.len (.arg 0)))).holds [] { args:=[.list (ns.map .int)] }=true:=by
   have h4:=(holds_andW hc).1;rw[hn] at h4;exact h4
  have h5:=condW_of h4 (w_not (w_lt w_lit (w_len_list (w_arg rfl))));rw[List.length_map] at h5;refine Nat.le_of_not_lt fun q=>?_;have q':(n:Int)<((ns.length:Nat):Int):=by lia
  first
   | (rw[decide_eq_true q'] at h5;exact absurd h5 (by decide))
   | (simp at h5;lia)
 cases hwl with
 | cons w1 w2 =>
  cases w2;cases w1 with
  | list ho hall=>exact⟨_,_,ns,rfl,rfl,ho,ZdN ns _ hall,hlen⟩
theorem ZiD(l:OpenLaw)(args:List WData):l.row.toRowW.claim.post args (.bool true) args=true :=
 postW_of (r:=l.row.toRowW) (X:=(true == true))
  (show WShape.has [] (.bool true) .bool=true by first|rfl|decide|simp[WShape.has,WShape.arms,WShape.armsAll])
  (show(WTm.eq .res (.lit (.bool true))).value [] { args:=args,res:=some (.bool true),after:=args }=some (.bool (true == true)) from w_eq_bool (w_res rfl) w_lit) rfl
theorem Zgd{l:OpenLaw}{n:Nat}{q:Program}{loose:List Str}{XP:(Str->Option Value)->Heap->Prop}{YP:World->Heap->Prop}{d:DefRec}
  (hn:l.most=some n) (hdf:d.params.defaults=[])
  (call:∀(w:World)(s₀ s₁ : Shared)(mg mb:Str->Option Value)(fa:Addr)(o:Obj)(pm cd doc:Value)(a:Addr)(vs:List Value)(ns:List Int),
   Ground q loose [] XP w s₀ mg mb s₁.heap->YP w s₁.heap ->
   s₁.heap.get? fa=some o->o.data=.func (docDef d.name d.params d.body d.scope pm cd doc)->s₁.heap.CodeRec cd d.name->mg d.name=some (.ref fa) ->
   s₁.heap.get? a=some { cls:=.type "list",data:=.seq vs.toArray }->IntsAre vs ns->ns.length<=n->s₁.gens=#[] ->
   codeAny (model l.prog w) callerA (.call (.ref fa) ⟨[.ref a],[]⟩) (fun r s'=>r=.ok (.ret (.bool true))/\OldK s₁.heap s'.heap/\s'.os=s₁.os/\AllBare s'.gens) s₁) :
  WalkO q loose XP YP l.row.toRowW d [] (fun f vs=>PySem.call f vs):=by
 intro w s₀ s₁ mg mb G Y fa o pm cd doc dV kV ho hd hcd hD hmg hg args vals as hpre hlay hrd hwl hlo;obtain rfl:dV=.none:=Dflts.none hD hdf;obtain rfl:kV=.none:=Dflts.noKw hD;obtain⟨a,vs,ns,rfl,rfl,hobj,hints,hlen⟩:=ZhN hn hpre hwl;refine enter_call (codeAny_mono (call w s₀ s₁ mg mb fa o pm cd doc a vs ns G Y ho (fd_plain hd) hcd hmg hobj hints hlen hg) fun r s' hq=>?_);obtain⟨rfl,h2,h3,h4⟩:=hq;exact⟨.inl ⟨.bool true,.bool true,[],rfl,fun _=>rfl,.bool true,ZiD l _,fun _=>⟨List.Pairwise.nil,fun _ hm=>(nomatch hm)⟩⟩,h2,h3,h4⟩
end Att
namespace L2
open PySem PySem.Spec PyProof.Rows
theorem ZfE:∀{vs:List Value}{ns:List Int},IntsAre vs ns->Vals (ns.map V.int) vs
 | _,_,.nil=>.nil
 | _,_,.cons n t h=>.cons ⟨t,rfl⟩ (ZfE h)
def Only(H:Hp):Prop := ∀b,H b=none\/∃o xs,H b=some (.frz o (.lst xs))
theorem Zjw{P:Program}{w:World}{K:PySem.W.Frag}{mg mb:Str->Option Value}{CX:CXT}{k:Nat}{fa a:Addr}{fd:FuncData}{x:Str}{sp:Sp}{s₁ : Shared}{vs:List Value}{ns:List Int}
  (KX:K.In s₁.heap) (hns:s₁.heap.Ns mainGlobals mg) (hb:s₁.heap.Ns builtinsNs mb) (hbb:∀x:Str,x ≠ "__name__" -> mb x=bootBuiltins x) (hlim:s₁.heap.NoLimit) (hg:s₁.gens=#[])
  (ha:s₁.heap.get? a=some { cls:=.type "list",data:=.seq vs.toArray }) (hi:IntsAre vs ns) (hl:ns.length<=sizeLine) (hr:Room k callerA)
  (F:∀base:Heap,K.In base->base.Ns mainGlobals mg->FnOk P w K mg base CX k fa fd [x] sp) (hbind:∀(s:Shared)(u:Value),BindsTo s fd ⟨[u],[]⟩ [(x,u)])
  (hsp:∀H:Hp,Only H->SqL K H a (ns.map V.int)->sp [.ref a] H (fun v _=>v=.bl true) fun _ _ _=>False)
  (hCX:∀H e s',CX [] H s₁ (fun _ _ _=>False) e s'->False) :
  codeAny (model P w) callerA (.call (.ref fa) ⟨[.ref a],[]⟩) (fun r s'=>r=.ok (.ret (.bool true))/\OldK s₁.heap s'.heap/\s'.os=s₁.os/\AllBare s'.gens) s₁ := by
 have rv:=ZfE hi;have lenV:=hi.length;have core:∀H:Hp,Only H->SqL K H a (ns.map V.int)->HOk P w H s₁.heap->(∀b,H b≠none->b=a)->(H a≠none->K.lookup a=none) ->
   codeAny (model P w) callerA (.call (.ref fa) ⟨[.ref a],[]⟩) (fun r s'=>r=.ok (.ret (.bool true))/\OldK s₁.heap s'.heap/\s'.os=s₁.os/\AllBare s'.gens) s₁ := by
  intro H hO hS hok hA hK;have base_of:∀{b:Addr}{o:Obj},s₁.heap.get? b=some o->H b=none->(ZjB s₁.heap H).get? b=some o:=fun e n=>Zjr e n;have noA:∀{b:Addr}{o:Obj}{es:Array DictEntry}{ep:Nat},s₁.heap.get? b=some o->o.data=.dict es ep->H b=none:=fun{b o es ep} e d=>by
   cases q:H b with
   | none=>rfl
   | some u =>
    have e':b=a:=hA b (by rw[q];simp);subst e';rw[ha] at e;cases e;have d':Data.seq vs.toArray _=Data.dict es ep:=d;cases d'
  have nsK:∀{b:Addr}{m:Str->Option Value},s₁.heap.Ns b m->(ZjB s₁.heap H).Ns b m:=fun{b m} ⟨o,es,ep,e,d,r⟩=>⟨o,es,ep,base_of e (noA e d),d,r⟩;have hKb:K.In (ZjB s₁.heap H):=fun b o e=>base_of (KX b o e) (by
   cases q:H b with
   | none=>rfl
   | some u =>
    have e':b=a:=hA b (by rw[q];simp);subst e';rw[hK (by rw[q];simp)] at e;cases e)
  have hM:Mod K mg (ZjB s₁.heap H):=⟨hKb,nsK hns,⟨mb,nsK hb,hbb⟩,let ⟨mc,h1,h2⟩:=hlim;⟨mc,nsK h1,h2⟩⟩;have e0:Env0 P w K mg (ZjB s₁.heap H) callerA [] s₁ H:=⟨rfl,hM,fun b o e=>Zkx e,Nat.le_of_eq (Zjk _ _),trivial,fun b hb=>absurd (show b∈([]:List Addr) from hb) (by simp),hok,.of_eq hg⟩;refine codeAny_mono ((F _ hKb (nsK hns)).run callerA [] s₁ H ⟨[.ref a],[]⟩ [.ref a] [.ref a] _ _ hr e0 (hbind s₁ (.ref a)) (.cons rfl .nil) (hsp H hO hS)) fun r s' h=>?_;cases r with
  | error e=>exact(hCX H e s' h).elim
  | ok fl =>
   cases fl with
   | next=>exact False.elim h
   | brk=>exact False.elim h
   | cont=>exact False.elim h
   | ret u =>
    obtain⟨v,H',os,bare,un,hok',r',q⟩:=h;have q':v=.bl true:=q;subst q';obtain rfl:u=Value.bool true:=r';refine⟨rfl,OldK.of_keep fun b o e=>?_,os,bare⟩;cases q:H b with
    | none=>exact un.keep b o e q (by intro z;exact absurd (show b∈([]:List Addr) from z) (by simp)) (by simp)
    | some u =>
     rcases hO b with z|⟨ob,xs,z⟩
     ·rw[q] at z;cases z
     ·have z2:=un.frzs b ob _ z;obtain⟨e1,_⟩:=hok b _ z;obtain⟨e2,_⟩:=hok' b _ z2;rw[e] at e1;cases e1;exact e2
 cases hk:K.lookup a with
 | some o =>
  have e:=KX a o hk;rw[ha] at e;cases e;refine core (fun _=>none) (fun _=>.inl rfl) (.inr ⟨_,vs.toArray,_,hk,rfl,rfl,rfl,by rw[List.size_toArray,lenV];exact hl,by simpa using rv⟩) (fun b u z=>by have z':(none:Option HO)=some u:=z;cases z') (fun b z=>absurd rfl z) fun z=>absurd rfl z
 | none =>
  refine core (fun b=>if b=a then some (.frz { cls:=.type "list",data:=.seq vs.toArray } (.lst (ns.map V.int))) else none) (fun b=>?_) (.inl (.inr ⟨{ cls:=.type "list",data:=.seq vs.toArray },if_pos rfl⟩)) (fun b u z=>?_) (fun b z=>?_) fun _=>hk
  ·by_cases hb:b=a
   ·exact .inr ⟨_,_,if_pos hb⟩
   ·exact .inl (if_neg hb)
  ·by_cases hb:b=a
   ·have z':=(if_pos hb).symm.trans z;cases z';subst hb;exact⟨ha,by rw[List.length_map];exact hl,vs,_,rv,ha⟩
   ·have z':=(if_neg hb).symm.trans z;cases z'
  ·by_cases hb:b=a
   ·exact hb
   ·exact absurd (if_neg hb) z
theorem Ziu{l:PySem.W.OpenLaw}{n k:Nat}{q:Program}{loose:List Str}{XP:(Str->Option Value)->Heap->Prop}{YP:World->Heap->Prop}{d:DefRec}{K:Params->PySem.W.Frag}{CX:World->CXT}{sp:World->Sp}{x:Str}
  (hn:l.most=some n) (hn2:n<=sizeLine) (hdf:d.params.defaults=[]) (hr:Room k callerA)
  (hY:∀(w:World)(h:Heap),YP w h->(K w.params).In h)
  (F:∀(w:World)(mg:Str->Option Value)(fa:Addr)(h:Heap),(K w.params).In h->h.Ns mainGlobals mg->mg d.name=some (.ref fa) ->
   ∃fd:FuncData,(∀(s:Shared)(u:Value),BindsTo s fd ⟨[u],[]⟩ [(x,u)]) /\
    ∀base:Heap,(K w.params).In base->base.Ns mainGlobals mg->FnOk l.prog w (K w.params) mg base (CX w) k fa fd [x] (sp w))
  (hsp:∀(w:World)(H:Hp)(a:Addr)(ns:List Int),ns.length<=n->Only H->SqL (K w.params) H a (ns.map V.int)->sp w [.ref a] H (fun v _=>v=.bl true) fun _ _ _=>False)
  (hCX:∀(w:World)(H:Hp)(s:Shared)(e:Value)(s':Shared),CX w [] H s (fun _ _ _=>False) e s'->False) :
  PySem.W.WalkO q loose XP YP l.row.toRowW d [] (fun f vs=>PySem.call f vs):=by
 refine Att.Zgd hn hdf fun w s₀ s₁ mg mb fa o pm cd doc a vs ns G Y ho hd hcd hmg hobj hints hlen hg=>?_;have KX:=hY w _ Y;obtain⟨fd,hb,hF⟩:=F w mg fa _ KX G.T.g hmg;exact Zjw KX G.T.g G.T.b G.T.builtins G.T.nolimit hg hobj hints (Nat.le_trans hlen hn2) hr hF hb (fun H hO hS=>hsp w H a ns hlen hO hS) fun H e s'=>hCX w H s₁ e s'
end L2
/- THE LAST THEOREM (shape;LID,My.* are yours):
   My.Adr: a structure of the addresses that your layer names (classes,functions);My.Txt K t: a structure (Prop) of the equations over K;
   My.txt_mk:{K} {implicit addresses ..} (e1:nsIn K mainGlobals "law" = some (some (.ref f))) (e2:K.lookup f=some ⟨oc,od,.func (fnOf "law" "law" params body scope dV kV doc pm an cdv ct),sl⟩) (e3:codeIn K cdv "law" = true) .. : ∃t,My.Txt K t
set_option maxRecDepth 100000 in
set_option maxHeartbeats 0 in
theorem PySem.Challenge.cw_LID_holds : PySem.Challenge.rw_LID.Holds := by
 w_on;o_law;k_head;(case hw=>w_witness2)
 k_fill
 refine L2.Ziu (l:=PySem.Challenge.rw_LID) (n:=63) (k:=40) (x := "script") (CX:=fun w=>..) (sp:=fun _=>My.sp_law) rfl (by decide) rfl ⟨rfl,by decide,by decide⟩ (fun w h Y=>PySem.W.kIn_of Y) ?F ?S ?C
 case F =>
  intro w mg fa h KX G hmg;have T:∃t,My.Txt (L2.KOf KX) t:=by
   dsimp only[L2.KOf]                          -- K must stand as «<heap const> w.params» for k_is
   refine' My.txt_mk ?e1 ?e2 ?e3 ..
   (case e1=>PySem.W.k_is)                    -- in the order: a name->its address->its object->its parts
   (case e2=>PySem.W.k_is)
   ..
  obtain⟨t,T⟩:=T;have e0:=hmg.symm.trans (PySem.W.mg_of KX G T.law);cases e0                                       -- fa is the law's own address
  exact⟨_,fun s u=>.of_eq rfl,fun base kb nb=>My.law_fn T kb nb⟩     -- if «.of_eq rfl» comes too early: refine' ⟨_,?b,fun base kb nb=>My.law_fn T kb nb⟩;exact fun s u=>.of_eq rfl
 case S=>exact fun w H a ns hl hO hS=>..
 case C=>exact ..
(the tactic k_is has no namespace: write k_is) -/
namespace L2
open PySem PySem.Spec PyProof.Rows
def inClass(s:Stmt)(j:Nat):Stmt:=match s with
 | .ClassDef _ _ _ body _ _ _ _ _ _ _=>body.getD j (.Pass ⟨0,0,0,0⟩)
 | _=>.Pass ⟨0,0,0,0⟩
def Zw(s:Stmt):Arguments:=match s with
 | .FunctionDef _ a _ _ _ _ _ _ _ _=>a
 | _=>{ posonlyargs:=[],args:=[],vararg:=none,kwonlyargs:=[],kw_defaults:=[],kwarg:=none,defaults:=[] }
def Ze(s:Stmt):List Stmt:=match s with
 | .FunctionDef _ _ b _ _ _ _ _ _ _=>b
 | _=>[]
def Zg(s:Stmt):Scope:=match s with
 | .FunctionDef _ _ _ _ _ _ sc _ _ _=>sc
 | _=>{ kind:=.function,names:=[],isGenerator:=false,isCoroutine:=false }
abbrev CX0:CXT:=fun _ _ _ _ _ _=>False
abbrev E0:XK:=fun _ _ _=>False
theorem Zkz{X:Cx}:Ze9 CX0 X E0:=fun _ _ _ _ _ _ _ h=>h.elim
structure Fun(K:PySem.W.Frag)(x qual:Str)(st:Stmt)(f:Addr)(fd:FuncData):Prop where
 ex:∃(oc:Value)(od:Option Addr)(kV doc pm:Value)(an:Option Addr)(cdv ct:Value)(osl:Array (Option Value)),
  fd=PySem.W.fnOf x qual (Zw st) (Ze st) (Zg st) .none kV doc pm an cdv ct/\K.lookup f=some ⟨oc,od,.func fd,osl⟩/\PySem.W.codeIn K cdv qual=true
 kp:PySem.W.keepIn K (.ref f)=true
section
variable{P:Program}{w:World}{K:PySem.W.Frag}{mg:Str->Option Value}{base:Heap}
theorem Fun.ok{x qual:Str}{st:Stmt}{f:Addr}{fd:FuncData}{N ps:List Str}{k:Nat}{sp:Sp}(F:Fun K x qual st f fd)(S:FnScope N ps (Zg st))(len:∀vs H Q E,sp vs H Q E->vs.length=ps.length)
  (hbody:∀(cdv:Value)(A:Around)(outer:List Env)(s:Shared)(H:Hp)(vs:List V)(Q:VK)(E:XK),Room k (A.deeper (envOfC qual (Zg st) s.heap.objs.size f cdv))->sp vs H Q E ->
   ∃t,PSs (Zjn CX0 P w K mg base N qual (Zg st) f cdv A outer s H E).nox (Ze st) t/\t { nx:=fun _ H'=>Q .non H',rt:=Q } (start N vs) H):FnOk P w K mg base CX0 (k+1) f fd ps sp:=by
 obtain⟨oc,od,kV,doc,pm,an,cdv,ct,osl,rfl,lk,hcd⟩:=F.ex;refine Zk2 lk hcd S len fun A outer s H vs Q E hr hsp=>?_;obtain⟨t,h,q⟩:=hbody cdv A outer s H vs Q E hr hsp;exact⟨t,h.nox,q⟩
theorem Fun.binds{x qual:Str}{st:Stmt}{f:Addr}{fd:FuncData}{ps:List Str}(F:Fun K x qual st f fd)
  (h:∀(kV doc pm:Value)(an:Option Addr)(cdv ct:Value)(us:List Value),us.length=ps.length->bindArgs (PySem.W.fnOf x qual (Zw st) (Ze st) (Zg st) .none kV doc pm an cdv ct) ⟨us,[]⟩=pure (ps.zip us)):Binds K fd ps []:=by
 obtain⟨oc,od,kV,doc,pm,an,cdv,ct,osl,rfl,lk,hcd⟩:=F.ex;exact .all (h kV doc pm an cdv ct)
theorem Z6{x qual:Str}{st:Stmt}{f:Addr}{oc:Value}{od an:Option Addr}{osl:Array (Option Value)}{kV doc pm cdv ct:Value}(l:K.lookup f=some ⟨oc,od,.func (PySem.W.fnOf x qual (Zw st) (Ze st) (Zg st) .none kV doc pm an cdv ct),osl⟩)
  (c:PySem.W.codeIn K cdv qual=true) (k:PySem.W.keepIn K (.ref f)=true):Fun K x qual st f (PySem.W.fnOf x qual (Zw st) (Ze st) (Zg st) .none kV doc pm an cdv ct):=⟨⟨oc,od,kV,doc,pm,an,cdv,ct,osl,rfl,l,c⟩,k⟩
end
section
variable{X:Cx}
theorem pv(i:Nat){x:Str}{pos:Pos}(hN:X.N[i]?= some x:=by rfl)(hv:Vis X.env.scope x:=by first|exact Or.inl rfl|exact Or.inr (Or.inl rfl)|exact Or.inr (Or.inr rfl))(hd:(x == ("__debug__" : Str))=false:=by decide)
  (hcd:(x == ("__classdict__" : Str))=false:=by decide):PE X (.Name x pos) (ZlV i):=Zlf hN hv hd hcd
end
theorem ZeT{A B:Prop}(h:B):if false=true then A else B:=by
 rw[if_neg Bool.false_ne_true];exact h
theorem ZhS{A B:Prop}(h:A):if true=true then A else B:=by
 rw[if_pos rfl];exact h
theorem Zd8{c A B:Prop}[Decidable c](h1:c->A)(h2 : ¬ c->B):if c then A else B:=by
 by_cases h:c
 ·rw[if_pos h];exact h1 h
 ·rw[if_neg h];exact h2 h
def Zu(H H':Hp):Prop := ∀b o,H b=some o->H' b=some o
theorem Zu.refl(H:Hp):Zu H H:=fun _ _ h=>h
theorem Zu.trans{H H1 H2:Hp}(a:Zu H H1)(b:Zu H1 H2):Zu H H2:=fun c o h=>b c o (a c o h)
theorem Zu.free{H H':Hp}(e:Zu H H'){l:Addr}(h:H' l=Option.none):H l=Option.none:=by
 cases q:H l with
 | none=>rfl
 | some o =>
  rw[e l o q] at h;cases h
theorem Zu.seq{K:PySem.W.Frag}{H H':Hp}{a:Addr}{xs:List V}(e:Zu H H')(h:SqL K H a xs):SqL K H' a xs:=by
 rcases h with(h|⟨o,h⟩)|h
 ·exact .inl (.inl (e _ _ h))
 ·exact .inl (.inr ⟨o,e _ _ h⟩)
 ·exact .inr h
end L2
namespace FgM
inductive Gr(A:Type) where
 | nil
 | cons (t:A) (w o:Gr A)
section
variable{A:Type}
def words(sl:A):Gr A->List A
 | .nil=>[]
 | .cons t w o=>t::(words sl w++sl::words sl o)
def snoc:Gr A->A->Gr A->Gr A
 | .nil,t,w=>.cons t w .nil
 | .cons t' w' o,t,w=>.cons t' w' (snoc o t w)
theorem ZcE(sl:A)(t:A)(w:Gr A):∀g:Gr A,words sl (snoc g t w)=words sl g++t::(words sl w ++ [sl])
 | .nil=>by simp[snoc,words]
 | .cons t' w' o=>by simp[snoc,words,ZcE sl t w o]
def ZbQ(sl:A):List (Gr A)->List A->List A
 | [r],[]=>words sl r
 | r::rs,t::ts=>ZbQ sl rs ts++t::words sl r
 | _,_=>[]
theorem Zht(sl:A)(t:A){rs:List (Gr A)}{ts:List A}:ZbQ sl (.nil::rs) (t::ts)=ZbQ sl rs ts ++ [t]:=by
 cases rs <;> simp[ZbQ,words]
theorem Zhn(sl:A)(t:A)(w:Gr A){r:Gr A}{rs:List (Gr A)}{ts:List A}(h:rs.length=ts.length) :
  ZbQ sl (snoc r t w::rs) ts=ZbQ sl (r::rs) ts++t::(words sl w ++ [sl]):=by
 cases ts with
 | nil =>
  have:rs=[]:=List.eq_nil_of_length_eq_zero (by simpa using h);subst this;simp[ZbQ,ZcE]
 | cons t' ts =>
  cases rs with
  | nil=>simp at h
  | cons r' rs=>simp[ZbQ,ZcE]
theorem Zgs(sl:A)(t:A){w r:Gr A}{rs:List (Gr A)}{ts:List A}(h:rs.length=ts.length) :
  ZbQ sl (snoc r t w::rs) ts=ZbQ sl (w::r::rs) (t::ts) ++ [sl]:=by
 rw[Zhn sl t w h];simp[ZbQ]
theorem Zjx(sl:A){r:Gr A}{rs:List (Gr A)}{ts:List A}(h:rs.length=ts.length):(words sl r).length<=(ZbQ sl (r::rs) ts).length:=by
 cases ts with
 | nil =>
  have:rs=[]:=List.eq_nil_of_length_eq_zero (by simpa using h);subst this;simp[ZbQ]
 | cons t' ts =>
  cases rs with
  | nil=>simp at h
  | cons r' rs=>simp[ZbQ];lia
theorem Zfg(sl:A):∀{ts:List A}{rs:List (Gr A)},rs.length=ts.length+1->ts.length<=(ZbQ sl rs ts).length
 | [],_,_=>Nat.zero_le _
 | t::ts,[],h=>by simp at h
 | t::ts,[r],h=>by simp at h
 | t::ts,r::r'::rs,h=>by
  have:=Zfg sl (ts:=ts) (rs:=r'::rs) (by simpa using h);simp only[ZbQ,List.length_append,List.length_cons];lia
section
variable[DecidableEq A]
def Can(sl:A):Nat->List A->Prop
 | h,[]=>h=0
 | h,w::ws=>if w=sl then 1<=h/\Can sl (h-1) ws else Can sl (h+1) ws
theorem Zb0{sl w:A}(hw:w≠sl){h:Nat}{ws:List A}:Can sl h (w::ws)↔Can sl (h+1) ws:=by
 simp[Can,hw]
theorem Zci{sl:A}{h:Nat}{ws:List A}:Can sl h (sl::ws)↔1<=h/\Can sl (h-1) ws:=by
 simp[Can]
theorem Zez{sl:A}:∀(c:Nat){h:Nat}{ws:List A},c<=h->Can sl (h-c) ws->Can sl h (List.replicate c sl++ws)
 | 0,h,ws,_,k=>by simpa using k
 | c+1,h,ws,hc,k=>by
  rw[List.replicate_succ,List.cons_append,Zci];refine⟨by lia,Zez c (by lia) ?_⟩;have:h-1-c=h-(c+1):=by lia
  rw[this];exact k
theorem ZdR{sl:A}(h:Nat):Can sl h (List.replicate h sl):=by
 have:=Zez (sl:=sl) h (h:=h) (ws:=[]) (Nat.le_refl h) (by simp[Can])
 simpa using this
def ZaW(sl:A):Gr A->Prop
 | .nil=>True
 | .cons t w o=>t≠sl/\ZaW sl w/\ZaW sl o
theorem Zel{sl t:A}{w:Gr A}(ht:t≠sl)(hw:ZaW sl w):∀{g:Gr A},ZaW sl g->ZaW sl (snoc g t w)
 | .nil,_=>⟨ht,hw,trivial⟩
 | .cons _ _ _,⟨a,b,c⟩=>⟨a,b,Zel ht hw c⟩
def hgt(sl:A):List A->Int
 | []=>0
 | w::ws=>(if w=sl then -1 else 1)+hgt sl ws
end
abbrev Item(A:Type):=Option (A×Gr A)
def wi(sl:A):Item A->List A
 | none=>[sl]
 | some (t,w)=>t::(words sl w ++ [sl])
def items:Gr A->List (Item A)
 | .nil=>[]
 | .cons t w o=>some (t,w)::items o
theorem Zce(sl:A):∀g:Gr A,(items g).flatMap (wi sl)=words sl g
 | .nil=>rfl
 | .cons t w o=>by simp[items,wi,words,Zce sl o]
def Zbb(sl:A)(st:List (Item A)):List A:=st.reverse.flatMap (wi sl)
theorem Zhr(sl:A):Zbb sl ([]:List (Item A))=[]:=rfl
theorem Zcf(sl:A)(st:List (Item A))(x:Item A):Zbb sl (st ++ [x])=wi sl x++Zbb sl st:=by
 simp[Zbb]
theorem Zfw(sl:A)(g:Gr A):Zbb sl (items g).reverse=words sl g:=by
 simp[Zbb,Zce]
theorem ZdI(sl:A)(st:List (Item A))(w:Gr A):Zbb sl (st ++ [none]++(items w).reverse)=words sl w++sl::Zbb sl st:=by
 simp[Zbb,Zce,wi]
theorem Zg8(sl:A):∀st:List (Item A),st.length<=(Zbb sl st).length:=by
 intro st;have h:∀l:List (Item A),l.length<=(l.flatMap (wi sl)).length:=by
  intro l
  induction l with
  | nil=>exact Nat.le_refl _
  | cons x l ih =>
   rw[List.flatMap_cons,List.length_append,List.length_cons];have:1<=(wi sl x).length:=by cases x with
    | none=>exact Nat.le_refl _
    | some p=>obtain⟨t,w⟩:=p;simp[wi]
   lia
 have:=h st.reverse;rw[List.length_reverse] at this;exact this
end
end FgM
namespace L2
open PySem PySem.Spec PyProof.Rows
theorem Zjh:bootBuiltins "list" = some (.type "list"):=by decide +kernel
theorem ZbK:bootBuiltins "tuple" = some (.type "tuple"):=by decide +kernel
theorem Zh1:bootBuiltins "dict" = some (.type "dict"):=by decide +kernel
theorem ZgZ:bootBuiltins "max" = some (.builtin "max"):=by decide +kernel
theorem Zki:bootBuiltins "min" = some (.builtin "min"):=by decide +kernel
theorem Zeu:bootBuiltins "isinstance" = some (.builtin "isinstance"):=by decide +kernel
section
variable{X:Cx}
theorem Zl8{x:Str}{n:String}{pos:Pos}(hg:Gl X x)(hm:X.mg x=none)(hv:bootBuiltins x=some (.type n))(hn:x ≠ "__name__" := by decide) (hd:(x == ("__debug__" : Str))=false:=by decide):PE X (.Name x pos) (tC (.ty n)) :=
 Zkn (v:=.ty n) hg hm hv rfl hn hd
theorem ZfO:ZcR X (.builtin "isinstance") (fun xs H Q=>∃x n t b,xs=[x,.ty n]/\TyOf X.K H x t/\PySem.W.kitOne X.K t (.type n)=some b/\Q (.bl b) H):=by
 intro pins s σ H xs us Q I r h;obtain⟨x,n,t,b,rfl,ty,e,q⟩:=h;obtain⟨u,v,rfl,rx,ry⟩:=Vals.two r;obtain rfl:v=Value.type n:=ry;exact Zi9 I rx ty e fun tk=>⟨.bl b,H,I.tok tk,rfl,q⟩
end
structure Has(P:Program)(w:World)(K:PySem.W.Frag)(mg:Str->Option Value)(base:Heap)(x:Str)(ps:List Str)(k:Nat)(sp:Sp):Prop where
 ex:∃(f:Addr)(fd:FuncData),FnOk P w K mg base CX0 k f fd ps sp/\Binds K fd ps []/\PySem.W.keepIn K (.ref f)=true/\mg x=some (.ref f)
section
variable{X:Cx}{x:Str}{ps:List Str}{j k:Nat}{sp:Sp}{e:Expr}{es:List Expr}{t:TA}{p pos:Pos}
theorem FnOk.room{P:Program}{w:World}{K:PySem.W.Frag}{mg:Str->Option Value}{base:Heap}{CX:CXT}{f:Addr}{fd:FuncData}(F:FnOk P w K mg base CX j f fd ps sp)(h:j<=k):FnOk P w K mg base CX k f fd ps sp :=
 ⟨F.len,fun A outer s H args us vs Q E hr=>F.run A outer s H args us vs Q E (hr.mono h)⟩
theorem ZR(G:Has X.prog X.w X.K X.mg X.base x ps j sp)(hr:Room k X.A)(hg:Gl X x)(ha:PA X (e::es) t)(hk:j<=k:=by decide)(hdb:(x == ("__debug__" : Str))=false:=by decide)
  (he:starEach (e::es) X.env=(false,eval e X.env)::starEach es X.env:=by rfl) (hpl:(backTo pos (starEach es X.env)).any (·.1)=false:=by rfl) :
  PE X (.Call (.Name x p) (e::es) [] pos) (Zle sp [] E0 t):=by
 obtain⟨f,fd,F,b,kp,m⟩:=G.ex;exact ZkI (F.room hk) hr hg m kp b .nil Zkz ha hdb he hpl
end
section
variable{X:Cx}
theorem Zdy(l:Addr)(items:Array Value)(n:Nat)(b:Addr)(items2:Array Value)(n2:Nat)(dd2:Option Addr)(sl2:Array (Option Value))
  (hs0 : ¬(!items.isEmpty&&Builtin.List.listTooLong (items.size+items2.size))=true) (hs1:items.size<=sizeLine) (hs2:items.size+items2.size<=sizeLine+1) :
  Meets (Builtin.«list.extend» ⟨[.ref l,.ref b],[]⟩) (fun _ R s=>s.heap.get? l=some { cls:=.type "list",dict:=none,data:=.seq items n,slots :=#[] }
   /\ s.heap.get? b=some { cls:=.type "tuple",dict:=dd2,data:=.seq items2 n2,slots:=sl2 }/\R (.ok (.ret Value.none)) { s with heap:=s.heap.update l (Obj.mapSeq fun x=>x++items2),toks:=s.toks }) :=
 .of_wp fun prog w A R s h=>by
  obtain⟨hp,g,d,tk,os⟩:=s;obtain⟨hl,hb,h⟩:=h;have f2:=AutoSeq1.sub_tuple_tuple;have f3:=AutoSeq1.sub_list_list;have f4:=AutoSeq1.sub_tuple_list;have f5:=AutoSeq1.sub_list_tuple;have hz':(items++items2).size<=sizeLine+1:=by
   rw[Array.size_append];exact hs2
  wp_walk using (wpAny_updateSeq hl rfl (hz:=hs1) (_hz':=hz')),AutoSeq1.wpAny_loadPart' hl,AutoSeq1.wpAny_loadPart' hb
  exact⟨_,rfl,h⟩
def ZjK(K:PySem.W.Frag):V->List V->Hp->VK->Prop:=fun x vs H Q=>∃l b xs zs,x=.ref l/\vs=[.ref b]/\H l=some (.lst xs)/\SqT K H b zs/\xs.length+zs.length<=sizeLine/\Q .non (upd H l (.lst (xs++zs)))
theorem ZhF:MtM X "list.extend" (ZjK X.K):=by
 intro pins s σ H x vs v us Q I rx rv h;obtain⟨l,b,xs,zs,rfl,rfl,hH,hB,hz,q⟩:=h;cases rx;obtain⟨u,rfl,ru⟩:=rv.one;cases ru;obtain⟨z,its,n,r,hl,e⟩:=I.lstM hH;obtain⟨its2,r2,tup,z2⟩:=I.tuple hB;obtain⟨⟨cls,dd,data,sl⟩,ho,hc,n2,hd⟩:=tup;simp only at hc hd;subst hc hd;have hl2:=r2.length;have hsz:its.toArray.size+its2.toArray.size<=sizeLine:=by
  rw[List.size_toArray,List.size_toArray,<- hl,<- hl2];exact hz
 have hlong : ¬ (!its.toArray.isEmpty&&Builtin.List.listTooLong (its.toArray.size+its2.toArray.size))=true:=by
  rw[ZeN hsz,Bool.and_false];exact Bool.false_ne_true
 refine call_meets F.slot_list_extend ⟨_,e,rfl⟩ F.entry_list_extend (F.args_list_extend_2 _ _)
  (Zdy l its.toArray n b its2.toArray n2 dd sl hlong (by rw[List.size_toArray];lia) (by lia)) ⟨e,ho,?_⟩
 refine⟨.non,_,I.lset (its':=its++its2) hH e (by simp) (r.append r2) ?_,rfl,q⟩;rw[List.length_append];lia
end
end L2
namespace HT
open PySem PyProof.Rows
section
variable{prog:Program}{w:World}{A:Around}{E:Value->Shared->Prop}{s:Shared}
theorem ZhE(n:Nat):Builtin.Slice.sliceAdjust none none (-1) (n:Int)=((n:Int)-1,-1):=by
 unfold Builtin.Slice.sliceAdjust;rfl
theorem Zhk(n:Nat):Builtin.Slice.slicePlaces ((n:Int)-1) (-1) (-1)=n:=by
 unfold Builtin.Slice.slicePlaces;have h1 : ¬ ((-1:Int) > 0):=by lia
 have h2:(-(-1:Int))=1:=rfl;simp only[h1,if_false,h2,Int.ediv_one]
 split <;> lia
theorem ZcU{sl:Addr}{vl vu vs:Value}{n:Nat}{Q:Int×Int×Nat->Shared->Prop}(hs:s.heap.IsSliceOf sl vl vu vs)(pl:IsPart vl none)(pu:IsPart vu none)(ps:IsPart vs (some (-1)))
  (h:Q ((n:Int)-1,-1,n) s):wpAny (model prog w) A (Builtin.Slice.sliceApplied (.ref sl) (pure (n:Int))) Q E s:=by
 obtain⟨os,hos,hcs,hds⟩:=id hs;unfold Builtin.Slice.sliceApplied Builtin.Slice.sliceFields;refine wpAny_bind (wpAny_bind (wpAny_field hos hds (x:=vl) rfl (wpAny_bind (wpAny_field hos hds (x:=vu) rfl (wpAny_bind (wpAny_field hos hds (x:=vs) rfl (wpAny_pure ?_)))))));refine wpAny_bind (Zbz ps ?_);show wpAny _ _ (if((-1:Int) == 0)=true then _ else _) _ _ s
 rw[if_neg (by decide)];refine wpAny_bind (Zbz pl (wpAny_bind (Zbz pu (wpAny_bind (wpAny_pure ?_)))));show wpAny _ _ (match Builtin.Slice.sliceAdjust none none (-1) (n:Int) with|(lo,hi)=>pure (lo,(-1:Int),Builtin.Slice.slicePlaces lo hi (-1))) _ _ s
 rw[ZhE n];show wpAny _ _ (pure ((n:Int)-1,(-1:Int),Builtin.Slice.slicePlaces ((n:Int)-1) (-1) (-1))) _ _ s;rw[Zhk];exact wpAny_pure h
theorem ZgS{α : Type}(l:List α):∀k:Nat,k<=l.length->((List.range k).filterMap fun(m:Nat)=>l.toArray[((l.length:Int)-1+(m:Int)*(-1)).toNat]?)=l.reverse.take k
 | 0,_=>by simp
 | k+1,hk=>by
  rw[List.range_succ,List.filterMap_append,ZgS l k (by lia),List.take_succ]
  congr 1
  have e:((l.length:Int)-1+(k:Int)*(-1)).toNat=l.length-1-k:=by lia
  simp only[List.filterMap_cons,List.filterMap_nil,e,List.getElem?_toArray];rw[List.getElem?_reverse (by lia)];cases l[l.length-1-k]? <;> rfl
theorem ZcD{t sl:Addr}{its:List Value}{vl vu vs:Value}{Q:Value->Shared->Prop}(ht:IsTup s.heap t its.toArray)(hs:s.heap.IsSliceOf sl vl vu vs)(pl:IsPart vl none)(pu:IsPart vu none)(ps:IsPart vs (some (-1)))
  (h:Q (.ref s.heap.objs.size) { s with heap:=s.heap.push { cls:=.type "tuple",data:=.seq its.reverse.toArray } })
  (hsz:its.length<=sizeLine):wpAny (model prog w) A (getItem (.ref t) (.ref sl)) Q E s:=by
 have hok:sizeOk (.seq its.reverse.toArray):=by
  show its.reverse.toArray.size<=sizeLine;rw[List.size_toArray,List.length_reverse];exact hsz
 obtain⟨os,hos,hcs,hds⟩:=id hs;have hTs:s.TypeIs (.ref sl) "slice" := ⟨os,hos,hcs⟩;unfold getItem
 try with_reducible refine wpAny_holding ?_
 first|refine wpAny_bind (wpAny_pure ?_)|skip
 refine wpAny_bind (wpAny_sequenceKey ht.typeIs (by decide) ?_);refine wpAny_bind (wpAny_callSpecial?_slot (name:=Str.ofString "__getitem__") ht.typeIs PyProof.Rows.slot_tuple_getitem
  (wpAny_call_entry PyProof.Rows.slot_tuple_getitem ht.typeIs entry_tuple_getitem ?_ (args_tuple_getitem _ _)))
 show wpAny _ _ (Builtin.Tuple.tupleItemsOf (.ref t) >>= _) _ _ s;refine wpAny_bind (tupleItemsOf_ ht ?_);refine wpAny_bind (wpAny_typeOf hTs ?_);rw[if_pos (by decide)];refine wpAny_bind (ZcU (n:=its.toArray.size) hs pl pu ps ?_);have hno : ¬ (((its.toArray.size:Int)-1 == 0&&(-1:Int) == 1&&its.toArray.size == its.toArray.size)=true):=by
  intro q;rw[Bool.and_eq_true,Bool.and_eq_true] at q;exact absurd q.1.2 (by decide)
 show wpAny _ _ (if((its.toArray.size:Int)-1 == 0&&(-1:Int) == 1&&its.toArray.size == its.toArray.size)=true then _ else _) _ _ s
 have hp:=ZgS its its.length (Nat.le_refl _);rw[List.take_of_length_le (by simp)] at hp;rw[if_neg hno];simp only[List.size_toArray];rw[hp]
 first
  | exact wpAny_bind (m:=Builtin.Tuple.tupleExact _) (wpAny_newObj_type (wpAny_pure ⟨_,rfl,wpAny_pure h⟩) hok)
  | exact wpAny_bind (m:=Builtin.Tuple.tupleExact _) (wpAny_newObj_type (wpAny_bind (wpAny_pure (wpAny_pure ⟨_,rfl,wpAny_pure h⟩))) hok)
  | exact wpAny_bind (wpAny_bind (m:=Builtin.Tuple.tupleExact _) (wpAny_newObj_type (wpAny_pure (wpAny_pure ⟨_,rfl,wpAny_pure h⟩)) hok))
  | exact wpAny_bind (wpAny_bind (m:=Builtin.Tuple.tupleExact _) (wpAny_newObj_type (wpAny_pure ⟨_,rfl,wpAny_pure h⟩) hok))
theorem Zch{t sl:Addr}{items:Array Value}{vl vu:Value}{lo hi:Option Int}{Q:Value->Shared->Prop}(ht:IsTup s.heap t items)(hs:s.heap.IsSliceOf sl vl vu .none)(pl:IsPart vl lo)(pu:IsPart vu hi)
  (h1:sIx items.size 0 lo=0) (h2:sIx items.size items.size hi=items.size) (h:Q (.ref t) s):wpAny (model prog w) A (getItem (.ref t) (.ref sl)) Q E s:=by
 obtain⟨os,hos,hcs,hds⟩:=id hs;have hTs:s.TypeIs (.ref sl) "slice" := ⟨os,hos,hcs⟩;unfold getItem
 try with_reducible refine wpAny_holding ?_
 first|refine wpAny_bind (wpAny_pure ?_)|skip
 refine wpAny_bind (wpAny_sequenceKey ht.typeIs (by decide) ?_);refine wpAny_bind (wpAny_callSpecial?_slot (name:=Str.ofString "__getitem__") ht.typeIs PyProof.Rows.slot_tuple_getitem
  (wpAny_call_entry PyProof.Rows.slot_tuple_getitem ht.typeIs entry_tuple_getitem ?_ (args_tuple_getitem _ _)))
 show wpAny _ _ (Builtin.Tuple.tupleItemsOf (.ref t) >>= _) _ _ s;refine wpAny_bind (tupleItemsOf_ ht ?_);refine wpAny_bind (wpAny_typeOf hTs ?_);rw[if_pos (by decide)];refine wpAny_bind (ZbP hs pl pu ?_);rw[h1,h2];have hyes:((((0:Nat):Int) == 0&&(1:Int) == 1&&(items.size-0) == items.size)=true):=by simp
 show wpAny _ _ (if(((0:Nat):Int) == 0&&(1:Int) == 1&&(items.size-0) == items.size)=true then _ else _) _ _ s
 rw[if_pos hyes];refine wpAny_bind (m:=Builtin.Tuple.tupleIsExact (.ref t)) ?_;unfold Builtin.Tuple.tupleIsExact;refine wpAny_bind (wpAny_typeOf ht.typeIs (wpAny_pure ?_));show wpAny _ _ (if((Value.type "tuple") ==.type "tuple")=true then _ else _) _ _ s
 rw[if_pos (by decide)];refine wpAny_bind (wpAny_rule ?_)
 first
  | exact wpAny_pure ⟨_,rfl,wpAny_pure h⟩
  | exact wpAny_bind (wpAny_pure (wpAny_pure ⟨_,rfl,wpAny_pure h⟩))
end
end HT
namespace L2
open PySem PySem.Spec PyProof.Rows
mutual
inductive Dp(K:PySem.W.Frag)(H:Hp):V->PyData->Prop
 | non:Dp K H .non .none
 | bl (b:Bool):Dp K H (.bl b) (.bool b)
 | int (i:Int):Dp K H (.int i) (.int i)
 | str (x:Str):Dp K H (.str x) (.str x)
 | lst {a:Addr} {xs:List V} {ds:List PyData}:SqL K H a xs->DpAll K H xs ds->Dp K H (.ref a) (.list ds)
 | tup {a:Addr} {xs:List V} {ds:List PyData}:SqT K H a xs->DpAll K H xs ds->Dp K H (.ref a) (.tuple ds)
inductive DpAll(K:PySem.W.Frag)(H:Hp):List V->List PyData->Prop
 | nil:DpAll K H [] []
 | cons {v:V} {vs:List V} {d:PyData} {ds:List PyData}:Dp K H v d->DpAll K H vs ds->DpAll K H (v::vs) (d::ds)
end
section
variable{X:Cx}{pins:List (Addr×Obj)}{σ : St}{H:Hp}{s:Shared}
mutual
theorem Dp.reads(I:Inv X pins σ H s):∀{v:V}{d:PyData}{u:Value},Dp X.K H v d->RelV v u->∃as,Reads s.heap u d as
 | _,_,u,.non,r=>by
  obtain rfl:u=Value.none:=r;exact⟨_,.none⟩
 | _,_,u,.bl b,r=>by
  obtain rfl:u=Value.bool b:=r;exact⟨_,.bool b⟩
 | _,_,_,.int i,⟨t,e⟩=>by
  subst e;exact⟨_,.int i t⟩
 | _,_,_,.str x,⟨t,e⟩=>by
  subst e;exact⟨_,.str x t⟩
 | _,_,u,@Dp.lst _ _ a xs ds hq hall,r=>by
  obtain rfl:u=Value.ref a:=r;obtain⟨its,rv,⟨o,n,e,hc,_,hd⟩,_⟩:=I.list hq;obtain⟨as,ha⟩:=DpAll.reads I hall rv;exact⟨_,.list e hc hd (by simpa using ha)⟩
 | _,_,u,@Dp.tup _ _ a xs ds hq hall,r=>by
  obtain rfl:u=Value.ref a:=r;obtain⟨its,rv,⟨o,e,hc,n,hd⟩,_⟩:=I.tuple hq;obtain⟨as,ha⟩:=DpAll.reads I hall rv;exact⟨_,.tuple e hc hd (by simpa using ha)⟩
theorem DpAll.reads(I:Inv X pins σ H s):∀{vs:List V}{ds:List PyData}{us:List Value},DpAll X.K H vs ds->Vals vs us->∃as,ReadsAll s.heap us ds as
 | _,_,_,.nil,.nil=>⟨_,.nil⟩
 | _,_,_,.cons h t,.cons r rs=>by
  obtain⟨as,ha⟩:=Dp.reads I h r;obtain⟨bs,hb⟩:=DpAll.reads I t rs;exact⟨_,.cons ha hb⟩
end
end
section
variable{X:Cx}
theorem ZfT{A:Around}{k:Nat}(hr:Room k A):A.units+200<cLine:=by
 have:=hr.un;lia
end
section
variable{X:Cx}{e:Expr}{te:TE}{pos p2 p3 p4:Pos}{j:Nat}
def Zl7(K:PySem.W.Frag):V->Hp->VK->Prop:=fun x H Q=>∃a xs,x=.ref a/\SqT K H a xs/\∀p,H p=none->Q (.ref p) (upd H p (.tup xs.reverse))
theorem Ziv(he:PE X e te):PE X (.Subscript e (.Slice none none (some (.UnaryOp .USub (.Constant (.int 1) j p4) p3)) p2) pos) (tUn (Zl7 X.K) te):=by
 intro pins s σ H Q I h;refine Subscript_ (thn (he pins s σ H _ I h) fun v s1 ⟨x,H1,I1,r1,q1⟩=>?_);obtain⟨a,xs,rfl,hx,q⟩:=q1;cases r1;refine wpAny_Slice (thn (Zdj pins s1 σ H1 (fun o H'=>o=none/\H'=H1) I1 ⟨rfl,rfl⟩) fun vl s2 ⟨l,H2,I2,pl,el,eh⟩=>?_);subst el eh;refine thn (Zdj pins s2 σ H2 (fun o H'=>o=none/\H'=H2) I2 ⟨rfl,rfl⟩) fun vu s3 ⟨u,H3,I3,pu,el,eh⟩=>?_;subst el eh;refine thn (ZcF (Ze1 ZcP Zh) pins s3 σ H3 (fun o H'=>o=some (-1)/\H'=H3) I3 ⟨1,rfl,-1,rfl,rfl,rfl⟩) fun vt s4 ⟨o,H4,I4,pt,el,eh⟩=>?_;subst el eh;have I5:Inv X pins σ H4 { s4 with heap:=s4.heap.push { cls:=.type "slice",data:=.fields #[vl,vu,vt] } }:=I4.kept (t':=s4.toks) fun b ob q=>Heap.get?_push_of_some _ q;obtain⟨its,r,ht,hz⟩:=I5.tuple hx;have hlen:=r.length;show wpAny (model X.prog X.w) X.A (subscriptTail e (.Slice none none (some (.UnaryOp .USub (.Constant (.int 1) j p4) p3)) p2) (.ref a) (.ref s4.heap.objs.size)) (EP X pins σ Q) X.xe { s4 with heap:=s4.heap.push { cls:=.type "slice",data:=.fields #[vl,vu,vt] } };refine tail_any (ops:=[.ref a,.ref s4.heap.objs.size]) ht.typeIs PyProof.Rows.slot_tuple_getitem.lookup (HT.ZcD ht (Heap.IsSliceOf.new ..) pl pu pt ?_ (by lia)) (by with_unfolding_all rfl)
 refine⟨.ref _,_,I5.laid (t':=s4.toks) (o:=.tup xs.reverse) (fun b ob q=>Heap.get?_push_of_some _ q) (Nat.le_refl _) ?_,rfl,q _ (I5.hok.fresh (Nat.le_refl _))⟩;exact⟨by rw[List.length_reverse];exact hz,_,r.reverse,IsTup.new _ _⟩
def Zmp(K:PySem.W.Frag):V->Option Int->Option Int->Hp->VK->Prop:=fun x lo hi H Q=>∃a xs,x=.ref a/\SqT K H a xs /\
 ((HT.sIx xs.length 0 lo=0/\HT.sIx xs.length xs.length hi=xs.length)->Q (.ref a) H)/\∀p,H p=none->Q (.ref p) (upd H p (.tup (ZdU xs lo hi)))
theorem ZkD:SlR X (Zmp X.K):=by
 intro pins s σ H x v vl vu lo hi sl Q I rx hs pl pu h;obtain⟨a,xs,rfl,hx,q1,q2⟩:=h;by_cases c:HT.sIx xs.length 0 lo=0/\HT.sIx xs.length xs.length hi=xs.length
 ·cases rx;obtain⟨its,r,ht,hz⟩:=I.tuple hx;have hlen:its.toArray.size=xs.length:=by rw[List.size_toArray];exact r.length.symm
  refine⟨"tuple",_,PyProof.Rows.slot_tuple_getitem.lookup,ht.typeIs,?_⟩;exact HT.Zch ht hs pl pu (by rw[hlen];exact c.1) (by rw[hlen];exact c.2) ⟨.ref a,H,I,rfl,q1 c⟩
 ·exact ZlN pins s σ H (.ref a) v vl vu lo hi sl Q I rx hs pl pu ⟨a,xs,rfl,hx,c,q2⟩
end
def TK(H H':Hp):Prop := ∀b xs,H b=some (.tup xs)->H' b=some (.tup xs)
theorem TK.trans{H H1 H2:Hp}(a:TK H H1)(b:TK H1 H2):TK H H2:=fun c xs h=>b c xs (a c xs h)
theorem TK.new{H:Hp}{p:Addr}{o:HO}(h:H p=none):TK H (upd H p o):=fun b xs q=>by
 rw[Zc (Zm q h)];exact q
theorem TK.lst{H:Hp}{p:Addr}{xs:List V}{o:HO}(h:H p=some (.lst xs)):TK H (upd H p o):=fun b ys q=>by
 by_cases e:b=p
 ·subst e;rw[h] at q;cases q
 ·rw[Zc e];exact q
theorem Zu.tk{H H':Hp}(h:Zu H H'):TK H H':=fun b xs q=>h b _ q
theorem Zu.new{H:Hp}{p:Addr}{o:HO}(h:H p=none):Zu H (upd H p o):=fun b u q=>by
 rw[Zc (Zm q h)];exact q
theorem Zu.upd_new{H H':Hp}{p:Addr}{o:HO}(h:Zu H H')(hp:H p=none):Zu H (upd H' p o):=fun b u q=>by
 rw[Zc (Zm q hp)];exact h b u q
theorem Zu.seqT{K:PySem.W.Frag}{H H':Hp}{a:Addr}{xs:List V}(e:Zu H H')(h:SqT K H a xs):SqT K H' a xs:=by
 rcases h with(h|⟨o,h⟩)|h
 ·exact .inl (.inl (e _ _ h))
 ·exact .inl (.inr ⟨o,e _ _ h⟩)
 ·exact .inr h
theorem Zk{H:Hp}{p b:Addr}{o:HO}(h:upd H p o b=none):b≠p/\H b=none:=by
 by_cases e:b=p
 ·subst e;rw[Zb] at h;cases h
 ·rw[Zc e] at h;exact⟨e,h⟩
section
variable{X:Cx}
def Zmf:V->Option Int->Option Int->Hp->VK->Prop:=fun x lo hi H Q=>∃a xs,x=.ref a/\H a=some (.tup xs)/\∀p H',Zu H H'->H' p=some (.tup (ZdU xs lo hi))->Q (.ref p) H'
theorem Zjg:SlR X Zmf:=by
 intro pins s σ H x v vl vu lo hi sl Q I rx hs pl pu h;obtain⟨a,xs,rfl,hx,q⟩:=h;refine ZkD pins s σ H (.ref a) v vl vu lo hi sl Q I rx hs pl pu ⟨a,xs,rfl,SqT.of hx,fun c=>q a H (Zu.refl H) ?_,fun p hp=>q p _ (Zu.new hp) Zb⟩;rw[hx];unfold ZdU;rw[c.1,c.2,List.drop_zero,Nat.sub_zero,List.take_length]
theorem Ze6(hu:X.A.units+200<cLine):OpR X (compareOp .Eq) (fun x y H Q=>∃a xs z,x=.ref a/\y=.str z/\SqT X.K H a xs/\Q (.bl false) H):=by
 intro pins s σ H x y v u Q I rx ry h;obtain⟨a,xs,z,rfl,rfl,hx,q⟩:=h;cases rx;obtain⟨t,rfl⟩:=ry;obtain⟨its,r,⟨o,e,hc,n,hd⟩,_⟩:=I.tuple hx;exact PySem.SeqAt.RcAt.tuple_str z t ⟨o,e,hc,n,hd⟩ (by lia) X.prog X.w X.xe _ ⟨.bl false,H,I,rfl,q⟩
theorem Zky(hu:X.A.units+200<cLine):OpR X (compareOp .Eq) (fun x y H Q=>(∃a xs z,x=.ref a/\y=.str z/\SqT X.K H a xs/\Q (.bl false) H)\/rEq x y H Q):=(Ze6 hu).or Zcr
end
theorem Paired.app{α β : Type}{F : α -> β -> Prop}:∀{l₁ k₁ : List α}{l₂ k₂ : List β},Paired F l₁ l₂ -> Paired F k₁ k₂ -> Paired F (l₁ ++ k₁) (l₂ ++ k₂)
 | _,_,_,_,.nil,s=>s
 | _,_,_,_,.cons r t,s=>.cons r (Paired.app t s)
theorem Paired.unsnoc{α β : Type}{F : α -> β -> Prop}:∀{l:List α}{a : α}{l₂ : List β},Paired F (l ++ [a]) l₂ -> ∃k b,l₂ = k ++ [b]/\Paired F l k/\F a b
 | [],_,_,.cons r .nil=>⟨[],_,rfl,.nil,r⟩
 | x::l,a,_,.cons r t=>by
  obtain⟨k,b,e,p,f⟩:=Paired.unsnoc (l:=l) t;exact⟨_::k,b,by rw[e];rfl,.cons r p,f⟩
theorem ZiG{α : Type}{l:List α}(h:l ≠ []):∃k a,l=k ++ [a]:=⟨l.dropLast,l.getLast h,(List.dropLast_concat_getLast h).symm⟩
theorem ZaN{α : Type}(l:List α)(a : α):(l ++ [a])[(l ++ [a]).length-1]?= some a:=by
 simp
theorem ZaL{α : Type}(l:List α)(a : α):(l ++ [a]).dropLast=l:=by
 simp
end L2
namespace Fg
open PySem L2 FgM
abbrev SL:Str := "/"
inductive RepG(H:Hp):List V->Gr Str->Prop
 | nil:RepG H [] .nil
 | cons {p q:Addr} {t:Str} {ys vs:List V} {w o:Gr Str}:H p=some (.tup [.str t,.ref q])->H q=some (.tup ys)->RepG H ys w->RepG H vs o->RepG H (.ref p::vs) (.cons t w o)
theorem RepG.mono{H H':Hp}(k:TK H H'):∀{vs:List V}{g:Gr Str},RepG H vs g->RepG H' vs g
 | _,_,.nil=>.nil
 | _,_,.cons h1 h2 h3 h4=>.cons (k _ _ h1) (k _ _ h2) (h3.mono k) (h4.mono k)
theorem RepG.snoc{H:Hp}{p q:Addr}{t:Str}{ys:List V}{w:Gr Str}(h1:H p=some (.tup [.str t,.ref q]))(h2:H q=some (.tup ys))(h3:RepG H ys w) :
  ∀{vs:List V}{g:Gr Str},RepG H vs g->RepG H (vs ++ [.ref p]) (snoc g t w)
 | _,_,.nil=>.cons h1 h2 h3 .nil
 | _,_,.cons a b c d=>.cons a b c (RepG.snoc h1 h2 h3 d)
theorem RepG.length{H:Hp}:∀{vs:List V}{g:Gr Str},RepG H vs g->vs.length<=(words SL g).length
 | _,_,.nil=>Nat.le_refl _
 | _,_,.cons _ _ _ d=>by
  have:=d.length;simp only[List.length_cons,words,List.length_append];lia
def ZkS(H:Hp)(v:V):Item Str->Prop
 | none=>v=.str SL
 | some (t,w)=>∃p q ys,v=.ref p/\H p=some (.tup [.str t,.ref q])/\H q=some (.tup ys)/\RepG H ys w
theorem ZkS.mono{H H':Hp}(k:TK H H'){v:V}:∀{x:Item Str},ZkS H v x->ZkS H' v x
 | none,h=>h
 | some _,⟨p,q,ys,e,a,b,c⟩=>⟨p,q,ys,e,k _ _ a,k _ _ b,c.mono k⟩
theorem RepG.items{H:Hp}:∀{vs:List V}{g:Gr Str},RepG H vs g->Paired (ZkS H) vs (items g)
 | _,_,.nil=>.nil
 | _,_,.cons a b c d=>.cons ⟨_,_,_,rfl,a,b,c⟩ d.items
theorem ZcN{α β : Type}{F : α -> β -> Prop}:∀{l₁ : List α}{l₂ : List β},Paired F l₁ l₂ -> Paired F l₁.reverse l₂.reverse
 | _,_,.nil=>.nil
 | _,_,.cons r t=>by
  rw[List.reverse_cons,List.reverse_cons];exact Paired.app (ZcN t) (.cons r .nil)
theorem Zcv{H H':Hp}(k:TK H H'){vs:List V}{st:List (Item Str)}(h:Paired (ZkS H) vs st):Paired (ZkS H') vs st:=Paired.mapP h fun _ _ r=>r.mono k
abbrev ZjR(H:Hp):List Addr->List (Gr Str)->Prop:=Paired fun a g=>∃vs,H a=some (.lst vs)/\RepG H vs g
theorem Zdl{H H':Hp}(k:TK H H'):∀{as:List Addr}{gs:List (Gr Str)},ZjR H as gs->(∀b∈as,∀o,H b=some o->H' b=some o)->ZjR H' as gs
 | _,_,.nil,_=>.nil
 | _,_,.cons ⟨vs,h1,h2⟩ t,hk=>.cons ⟨vs,hk _ (List.mem_cons_self ..) _ h1,h2.mono k⟩ (Zdl k t fun b hb=>hk b (List.mem_cons_of_mem _ hb))
theorem Zem{H:Hp}:∀{as:List Addr}{gs:List (Gr Str)},ZjR H as gs->∀b∈as,∃o,H b=some o
 | _,_,.nil,_,hb=>nomatch hb
 | _,_,.cons ⟨vs,h1,_⟩ t,b,hb=>by
  rcases List.mem_cons.mp hb with rfl|hb
  ·exact⟨_,h1⟩
  ·exact Zem t b hb
def Zk3(t:Str):Prop:=t.cps.toList ≠ []/\∀c∈t.cps.toList,97<=c/\c<=122
def ZjI(t:Str):Prop := ∀c∈t.cps.toList,97<=c/\c<=122
theorem Zkr(x y:Str):(x++y).cps.toList=x.cps.toList++y.cps.toList:=by
 show(x.cps++y.cps).toList=_;simp
theorem Zeq{x y:Str}(hx:ZjI x)(hy:ZjI y):ZjI (x++y):=fun c hc=>by
 rw[Zkr] at hc;exact(List.mem_append.mp hc).elim (hx c) (hy c)
theorem Zk3.let0{t:Str}(h:Zk3 t):ZjI t:=h.2
theorem Zk3.ne{t:Str}(h:Zk3 t):t≠SL:=fun e=>by
 subst e;have:=h.2 47 (by decide);lia
theorem ZjI.ok{t:Str}(h:ZjI t):PyData.strOk t=true:=by
 unfold PyData.strOk;rw[Array.all_eq_true_iff_forall_mem];intro c hc;have:=h c (by simpa using hc);exact decide_eq_true (by lia)
theorem Zlz:PyData.strOk SL=true:=by decide +kernel
def ABC:Str := "abcdefghijklmnopqrstuvwxyz"
theorem Zks:∀n:_root_.Fin 26,97<=ABC.cps.toList.getD n.val 0/\ABC.cps.toList.getD n.val 0<=122/\n.val<ABC.cps.toList.length:=by decide
theorem Zj2{i:Int}(h0:0<=i)(h1:i<26):∃c,atI ABC.cps.toList i=some c/\97<=c/\c<=122:=by
 obtain⟨n,rfl⟩:=Int.eq_ofNat_of_zero_le h0;obtain⟨a,b,c⟩:=Zks ⟨n,by lia⟩;refine⟨_,Za5 (List.getElem?_eq_getElem c),?_,?_⟩
 ·rw[List.getD_eq_getElem?_getD,List.getElem?_eq_getElem c] at a;exact a
 ·rw[List.getD_eq_getElem?_getD,List.getElem?_eq_getElem c] at b;exact b
theorem ZiE{ns:List Int}{k:Int}(h0:0<=k)(h:k<(ns.length:Int)):∃v:Int,atI (ns.map V.int) k=some (.int v):=by
 obtain⟨n,rfl⟩:=Int.eq_ofNat_of_zero_le h0;have hn:n<ns.length:=by lia
 exact⟨ns[n],Za5 (by rw[List.getElem?_map,List.getElem?_eq_getElem hn];rfl)⟩
theorem ZiY{ws:List Str}{n:Nat}(h:n<ws.length):atI (ws.map V.str) ((n:Nat):Int)=some (.str ws[n]):=Za5 (by rw[List.getElem?_map,List.getElem?_eq_getElem h];rfl)
def ZgT(K:PySem.W.Frag):Sp:=fun vs H Q _=>∃(a:Addr)(ns:List Int)(k:Int),vs=[.ref a,.int k]/\SqL K H a (ns.map V.int)/\ns.length<=63/\0<=k/\∀v:Int,Q (.int v) H
def Zgm(K:PySem.W.Frag):Sp:=fun vs H Q _=>∃(a:Addr)(ws:List Str),vs=[.ref a]/\SqL K H a (ws.map V.str)/\ws.length<=1000/\Can SL 0 ws /\
 ∀(r:Addr)(xs:List V)(g:Gr Str)(H':Hp),Zu H H'->H r=none->H' r=some (.tup xs)->RepG H' xs g->words SL g=ws->ZaW SL g->Q (.ref r) H'
def Zgg(K:PySem.W.Frag):Sp:=fun vs H Q _=>∃(a:Addr)(xs:List V)(g:Gr Str),vs=[.ref a]/\SqT K H a xs/\RepG H xs g/\(words SL g).length<=1000 /\
 ∀(r:Addr)(H':Hp),Zu H H'->H r=none->H' r=some (.lst ((words SL g).map V.str))->Q (.ref r) H'
def ZjT(K:PySem.W.Frag):Sp:=fun vs H Q _=>∃(a:Addr)(ns:List Int),vs=[.ref a]/\SqL K H a (ns.map V.int)/\ns.length<=63/\∀H',Q (.bl true) H'
theorem ZaA{n:Nat}(h:n<=100000):n<=sizeLine:=Nat.le_trans h (by decide)
theorem Zx{n:Nat}(h:n<=100000):n<sizeLine:=Nat.lt_of_le_of_lt h (by decide)
theorem ZdK(x y:Str):(x++y).length=x.length+y.length:=by
 show(x.cps++y.cps).size=_;rw[Array.size_append];rfl
theorem ZiS(j:Int):(0:Int)<if j > 1 then j else 1:=by
 split
 ·rename_i h
  exact Int.lt_trans (by decide) h
 ·decide
theorem Zjq(xs:List V)(n:Nat):ZdU xs (some (n:Int)) none=xs.drop n:=by
 unfold ZdU;rw[HT.Zeo,HT.ZgE];rw[List.take_of_length_le (by rw[List.length_drop];exact Nat.le_refl _)];by_cases h:n<=xs.length
 ·rw[Nat.min_eq_left h]
 ·rw[Nat.min_eq_right (by lia),List.drop_length,List.drop_eq_nil_of_le (by lia)]
theorem ZfV:∀n:Nat,(List.replicate n [V.str SL]).flatten=(List.replicate n SL).map V.str
 | 0=>rfl
 | n+1=>by
  rw[List.replicate_succ,List.flatten_cons,ZfV n,List.replicate_succ];rfl
theorem ZgL(xs:List V)(n:Nat):ZdU xs none (some (n:Int))=xs.take n:=by
 unfold ZdU;rw[HT.Zeo,HT.ZgE,List.drop_zero,Nat.sub_zero];by_cases h:n<=xs.length
 ·rw[Nat.min_eq_left h]
 ·rw[Nat.min_eq_right (by lia),List.take_length,List.take_of_length_le (by lia)]
theorem ZbG{sl:Str}:∀{g h:Gr Str}{r s:List Str},ZaW sl g->ZaW sl h->(r=[]\/∃r',r=sl::r')->(s=[]\/∃s',s=sl::s')->words sl g++r=words sl h++s->g=h/\r=s
 | .nil,.nil,_,_,_,_,_,_,e=>⟨rfl,e⟩
 | .nil,.cons t w o,r,s,_,hh,hr,_,e=>by
  rcases hr with rfl|⟨r',rfl⟩
  ·exact nomatch e
  ·have e':sl::r'=t::(words sl w++sl::words sl o++s):=by simpa[words] using e
   exact absurd (List.cons.inj e').1.symm hh.1
 | .cons t w o,.nil,r,s,hg,_,_,hs,e=>by
  rcases hs with rfl|⟨s',rfl⟩
  ·exact nomatch e
  ·have e':t::(words sl w++sl::words sl o++r)=sl::s':=by simpa[words] using e
   exact absurd (List.cons.inj e').1 hg.1
 | .cons t w o,.cons t' w' o',r,s,hg,hh,hr,hs,e=>by
  have e':t::(words sl w++(sl::(words sl o++r)))=t'::(words sl w'++(sl::(words sl o'++s))):=by simpa[words] using e
  obtain⟨e1,e2⟩:=List.cons.inj e';obtain⟨e3,e4⟩:=ZbG hg.2.1 hh.2.1 (.inr ⟨_,rfl⟩) (.inr ⟨_,rfl⟩) e2;obtain⟨_,e5⟩:=List.cons.inj e4;obtain⟨e6,e7⟩:=ZbG hg.2.2 hh.2.2 hr hs e5;exact⟨by rw[e1,e3,e6],e7⟩
theorem ZiZ{sl:Str}{g h:Gr Str}(hg:ZaW sl g)(hh:ZaW sl h)(e:words sl g=words sl h):g=h :=
 (ZbG (r:=[]) (s:=[]) hg hh (.inl rfl) (.inl rfl) (by simpa using e)).1
end Fg
namespace L2
open PySem PySem.Spec PyProof.Rows
theorem Zfp:bootBuiltins "enumerate" = some (.type "enumerate"):=by decide +kernel
def Ite(K:PySem.W.Frag)(l:Addr):It :=
 ⟨fun i H=>∃xs x,SqL K H l xs/\xs[i]?= some x,fun i H x H'=>∃p,H p=none/\x=.ref p/\∀xs,SqL K H l xs->∃y,xs[i]?= some y/\H'=upd H p (.tup [.int i,y]),fun i H=>∃xs,SqL K H l xs/\xs.length<=i⟩
theorem ZiR{P:Program}{w:World}{K:PySem.W.Frag}{elts:List Expr}{x1}{tp:Pos}(l e it:Addr)(hne:e≠it) :
  Turn P w K (.Tuple elts x1 tp) (Ite K l) [e,it] e (fun i h=>(∃old,IsEnum h e it (i:Int) old)/\h.IsListIter it l i) where
 mem:=by simp
 obj:=fun i h st b hb=>by
  obtain⟨⟨old,he⟩,o,ho,hc,hd⟩:=st;rcases List.mem_cons.mp hb with rfl|hb
  ·exact⟨_,he,fun v z=>by cases z⟩
  ·obtain rfl:=List.mem_singleton.mp hb;exact⟨o,ho,fun v z=>by rw[hd] at z;cases z⟩
 keep:=fun i h h' st k=>by
  obtain⟨⟨old,he⟩,o,ho,r⟩:=st;exact⟨⟨old,k e (by simp) _ he⟩,o,k it (by simp) o ho,r⟩
 item:=by
  intro X hP hw hK hc i pins s σ H E I hf st hg;subst hP hw hK;obtain⟨⟨old,he⟩,hit⟩:=st;obtain⟨xs,x,hq,hx⟩:=hg;obtain⟨its,rv,pl,hz⟩:=I.list hq;obtain⟨u,hu,ru⟩:=rv.get hx;have fe:=hf e (by simp);have fi:=hf it (by simp);refine wpAny_pyNext_enum_item he hit pl.isList (x:=u) (by simpa using hu) hne fun h1 he1 hit1 ht1 hz1 hk1=>⟨_,rfl,wpAny_letOwnedTupleGo_enum he1 fun h2 he2 hs2=>?_⟩;have hfresh:H s.heap.objs.size=none:=I.hok.fresh (Nat.le_refl _);have nee:s.heap.objs.size≠e:=Nat.ne_of_gt (Heap.lt_size he);obtain⟨oi,hoi,_⟩:=id hit;have nei:s.heap.objs.size≠it:=Nat.ne_of_gt (Heap.lt_size hoi);have kp:∀b o,b ∉ [e,it]->s.heap.get? b=some o->h2.get? b=some o:=fun b o hb q=>by
   have b1:b≠e:=fun z=>hb (by rw[z];simp);have b2:b≠it:=fun z=>hb (by rw[z];simp);exact(hs2.2 b b1).trans (hk1 b o b1 b2 q)
  have hp2:h2.get? s.heap.objs.size=some { cls:=.type "tuple",data:=.seq #[.int i s.toks,u] }:=(hs2.2 _ nee).trans ht1;have nb:∀b o,s.heap.get? b=some o->b≠s.heap.objs.size:=fun b o q=>Nat.ne_of_lt (Heap.lt_size q);have tracked:∀b o,H b=some o->b ∉ [e,it]:=fun b o q hb=>by
   rcases List.mem_cons.mp hb with rfl|hb
   ·rw[fe.1] at q;cases q
   ·obtain rfl:=List.mem_singleton.mp hb;rw[fi.1] at q;cases q
  have it2:h2.IsListIter it l (i+1):=by
   obtain⟨o,ho,r⟩:=hit1;exact⟨o,(hs2.2 it hne.symm).trans ho,r⟩
  have hok2:HOk X.prog X.w (upd H s.heap.objs.size (.tup [.int i,x])) h2:=fun b o q=>by
   by_cases hb:b=s.heap.objs.size
   ·subst hb;rw[Zb] at q;cases q;exact⟨by show 2<=sizeLine;decide,[.int i s.toks,u],.cons ⟨_,rfl⟩ (.cons ru .nil),_,hp2,rfl,_,rfl⟩
   ·rw[Zc hb] at q;refine(I.hok b o q).stay (fun c v hcv r=>kp c v ?_ r) (fun c r=>by rw[Zc (Zm r hfresh)];exact r) fun c ys r=>by rw[Zc (Zm r hfresh)];exact r
    rcases hcv with rfl|hcv
    ·exact tracked _ _ q
    ·exact tracked _ _ hcv
  have I2:Inv X pins σ (upd H s.heap.objs.size (.tup [.int i,x])) { s with heap:=h2,gens:=s.gens,drawn:=s.drawn,toks:=s.toks+1 }:=by
   refine I.step (ch:=[e,it]) (fun b hb=>?_) (fun b o _ _ hb q _=>kp b o hb q) (fun b o _ _ hb q _=>⟨o.slots,kp b o hb q⟩) (fun b o _ q n=>by rw[Zc (nb b o q)];exact n) (fun b o hb q=>⟨o,kp b o hb q⟩)
    (fun b ys q=>by rw[Zc (Zm q hfresh)];exact q) (fun b o ys q=>by rw[Zc (Zm q hfresh)];exact q) (fun b ps q=>⟨#[],by rw[Zc (Zm q hfresh),q];simp⟩) (fun m hm=>?_) hok2 I.bare
   ·have f:ZeE X pins H b:=hf b hb;exact⟨f.2.2.2.1,f.2.1,f.2.2.2.2.1,f.2.2.2.2.2⟩
   ·obtain⟨o,es,ep,ho,r⟩:=hm;refine⟨o,es,ep,kp _ o (fun hb=>?_) ho,r⟩;exact(hf _ hb).2.1 rfl
  refine⟨.ref s.heap.objs.size,_,I2,rfl,⟨_,hfresh,rfl,fun ys hy=>⟨x,by rw[I.list_inj hy hq];exact hx,rfl⟩⟩,⟨⟨_,he2⟩,it2⟩,fun b hb=>?_⟩;rcases List.mem_cons.mp hb with rfl|hb
  ·rw[Zc nee.symm];exact fe.1
  ·obtain rfl:=List.mem_singleton.mp hb;rw[Zc nei.symm];exact fi.1
 done:=by
  intro X hP hw hK hc i pins s σ H E I hf st hg;subst hP hw hK;obtain⟨⟨old,he⟩,hit⟩:=st;obtain⟨xs,hq,hx⟩:=hg;obtain⟨its,rv,pl,hz⟩:=I.list hq;obtain⟨f0,f1,f2,f3,f4,f5⟩:=hf it (by simp);have hlen:=rv.length;exact wpAny_pyNext_enum_end (I.ok.hd hc) he hit pl.isList (by simp;lia) fun h' eb=>⟨rfl,I.turned (t':=s.toks) (fun b o hb q=>eb b o hb q) f0 f1 f3 f4 f5⟩
 self:=fun _ _ _ _ _ st h=>by
  obtain⟨⟨old,he⟩,_⟩:=st;exact wpAny_pyIter_enum he h
section
variable{X:Cx}{elts:List Expr}{x1:Nat}{tp:Pos}
def Zl9(K:PySem.W.Frag)(tl:TA):TI:=fun σ H R=>tl σ H fun vs H1=>∃a xs,vs=[.ref a]/\SqL K H1 a xs/\R (Ite K a) H1
theorem ZkF{l:Expr}{ta:TA}{p pos:Pos}(hg:Gl X "enumerate") (hm:X.mg "enumerate" = none) (ha:PA X [l] ta) (hs:starEach [l] X.env=[(false,eval l X.env)]:=by rfl) :
  PI X (.Tuple elts x1 tp) (.Call (.Name "enumerate" p) [l] [] pos) (Zl9 X.K ta):=by
 intro pins s σ H R I h;refine Call_ (Zdf I hg hm Zfp (PyProof.Rows.callWith_type1 (thn (ha pos pins s σ H _ I h) fun us s1 ⟨vs,H1,I1,r1,q1⟩=>?_) hs rfl));obtain⟨a,xs,e,hq,q⟩:=q1;subst e;obtain⟨u,rfl,ru⟩:=Vals.one r1;cases ru;obtain⟨its,rv,pl,hz⟩:=I1.list hq;refine call_enumerate_list pl.isList fun h' he hit hz' hk=>wpAny_pyIter_enum he ?_;refine⟨s1.heap.objs.size+1,[s1.heap.objs.size+1,s1.heap.objs.size],_,_,H1,rfl,I1.kept (t':=s1.toks) hk,ZiR a _ _ (Nat.succ_ne_self _),⟨⟨_,he⟩,hit⟩,fun b hb=>?_,q⟩;have hb':s1.heap.objs.size<=b:=by
  rcases List.mem_cons.mp hb with rfl|hb
  ·exact Nat.le_succ _
  ·rw[List.mem_singleton.mp hb];exact Nat.le_refl _
 exact I1.fpOk hb' (I1.hok.fresh hb')
end
theorem ZjZ{K:PySem.W.Frag}{a:Addr}{xs:List V}{g:TG}{tb:TS}{D:Ends}{σ : St}{H:Hp}(Pv:Nat->St->Hp->Prop)(h0:Pv 0 σ H)(hl:∀i σ H,i<=xs.length->Pv i σ H->SqL K H a xs)
  (hs:∀i y p σ H,xs[i]?= some y->Pv i σ H->H p=none->g (.ref p) σ (upd H p (.tup [.int i,y])) fun σ2 H2=>tb { D with nx:=Pv (i+1),ct:=Pv (i+1),bk:=D.nx } σ2 H2) (hd:∀ σ H,Pv xs.length σ H->D.nx σ H) :
  ∃W:Nat->Nat->St->Hp->Prop,(∃m,W 0 m σ H)/\∀i m σ H,W i m σ H ->
   ((Ite K a).stop i H/\D.nx σ H)\/((Ite K a).go i H/\∃N:St->Hp->Prop,(∀ σ' H',N σ' H'->∃m',m'<m/\W (i+1) m' σ' H')/\∀x H',(Ite K a).yld i H x H'->g x σ H' fun σ2 H2=>tb { D with nx:=N,ct:=N,bk:=D.nx } σ2 H2):=by
 refine⟨fun i m σ H=>m=xs.length-i/\i<=xs.length/\Pv i σ H,⟨xs.length,by simp,Nat.zero_le _,h0⟩,?_⟩;rintro i m σ H ⟨rfl,hi,p⟩;have q:=hl i σ H hi p;by_cases hlt:i<xs.length
 ·refine .inr ⟨⟨xs,xs[i],q,by simp[hlt]⟩,Pv (i+1),fun σ' H' p'=>⟨xs.length-(i+1),by lia,rfl,hlt,p'⟩,fun x H' y=>?_⟩;obtain⟨b,hb,hx,hy⟩:=y;obtain⟨z,hz,hH⟩:=hy xs q;subst hx hH;exact hs i z b σ H hz p hb
 ·have e:i=xs.length:=by lia
  subst e;exact .inl ⟨⟨xs,q,Nat.le_refl _⟩,hd σ H p⟩
section
variable{prog:Program}{w:World}{A:Around}{s:Shared}{R:Result->Shared->Prop}
abbrev no0:Value->Shared->Prop:=fun _ _=>False
theorem Zhj{elt target iter:Expr}{scope:Scope}{pos:Pos}{it acc:Value}{env:Env}(I:Nat->Shared->Prop)
  (turn:∀n s,I n s->wpAny (model prog w) A (pyNext it) (fun r s1=>match r with
   | none=>R (.ok .next) s1
   | some v=>wpAny (model prog w) A (letOwnedTupleGo target it v) (fun _ s2=>wpAny (model prog w) A (assign target env v) (fun _ s3=>wpAny (model prog w) A (eval elt env) (fun x s4 =>
     wpAny (model prog w) A (call (.builtin "list.append") [acc,x]) (fun _ s5=>∃m,m<n/\I m s5) no0 s4) no0 s3) no0 s2) no0 s1) no0 s)
  (n:Nat) (h:I n s):codeAny (model prog w) A (.compLoop (.ListComp elt [⟨target,iter,[],0⟩] scope pos) 0 it acc env) R s:=by
 refine codeAny_loop rfl I (fun n s hI=>?_) n h;show wpAny _ _ ((compTurn (.ListComp elt [⟨target,iter,[],0⟩] scope pos) 0 it acc env).onRaise (fun x=>do noteFrame x env;theTreesLotGoes x)) _ _ s;refine wpAny_noted ?_;rw[compTurn_list1];refine wpAny_bind (wpAny_standAt (wpAny_bind (wpAny_mono (turn n s hI) (fun r s1 h1=>?_) fun _ _ h'=>h'.elim)));cases r with
 | none=>exact wpAny_pure h1
 | some v =>
  refine wpAny_bind (wpAny_mono h1 (fun _ s2 h2=>?_) fun _ _ h'=>h'.elim);refine wpAny_bind (wpAny_mono h2 (fun _ s3 h3=>?_) fun _ _ h'=>h'.elim);refine wpAny_bind (wpAny_bind (wpAny_mono h3 (fun x s4 h4=>?_) fun _ _ h'=>h'.elim));exact wpAny_bind (wpAny_mono h4 (fun _ s5 h5=>wpAny_pure (wpAny_pure ⟨rfl,h5⟩)) fun _ _ h'=>h'.elim)
end
def ZbY(X:Cx)(N:List Str)(scope:Scope)(cl:List (Str×Addr))(C:Addr)(fp:List Addr)(s:Shared)(H:Hp):Cx where
 prog:=X.prog
 w:=X.w
 K:=X.K
 mg:=X.mg
 base:=X.base
 A:=X.A
 N:=N
 s₀ := s
 H₀ := H
 env:=compEnvC scope cl C X.env
 outer:=X.stack
 stack:=X.stack
 ex:=fp
 fn:=fun _=>false
 calm:=X.calm
 pn:=[]
 xe:=no0
section
variable{X:Cx}{pins:List (Addr×Obj)}{σ : St}{H:Hp}{s:Shared}
theorem ZhY{N:List Str}{scope:Scope}{cl:List (Str×Addr)}{C:Addr}{fp:List Addr}(I:Inv X pins σ H s)(hk:scope.kind=.function)(hC:s.heap.objs.size<=C)(hcl:∀x c,cl.lookup x=some c->X.env.cells.lookup x=some c)
  (hhas:∀x,((compEnvC scope cl C X.env).kindOf x=some .cell\/(compEnvC scope cl C X.env).kindOf x=some .free)->∃c,cl.lookup x=some c)
  (hf:∀b∈fp,ZeE X pins H b) (hlt:∀b∈fp,b<s.heap.objs.size):(ZbY X N scope cl C fp s H).Ok where
 mod:=I.ok.mod
 kind:=hk
 glob:=I.ok.glob
 blt:=I.ok.blt
 above:=hC
 inj:=fun x y c e1 e2=>I.ok.inj x y c (hcl x c e1) (hcl y c e2)
 has:=hhas
 cab:=fun x c e=>by cases e
 hd:=I.ok.hd
 frames:=I.ok.frames
 stk:=.inl rfl
 exf:=fun b hb=>⟨fun z=>absurd (Nat.lt_of_lt_of_le (hlt b hb) hC) (by rw[show b=C from z];exact Nat.lt_irrefl _),fun x c e=>(hf b hb).2.2.2.2.1 x c (hcl x c e)⟩
 bs:=fun b o e=>⟨(I.bs b o e).1,(I.bs b o e).2⟩
 bsz:=Nat.le_trans I.ok.bsz I.sz
 noex:=fun b o e hb=>by
  rcases(hf b hb).2.2.2.1 with z|z
  ·exact I.ok.noex b o e z
  ·exact absurd (Nat.lt_of_lt_of_le (Heap.lt_size e) (Nat.le_trans I.ok.bsz z)) (Nat.lt_irrefl _)
 exfs:=fun b hb hm=>by
  rcases List.mem_cons.mp (I.stkSub b hm) with z|z
  ·exact(hf b hb).2.1 z
  ·exact(hf b hb).2.2.1 z
 funs:=I.stack
 frf:=I.stkFree
def capσ(σ : St)(k:Nat)(cap:List (Str×Nat)):St:=List.replicate k none++cap.map fun p=>(σ[p.2]?).getD none
theorem Zfu{scope:Scope}{cl:List (Str×Addr)}{fp:List Addr}{tn:List Str}{cap:List (Str×Nat)}{h1:Heap}(I:Inv X pins σ H s)(hk:scope.kind=.function)(hcl:∀x c,cl.lookup x=some c->X.env.cells.lookup x=some c)
  (hhas:∀x,((compEnvC scope cl s.heap.objs.size X.env).kindOf x=some .cell\/(compEnvC scope cl s.heap.objs.size X.env).kindOf x=some .free)->∃c,cl.lookup x=some c)
  (hf:∀b∈fp,ZeE X pins H b) (hlt:∀b∈fp,b<s.heap.objs.size)
  (hcap:∀p∈cap,X.N[p.2]?= some p.1/\X.env.scope.names.lookup p.1=some .cell/\((compEnvC scope cl s.heap.objs.size X.env).kindOf p.1=some .cell\/(compEnvC scope cl s.heap.objs.size X.env).kindOf p.1=some .free))
  (hns:h1.Ns s.heap.objs.size (fun _=>none)) (hkp:∀b o,s.heap.get? b=some o->h1.get? b=some o) :
  Inv (ZbY X (tn++cap.map (·.1)) scope cl s.heap.objs.size fp s H) [] (capσ σ tn.length cap) H { s with heap:=h1 } where
 ok:=ZhY I hk (Nat.le_refl _) hcl hhas hf hlt
 os:=rfl
 bare:=I.bare
 base:=Un.kept hkp
 loc:=by
  refine⟨fun _=>none,hns,fun i x v e1 e2 hv=>?_⟩;unfold capσ at e2;by_cases hi:i<tn.length
  ·rw[List.getElem?_append_left (by rw[List.length_replicate];exact hi),List.getElem?_replicate,if_pos hi] at e2;cases e2
  ·have hN:(cap.map (·.1))[i-tn.length]?= some x:=by
    have:(tn++cap.map (·.1))[i]?= some x:=e1;rw[List.getElem?_append_right (by lia)] at this;exact this
   rw[List.getElem?_append_right (by rw[List.length_replicate];lia),List.length_replicate,List.getElem?_map] at e2;rw[List.getElem?_map] at hN;cases hp:cap[i-tn.length]? with
   | none=>rw[hp] at hN;cases hN
   | some p =>
    rw[hp] at hN e2;have hx:p.1=x:=Option.some.inj hN;have he:(σ[p.2]?).getD none=some v:=Option.some.inj e2;obtain⟨c1,c2,c3⟩:=hcap p (List.mem_of_getElem? hp);subst hx;have hs : σ[p.2]?= some (some v):=by
     cases q : σ[p.2]? with
     | none=>rw[q] at he;cases he
     | some z=>rw[q] at he;rw[show z=some v from he]
    obtain⟨m,hn,hl⟩:=I.loc;obtain⟨u,r,l⟩:=hl p.2 p.1 v c1 hs (.inr (.inl c2));refine⟨u,r,.inr ⟨c3,?_⟩⟩;obtain⟨c,hc⟩:=hhas p.1 c3;refine⟨c,hc,?_⟩;rcases l with⟨l1,_⟩|⟨_,c',l2,o,ho,hd⟩
    ·have:X.env.kindOf p.1=some .cell:=c2;rw[this] at l1;cases l1
    ·have:c=c':=Option.some.inj ((hcl p.1 c hc).symm.trans l2);subst this;exact⟨o,hkp _ _ ho,hd⟩
 cell:=fun x c e=>by
  obtain⟨v,o,ho,hd⟩:=I.cell x c (hcl x c e);exact⟨v,o,hkp _ _ ho,hd⟩
 free:=I.hok.fresh (Nat.le_refl _)
 freeC:=fun x c e=>I.freeC x c (hcl x c e)
 pin:=fun p hp=>by cases hp
 hok:=I.hok.kept hkp
 len:=by
  unfold capσ;show _=(tn++cap.map (·.1)).length;rw[List.length_append,List.length_append,List.length_replicate,List.length_map,List.length_map]
end
def ZlZ(wi:TI)(k:Nat)(cap:List (Str×Nat))(g:TG)(te:TE):TE:=fun σ H Q=>wi σ H fun J H1=>∀p,H1 p=none->∃W:Nat->Nat->List V->St->Hp->Prop,(∃m,W 0 m [] (capσ σ k cap) (upd H1 p (.lst []))) /\
 ∀i m ys σc H2,W i m ys σc H2->H2 p=some (.lst ys)/\((J.stop i H2/\Q (.ref p) H2)\/(J.go i H2/\∀x H3,J.yld i H2 x H3->g x σc H3 fun σ3 H4=>te σ3 H4 fun v H5 =>
  H5 p=some (.lst ys)/\ys.length<sizeLine/\∃m',m'<m/\W (i+1) m' (ys ++ [v]) σ3 (upd H5 p (.lst (ys ++ [v])))))
section
variable{X:Cx}{elt iter tg:Expr}{scope:Scope}{pos:Pos}{wi:TI}{g:TG}{te:TE}{cl:List (Str×Addr)}
theorem Zhv{pins:List (Addr×Obj)}{σ : St}{H2:Hp}{s2:Shared}{it:Addr}{fp:List Addr}{tnn:Nat->Heap->Prop}{J:It}{R:Addr->Hp->Prop}{use:Option (Value->Sem Unit)}{Qp:Value->Shared->Prop}(tn:List Str)(cap:List (Str×Nat))(hg:∀C fp s H,PG (ZbY X (tn++cap.map (·.1)) scope cl C fp s H) tg g)(he:∀C fp s H,PE (ZbY X (tn++cap.map (·.1)) scope cl C fp s H) elt te)(hc:X.calm=true)(hcell:∀y∈scope.names,y.2 ≠ .cell)(hk:scope.kind=.function)(hcl:∀x c,cl.lookup x=some c->X.env.cells.lookup x=some c)(hhas:∀C x,((compEnvC scope cl C X.env).kindOf x=some .cell\/(compEnvC scope cl C X.env).kindOf x=some .free)->∃c,cl.lookup x=some c)(hcap:∀C,∀p∈cap,X.N[p.2]?= some p.1/\X.env.scope.names.lookup p.1=some .cell/\((compEnvC scope cl C X.env).kindOf p.1=some .cell\/(compEnvC scope cl C X.env).kindOf p.1=some .free))
  (I2:Inv X pins σ H2 s2) (T:Turn X.prog X.w X.K tg J fp it tnn) (st2:tnn 0 s2.heap) (f2:∀b∈fp,ZeE X pins H2 b) (q2:∀p,H2 p=none->∃W:Nat->Nat->List V->St->Hp->Prop,(∃m,W 0 m [] (capσ σ tn.length cap) (upd H2 p (.lst []))) /\
 ∀i m ys σc H2,W i m ys σc H2->H2 p=some (.lst ys)/\((J.stop i H2/\R p H2)\/(J.go i H2/\∀x H3,J.yld i H2 x H3->g x σc H3 fun σ3 H4=>te σ3 H4 fun v H5=>H5 p=some (.lst ys)/\ys.length<sizeLine/\∃m',m'<m/\W (i+1) m' (ys ++ [v]) σ3 (upd H5 p (.lst (ys ++ [v]))))))
  (hfin:∀(s3:Shared)(H3:Hp),Inv X pins σ H3 s3->(∀b∈fp,ZeE X pins H3 b)->∀(acc:Addr)(σ6:St)(H6:Hp)(s6:Shared),Inv (ZbY X (tn++cap.map (·.1)) scope cl s3.heap.objs.size fp s3 H3) [] σ6 H6 s6->R acc H6->compPost (model X.prog X.w) X.A X.xe use Qp (.ref acc) s3.heap.objs.size (.ok .next) s6) :
  wpAny (model X.prog X.w) X.A (newList []) (fun acc s₃=>wpAny (model X.prog X.w) X.A (newFunctionEnv scope X.env.globals cl [] X.env.qual none Value.none (some X.env)) (fun cenv s₄=>codeAny (model X.prog X.w) X.A (Code.compStart (.ListComp elt [⟨tg,iter,[],0⟩] scope pos) 0 (Value.ref it) acc { cenv with scope:=relabel scope X.env }) (compPost (model X.prog X.w) X.A X.xe use Qp acc cenv.locals) s₄) X.xe s₃) X.xe s2:=by
 have fresh:H2 s2.heap.objs.size=none:=I2.fresh;obtain⟨W,⟨m0,w0⟩,turn⟩:=q2 s2.heap.objs.size fresh;have lt2:∀b∈fp,b<s2.heap.objs.size:=fun b hb=>by
  obtain⟨o,ho,_⟩:=T.obj _ _ st2 b hb;exact Heap.lt_size ho
 have I3:Inv X pins σ (upd H2 s2.heap.objs.size (.lst [])) { s2 with heap:=s2.heap.push { cls:=.type "list",data:=.seq ([]:List Value).toArray } }:=I2.lnew (its:=[]) (t':=s2.toks) .nil (Nat.zero_le _);refine wpAny_newObj_type (wpAny_newFunctionEnv hcell (by intro y hy;simp at hy) (fun h1 hns1 hsb1=>?_) hk);dsimp only at hns1 hsb1 ⊢;generalize hS3:({ s2 with heap:=s2.heap.push { cls:=.type "list",dict:=none,data:=.seq ([]:List Value).toArray } }:Shared)=s3 at I3;have hh3:s2.heap.push { cls:=.type "list",dict:=none,data:=.seq ([]:List Value).toArray }=s3.heap:=by rw[<- hS3]
 rw[hh3] at hns1 hsb1 ⊢;have sz3:s3.heap.objs.size=s2.heap.objs.size+1:=by rw[<- hh3,Heap.size_push]
 have lt3:∀b∈fp,b<s3.heap.objs.size:=fun b hb=>Nat.lt_of_lt_of_le (lt2 b hb) (by rw[sz3];exact Nat.le_succ _);have f3:∀b∈fp,ZeE X pins (upd H2 s2.heap.objs.size (.lst [])) b:=fun b hb=>⟨by rw[Zc (Nat.ne_of_lt (lt2 b hb))];exact(f2 b hb).1,(f2 b hb).2⟩;have keep3:∀b o,s3.heap.get? b=some o->h1.get? b=some o:=fun b o q=>hsb1.extBut b o (Nat.ne_of_lt (Heap.lt_size q)) (Heap.get?_push_of_some _ q);have st3:tnn 0 h1:=T.keep _ _ _ st2 fun b hb o q=>keep3 b o (by rw[<- hh3];exact Heap.get?_push_of_some _ q);have I4:=(Zfu (tn:=tn) I3 hk hcl (hhas _) f3 lt3 (hcap _) hns1 keep3).tok (s2.toks+([]:List (Str×Value)).length);have loop:codeAny (model X.prog X.w) X.A (.compLoop (.ListComp elt [⟨tg,iter,[],0⟩] scope pos) 0 (.ref it) (.ref s2.heap.objs.size) (compEnvC scope cl s3.heap.objs.size X.env))
   (compPost (model X.prog X.w) X.A X.xe use Qp (.ref s2.heap.objs.size) s3.heap.objs.size) { s3 with heap:=h1,toks:=s2.toks+([]:List (Str×Value)).length }:=by
  refine Zhj (fun n s'=>∃i ys σ' H',Inv (ZbY X (tn++cap.map (·.1)) scope cl s3.heap.objs.size fp s3 (upd H2 s2.heap.objs.size (.lst []))) [] σ' H' s'/\tnn i s'.heap/\(∀b∈fp,H' b=none)/\W i n ys σ' H') ?_ m0
   ⟨0,[],_,_,I4,st3,fun b hb=>(f3 b hb).1,w0⟩
  rintro n s5 ⟨i,ys,σ5,H5,I5,st5,fr5,w5⟩;obtain⟨hD,alt⟩:=turn i n ys σ5 H5 w5;have stat:∀{H':Hp},(∀b∈fp,H' b=none)->∀b∈fp,ZeE (ZbY X (tn++cap.map (·.1)) scope cl s3.heap.objs.size fp s3 (upd H2 s2.heap.objs.size (.lst []))) [] H' b :=
   fun hn b hb=>⟨hn b hb,(I4.ok.exf b hb).1,I4.ok.exfs b hb,.inl hb,(I4.ok.exf b hb).2,fun p hp=>by cases hp⟩
  rcases alt with⟨stop,qn⟩|⟨go,step⟩
  ·refine thn (T.done (ZbY X (tn++cap.map (·.1)) scope cl s3.heap.objs.size fp s3 (upd H2 s2.heap.objs.size (.lst []))) rfl rfl rfl hc i [] s5 σ5 H5 no0 I5 (stat fr5) st5 stop) fun r s6 ⟨hr,I6⟩=>?_;subst hr;exact hfin s3 _ I3 f3 _ σ5 H5 s6 I6 qn
  ·refine thn (T.item (ZbY X (tn++cap.map (·.1)) scope cl s3.heap.objs.size fp s3 (upd H2 s2.heap.objs.size (.lst []))) rfl rfl rfl hc i [] s5 σ5 H5 no0 I5 (stat fr5) st5 go) fun r s6 ⟨u,hr,h6⟩=>?_;subst hr;refine thn h6 fun _ s7 ⟨x,H7,I7,r7,y7,st7,fr7⟩=>?_;have I7':=I7.pinned (stat fr7) (T.obj _ _ st7);refine thn (hg _ _ _ _ _ s7 σ5 H7 x u _ I7' r7 (step x H7 y7)) fun _ s8 ⟨σ8,H8,I8,q8⟩=>?_;refine thn (he _ _ _ _ _ s8 σ8 H8 _ I8 q8) fun xv s9 ⟨v9,H9,I9,r9,q9⟩=>?_;obtain⟨hD9,hl9,m',hm',w9⟩:=q9;refine thn (ZD _ s9 σ8 H9 (.ref s2.heap.objs.size) [v9] (.ref s2.heap.objs.size) [xv] (fun z H'=>z=.non/\H'=upd H9 s2.heap.objs.size (.lst (ys ++ [v9]))) I9 rfl (.cons r9 .nil)
    ⟨s2.heap.objs.size,ys,v9,rfl,rfl,hD9,hl9,rfl,rfl⟩) fun z s10 ⟨zv,H10,I10,_,_,eH⟩=>?_
   subst eH;refine⟨m',hm',i+1,ys ++ [v9],σ8,_,I10.unpinned,T.keep _ _ _ st7 fun b hb o q=>(I10.pin (b,o) (List.mem_append_right _ (List.mem_append_right _ (Zb8 hb q)))).1,fun b hb=>?_,w9⟩;obtain⟨o,q,d⟩:=T.obj _ _ st7 b hb;exact(I10.pin (b,o) (List.mem_append_right _ (List.mem_append_right _ (Zb8 hb q)))).2.1
 subst hS3;exact codeAny_compStart_list loop (T.self X.A 0 _ _ _ st3 loop)
theorem Zf0(tn:List Str)(cap:List (Str×Nat))(hi:PI X tg iter wi)(hg:∀C fp s H,PG (ZbY X (tn++cap.map (·.1)) scope cl C fp s H) tg g)(he:∀C fp s H,PE (ZbY X (tn++cap.map (·.1)) scope cl C fp s H) elt te)
  (hc:X.calm=true) (hclos:closureFor scope X.env=pure cl) (hcell:∀y∈scope.names,y.2 ≠ .cell) (hk:scope.kind=.function) (hnames:∀y∈scope.names,y.2=.local->scope.names.lookup y.1=some .local)
  (hcl:∀x c,cl.lookup x=some c->X.env.cells.lookup x=some c)
  (hhas:∀C x,((compEnvC scope cl C X.env).kindOf x=some .cell\/(compEnvC scope cl C X.env).kindOf x=some .free)->∃c,cl.lookup x=some c)
  (hcap:∀C,∀p∈cap,X.N[p.2]?= some p.1/\X.env.scope.names.lookup p.1=some .cell/\((compEnvC scope cl C X.env).kindOf p.1=some .cell\/(compEnvC scope cl C X.env).kindOf p.1=some .free))
  (hs:∀v,foldedSetIterable iter X.env v=pure v):PE X (.ListComp elt [⟨tg,iter,[],0⟩] scope pos) (ZlZ wi tn.length cap g te):=by
 intro pins s σ H Q I h;rw[eval_ListComp];refine wpAny_comprehension_free (use:=none) rfl hs hclos hk hnames (thn (hi pins s σ H _ I h) fun v s1 h1=>thn h1 fun itv s2 h2=>?_);obtain⟨it,fp,tnn,J,H2,e,I2,T,st2,f2,q2⟩:=h2;subst e;refine Zhv (R:=fun p H6=>Q (.ref p) H6) tn cap hg he hc hcell hk hcl hhas hcap I2 T st2 f2 q2 fun s3 H3 I3 f3 acc σ6 H6 s6 I6 q6=>?_;obtain⟨m,hn,_⟩:=I6.loc;refine⟨m,hn,fun h' sb=>?_⟩;have nC:∀b o,s3.heap.get? b=some o->b≠s3.heap.objs.size:=fun b o q=>Nat.ne_of_lt (Heap.lt_size q);have u:Un (frs X.stack) fp H3 H6 s3.heap h':=by
  have u0:=I6.base;refine⟨fun b o q n hb hx=>(sb.2 b (nC b o q)).trans (u0.keep b o q n hb hx),fun b o q n hb hx=>?_,u0.free,fun b o q hx=>?_,u0.tups,u0.frzs,u0.tbls⟩
  ·obtain⟨sl,e⟩:=u0.slot b o q n hb hx;exact⟨sl,(sb.2 b (nC b o q)).trans e⟩
  ·obtain⟨o',e⟩:=u0.there b o q hx;exact⟨o',(sb.2 b (nC b o q)).trans e⟩
 have free6:H6 s3.heap.objs.size=none:=I6.free;have ok6:HOk X.prog X.w H6 h':=fun b o q=>(I6.hok b o q).stay (fun c v hcv r=>(sb.2 c (by
  rcases hcv with z|z
  ·rw[z];exact Zm q free6
  ·exact Zm z free6)).trans r) (fun _ q=>q) fun _ _ q=>q
 have I':=I3.call (g':=s6.gens) (d':=s6.drawn) (t':=s6.toks) (ch:=fp) u ok6 I6.bare fun b hb=>⟨(f3 b hb).2.2.2.1,(f3 b hb).2.1,(f3 b hb).2.2.2.2.1,(f3 b hb).2.2.2.2.2⟩;have e:({ s6 with heap:=h' }:Shared)= { s3 with heap:=h',gens:=s6.gens,drawn:=s6.drawn,toks:=s6.toks }:=by
  have ho:s6.os=s3.os:=I6.os;obtain⟨a1,a2,a3,a4,a5⟩:=s6;obtain⟨b1,b2,b3,b4,b5⟩:=s3;simp only at ho;subst ho;rfl
 rw[e];exact⟨.ref _,H6,I',rfl,q6⟩
end
end L2
namespace PySem.SeqAt
open AutoSeq1 (wpAny_loadPart')
open MeetsSeq MeetsSeq2 MeetsSeq3 SeqRoads2
end PySem.SeqAt
namespace Fg
open PySem L2 FgM PySem.SeqAt
def OkW(ws:List Str):Prop := ∀x∈ws,PyData.strOk x=true
end Fg
namespace L2
open PySem PySem.Spec PyProof.Rows
section
variable{X:Cx}
def ZkN(K:PySem.W.Frag)(n:Nat)(neg:Bool):R2:=fun x y H Q=>∃d e,Dp K H x d/\Dp K H y e/\d.canLay0=true/\e.canLay0=true/\min d.depth e.depth<=n/\Q (.bl (if neg then !PyData.eqv d e else PyData.eqv d e)) H
theorem ZkH{n:Nat}(hu:X.A.units+n<cLine):OpR X (compareOp .Eq) (ZkN X.K n false):=by
 intro pins s σ H x y v u Q I rx ry h;obtain⟨d,e,hx,hy,h1,h2,hd,q⟩:=h;obtain⟨as,ra⟩:=hx.reads I rx;obtain⟨bs,rb⟩:=hy.reads I ry;exact PySem.SeqAt.compareEq_reads ra rb h1 h2 (by lia) ⟨.bl _,H,I,rfl,q⟩
theorem ZhT{n:Nat}(hu:X.A.units+n<cLine):OpR X (compareOp .NotEq) (ZkN X.K n true):=by
 intro pins s σ H x y v u Q I rx ry h;obtain⟨d,e,hx,hy,h1,h2,hd,q⟩:=h;obtain⟨as,ra⟩:=hx.reads I rx;obtain⟨bs,rb⟩:=hy.reads I ry;exact PySem.SeqAt.compareNe_reads ra rb h1 h2 (by lia) ⟨.bl _,H,I,rfl,q⟩
end
end L2
namespace Fg
open PySem L2 FgM
def Zcp:Gr Str->List PyData
 | .nil=>[]
 | .cons t w o=>.tuple [.str t,.tuple (Zcp w)]::Zcp o
theorem dpG{K:PySem.W.Frag}{H:Hp}:∀{xs:List V}{g:Gr Str},RepG H xs g->DpAll K H xs (Zcp g)
 | _,_,.nil=>.nil
 | _,_,.cons a b c d=>.cons (.tup (SqT.of a) (.cons (.str _) (.cons (.tup (SqT.of b) (dpG c)) .nil))) (dpG d)
theorem Zh3:∀g:Gr Str,PyData.depthAll (Zcp g)<=(words SL g).length
 | .nil=>Nat.zero_le _
 | .cons t w o=>by
  have h1:=Zh3 w;have h2:=Zh3 o;show max (max 0 (max (PyData.depthAll (Zcp w)+1) 0)+1) (PyData.depthAll (Zcp o))<=(words SL (.cons t w o)).length;simp only[words,List.length_cons,List.length_append];lia
theorem Zmn:∀g:Gr Str,OkW (words SL g)->PyData.canLayAll0 (Zcp g)=true
 | .nil,_=>rfl
 | .cons t w o,h=>by
  have ht:PyData.strOk t=true:=h t (by simp[words]);have hw:OkW (words SL w):=fun x hx=>h x (by simp[words,hx]);have ho:OkW (words SL o):=fun x hx=>h x (by simp[words,hx]);show((PyData.strOk t&&((PyData.canLayAll0 (Zcp w))&&true))&&PyData.canLayAll0 (Zcp o))=true;rw[ht,Zmn w hw,Zmn o ho];rfl
end Fg
namespace L2
open PySem PySem.Spec PyProof.Rows PySem.SeqAt
theorem Zf9:bootBuiltins "reversed" = some (.type "reversed"):=by decide +kernel
end L2
namespace L2
open PySem PySem.Spec PyProof.Rows
def CW(n:Nat)(Pv:Nat->List V->St->Hp->Prop):Nat->Nat->List V->St->Hp->Prop:=fun i m ys σ H=>m=n-i/\i<=n/\Pv i ys σ H
theorem CW.next{n i:Nat}{Pv:Nat->List V->St->Hp->Prop}{ys:List V}{σ : St}{H:Hp}(hi:i<n)(h:Pv (i+1) ys σ H):∃m',m'<n-i/\CW n Pv (i+1) m' ys σ H:=⟨_,by lia,rfl,hi,h⟩
theorem Zio{K:PySem.W.Frag}{a p:Addr}{xs:List V}{g:TG}{te:TE}{R:Hp->Prop}{σ0:St}{H0:Hp}(Pv:Nat->List V->St->Hp->Prop)(h0:Pv 0 [] σ0 H0)
  (hl:∀i ys σ H,i<=xs.length->Pv i ys σ H->SqL K H a xs/\H p=some (.lst ys))
  (hs:∀i ys x σ H,i<xs.length->xs[i]?= some x->Pv i ys σ H->g x σ H fun σ3 H4=>te σ3 H4 fun v H5=>H5 p=some (.lst ys)/\ys.length<sizeLine/\∃m',m'<xs.length-i/\CW xs.length Pv (i+1) m' (ys ++ [v]) σ3 (upd H5 p (.lst (ys ++ [v]))))
  (hd:∀ys σ H,Pv xs.length ys σ H->R H) :
  ∃W:Nat->Nat->List V->St->Hp->Prop,(∃m,W 0 m [] σ0 H0)/\∀i m ys σc H2,W i m ys σc H2->H2 p=some (.lst ys)/\(((Itl K a).stop i H2/\R H2)\/((Itl K a).go i H2/\∀x H3,(Itl K a).yld i H2 x H3->g x σc H3 fun σ3 H4=>te σ3 H4 fun v H5 =>
   H5 p=some (.lst ys)/\ys.length<sizeLine/\∃m',m'<m/\W (i+1) m' (ys ++ [v]) σ3 (upd H5 p (.lst (ys ++ [v]))))):=by
 refine⟨CW xs.length Pv,⟨_,rfl,Nat.zero_le _,h0⟩,?_⟩;rintro i m ys σ H ⟨rfl,hi,hp⟩;obtain⟨h1,h2⟩:=hl i ys σ H hi hp;refine⟨h2,?_⟩;by_cases hlt:i<xs.length
 ·refine .inr ⟨⟨xs,xs[i],h1,List.getElem?_eq_getElem hlt⟩,?_⟩;rintro x H3 ⟨rfl,hx⟩;exact hs i ys x σ _ hlt (hx xs h1) hp
 ·refine .inl ⟨⟨xs,h1,by lia⟩,hd ys σ H ?_⟩;have e:i=xs.length:=by lia
  rw[<- e];exact hp
theorem Zjl{scope:Scope}{env:Env}(h:∀y∈scope.names,y.2 ≠ .cell/\y.2 ≠ .free){cl:List (Str×Addr)}:∀(C:Addr)(x:Str),((compEnvC scope cl C env).kindOf x=some .cell\/(compEnvC scope cl C env).kindOf x=some .free)->∃c,cl.lookup x=some c:=by
 have key:∀(l:List (Str×NameKind))(x:Str),(∀y∈l,y.2 ≠ .cell/\y.2 ≠ .free)->∀k,(l.map fun(n,k)=>if(k ==.free&&env.scope.kind ==.function&&env.kindOf n == some .cell) then(n,.cell) else(n,k)).lookup x=some k->k ≠ .cell/\k ≠ .free:=by
  intro l
  induction l with
  | nil=>intro x _ k e;simp at e
  | cons y l ih =>
   intro x hy k e;obtain⟨n,kd⟩:=y;have hk:=hy _ (List.mem_cons_self ..);have e0:(kd == NameKind.free&&env.scope.kind ==.function&&env.kindOf n == some .cell)=false:=by
    have:(kd == NameKind.free)=false:=by
     cases kd <;> first|rfl|exact absurd rfl hk.2
    rw[this];rfl
   simp only[List.map_cons,e0,Bool.false_eq_true,if_false,List.lookup_cons] at e;cases hx:x == n with
   | true =>
    rw[hx] at e;cases e;exact hk
   | false =>
    rw[hx] at e;exact ih x (fun y hm=>hy y (List.mem_cons_of_mem _ hm)) k e
 intro C x hx;rcases hx with e|e
 ·exact absurd rfl (key _ x h _ e).1
 ·exact absurd rfl (key _ x h _ e).2
end L2
namespace FgM
theorem Zcx{A:Type}[DecidableEq A]{sl:A}:∀{g:Gr A}{n:Nat}{ws:List A},ZaW sl g->Can sl n ws->Can sl n (words sl g++ws)
 | .nil,_,_,_,h=>h
 | .cons t w o,n,ws,⟨h1,h2,h3⟩,h=>by
  have e:words sl (.cons t w o)++ws=t::(words sl w++sl::(words sl o++ws)):=by simp[words]
  rw[e,Zb0 h1];exact Zcx h2 (Zci.mpr ⟨by lia,Zcx h3 (by simpa using h)⟩)
end FgM
namespace L2
open PySem PySem.Spec PyProof.Rows
section
variable{κ : Type}[DecidableEq κ]
def Zbg(kvs:List (κ × V))(k : κ):Option V:=(kvs.find? fun kv=>decide (kv.1=k)).map (·.2)
def putK(kvs:List (κ × V))(k : κ)(v:V):List (κ × V) :=
 if(kvs.any fun kv=>decide (kv.1=k))=true then kvs.map (fun kv=>if kv.1=k then(kv.1,v) else kv) else kvs ++ [(k,v)]
theorem ZaH{p : κ × V}{r:List (κ × V)}{k : κ}(e:p.1=k):Zbg (p::r) k=some p.2:=by simp[Zbg,List.find?_cons,e]
theorem Zaw{p : κ × V}{r:List (κ × V)}{k : κ}(e : ¬ p.1=k):Zbg (p::r) k=Zbg r k:=by simp[Zbg,List.find?_cons,e]
theorem Zbv(k : κ):∀kvs:List (κ × V),(kvs.any fun kv=>decide (kv.1=k))=(Zbg kvs k).isSome
 | []=>rfl
 | p::r=>by
  rw[List.any_cons];by_cases e:p.1=k
  ·simp only[ZaH e,decide_eq_true e,Bool.true_or,Option.isSome_some]
  ·rw[Zaw e,decide_eq_false e,Bool.false_or];exact Zbv k r
theorem ZgO(k j : κ)(y:V):∀kvs:List (κ × V),Zbg (kvs.map fun kv=>if kv.1=k then(kv.1,y) else kv) j=(Zbg kvs j).map fun x=>if j=k then y else x
 | []=>rfl
 | p::r=>by
  have ih:=ZgO k j y r;rw[List.map_cons];by_cases h:p.1=k
  ·rw[if_pos h];by_cases e:p.1=j
   ·rw[ZaH (p:=(p.1,y)) e,ZaH e,Option.map_some,if_pos (e.symm.trans h)]
   ·rw[Zaw (p:=(p.1,y)) e,Zaw e,ih]
  ·rw[if_neg h];by_cases e:p.1=j
   ·rw[ZaH (p:=p) e,ZaH e,Option.map_some,if_neg (fun z=>h (e.trans z))]
   ·rw[Zaw (p:=p) e,Zaw e,ih]
theorem Zfa(k j : κ)(y:V):∀kvs:List (κ × V),Zbg kvs k=none->Zbg (kvs ++ [(k,y)]) j=if j=k then some y else Zbg kvs j
 | [],_=>by
  by_cases e:k=j
  ·rw[if_pos e.symm];exact ZaH (p:=(k,y)) e
  ·rw[if_neg (fun z=>e z.symm)];exact Zaw (p:=(k,y)) e
 | p::r,hn=>by
  rw[List.cons_append];have hk : ¬ p.1=k:=fun z=>by rw[ZaH z] at hn;cases hn
  rw[Zaw hk] at hn;have ih:=Zfa k j y r hn;by_cases e:p.1=j
  ·rw[ZaH e,ZaH e,if_neg (fun z=>hk (e.trans z))]
  ·rw[Zaw e,Zaw e,ih]
theorem ZeP(kvs:List (κ × V))(k j : κ)(y:V):Zbg (putK kvs k y) j=if j=k then some y else Zbg kvs j:=by
 unfold putK;by_cases a:(kvs.any fun kv=>decide (kv.1=k))=true
 ·rw[if_pos a,ZgO];rw[Zbv] at a;by_cases e:j=k
  ·obtain⟨x,hx⟩:=Option.isSome_iff_exists.mp a;rw[if_pos e,e,hx,Option.map_some,if_pos rfl]
  ·rw[if_neg e];cases Zbg kvs j with
   | none=>rfl
   | some x=>rw[Option.map_some,if_neg e]
 ·rw[if_neg a];refine Zfa k j y kvs ?_;rw[Zbv] at a;cases q:Zbg kvs k with
  | none=>rfl
  | some x=>rw[q] at a;exact(a rfl).elim
theorem ZaQ(kvs:List (κ × V))(k : κ)(v:V):(putK kvs k v).length<=kvs.length+1:=by
 unfold putK
 split
 ·rw[List.length_map];lia
 ·rw[List.length_append,List.length_cons,List.length_nil];lia
theorem ZeM{kvs:List (κ × V)}{k : κ}(v:V)(h:Zbg kvs k=none):putK kvs k v=kvs ++ [(k,v)]:=by
 unfold putK;rw[Zbv,h];exact if_neg (by decide)
theorem ZfM.isSome_eq{o:Option V}{u:Option Value}(r:ZfM o u):o.isSome=u.isSome:=by
 cases o with
 | none=>cases u with
  | none=>rfl
  | some _=>exact(show False from r).elim
 | some _=>cases u with
  | none=>exact(show False from r).elim
  | some _=>rfl
theorem ZfM.getD{o:Option V}{u:Option Value}{d:V}{d':Value}(r:ZfM o u)(rd:RelV d d'):RelV (o.getD d) (u.getD d'):=by
 cases o with
 | none=>cases u with
  | none=>exact rd
  | some _=>exact(show False from r).elim
 | some _=>cases u with
  | none=>exact(show False from r).elim
  | some _=>exact r
theorem KV.val{kvs:List (κ × V)}{vs:List (κ × Value)}(r:KV kvs vs)(k : κ):ZfM (Zbg kvs k) (valueAt vs k):=by
 unfold KV at r
 induction r with
 | nil=>exact True.intro
 | @cons p q ps qs h t ih =>
  obtain⟨h1,h2⟩:=h;by_cases e:p.1=k
  ·have e':q.1=k:=h1.symm.trans e;have b:valueAt (q::qs) k=some q.2:=by simp[valueAt,List.find?_cons,e']
   rw[ZaH e,b];exact h2
  ·have e' : ¬ q.1=k:=fun z=>e (h1.trans z);have b:valueAt (q::qs) k=valueAt qs k:=by simp[valueAt,List.find?_cons,e']
   rw[Zaw e,b];exact ih
theorem KV.any{kvs:List (κ × V)}{vs:List (κ × Value)}(r:KV kvs vs)(k : κ):(kvs.any fun kv=>decide (kv.1=k))=vs.any fun kv=>decide (kv.1=k):=by
 unfold KV at r
 induction r with
 | nil=>rfl
 | cons h t ih=>rw[List.any_cons,List.any_cons,ih,h.1]
theorem KV.repl{kvs:List (κ × V)}{vs:List (κ × Value)}(r:KV kvs vs)(k : κ){y:V}{u:Value}(ry:RelV y u) :
  KV (kvs.map fun kv=>if kv.1=k then(kv.1,y) else kv) (vs.map fun kv=>if kv.1=k then(kv.1,u) else kv):=by
 unfold KV at r ⊢
 induction r with
 | nil=>exact .nil
 | @cons p q ps qs h t ih =>
  rw[List.map_cons,List.map_cons];refine .cons ?_ ih;obtain⟨h1,h2⟩:=h;by_cases e:p.1=k
  ·rw[if_pos e,if_pos (h1.symm.trans e)];exact⟨h1,ry⟩
  ·rw[if_neg e,if_neg (fun z=>e (h1.trans z))];exact⟨h1,h2⟩
theorem KV.put{kvs:List (κ × V)}{vs:List (κ × Value)}(r:KV kvs vs)(k : κ){y:V}{u:Value}(ry:RelV y u):KV (putK kvs k y) (stored vs k u):=by
 unfold putK stored;rw[r.any k];by_cases e:(vs.any fun kv=>decide (kv.1=k))=true
 ·rw[if_pos e,if_pos e];exact r.repl k ry
 ·rw[if_neg e,if_neg e];exact Paired.snoc r ⟨rfl,ry⟩
theorem KV.length{kvs:List (κ × V)}{vs:List (κ × Value)}(r:KV kvs vs):kvs.length=vs.length:=Paired.length r
end
theorem Zhc{P:Program}{w:World}{k:Key}{u:Value}(r:RelV (kV k) u):(Z0 P w).is k u=true:=by
 cases k with
 | inl i=>obtain⟨t,e⟩:=(show ∃t,u=Value.int i t from r);subst e;exact Zf8 P w i t
 | inr x=>obtain⟨t,e⟩:=(show ∃t,u=Value.str x t from r);subst e;exact ZfY P w x t
theorem Zfq{P:Program}{w:World}:∀{ks:List Key}{us:List Value},Vals (ks.map kV) us->ItemsAre (Z0 P w) ks us
 | [],_,r=>by rw[List.map_nil] at r;cases r;exact .nil
 | k::ks,_,r=>by
  rw[List.map_cons] at r;cases r with
  | cons h t=>exact .cons (Zhc h) (Zfq t)
abbrev KT(H:Hp):List (List Key×V)->List (List Key×Addr×Value)->Prop:=Paired fun p q=>p.1=q.1/\H q.2.1=some (.tup (p.1.map kV))/\RelV p.2 q.2.2
theorem KT.val{H:Hp}{kvs:List (List Key×V)}{xs:List (List Key×Addr×Value)}(r:KT H kvs xs)(k:List Key):ZfM (Zbg kvs k) ((atKey xs k).map (·.2)):=by
 induction r with
 | nil=>exact True.intro
 | @cons p q ps qs h t ih =>
  obtain⟨h1,_,h2⟩:=h;by_cases e:p.1=k
  ·have e':q.1=k:=h1.symm.trans e;have b:atKey (q::qs) k=some q.2:=by simp[atKey,List.find?_cons,e']
   rw[ZaH e,b];exact h2
  ·have e' : ¬ q.1=k:=fun z=>e (h1.trans z);have b:atKey (q::qs) k=atKey qs k:=by simp[atKey,List.find?_cons,e']
   rw[Zaw e,b];exact ih
theorem KT.repl{H:Hp}{kvs:List (List Key×V)}{xs:List (List Key×Addr×Value)}(r:KT H kvs xs)(k:List Key){y:V}{u:Value}(ry:RelV y u) :
  KT H (kvs.map fun kv=>if kv.1=k then(kv.1,y) else kv) (xs.map (putAt k u)):=by
 induction r with
 | nil=>exact .nil
 | @cons p q ps qs h t ih =>
  rw[List.map_cons,List.map_cons];refine .cons ?_ ih;obtain⟨h1,h2,h3⟩:=h;unfold putAt;by_cases e:p.1=k
  ·rw[if_pos e,if_pos (h1.symm.trans e)];exact⟨h1,h2,ry⟩
  ·rw[if_neg e,if_neg (fun z=>e (h1.trans z))];exact⟨h1,h2,h3⟩
theorem KT.put{H:Hp}{kvs:List (List Key×V)}{xs:List (List Key×Addr×Value)}(r:KT H kvs xs)(k:List Key){b:Addr}{y:V}{u:Value}(hb:H b=some (.tup (k.map kV)))(ry:RelV y u) :
  KT H (putK kvs k y) (storedH xs k b u):=by
 have e:(kvs.any fun kv=>decide (kv.1=k))=(atKey xs k).isSome:=by
  rw[Zbv,(r.val k).isSome_eq,Option.isSome_map]
 unfold putK storedH;rw[e];by_cases q:(atKey xs k).isSome=true
 ·rw[if_pos q,if_pos q];exact r.repl k ry
 ·rw[if_neg q,if_neg q];exact Paired.snoc r ⟨rfl,hb,ry⟩
theorem KT.keeps{H H':Hp}{kvs:List (List Key×V)}{xs:List (List Key×Addr×Value)}(r:KT H kvs xs)(ht:∀b ys,H b=some (.tup ys)->H' b=some (.tup ys)):KT H' kvs xs :=
 Paired.mapP r fun _ _ z=>⟨z.1,ht _ _ z.2.1,z.2.2⟩
section
variable{P:Program}{w:World}{H:Hp}{h:Heap}{a:Addr}
theorem Zlj{u:HO}(ok:HOk P w H h)(e:Rd H a u):Zar P w H h a u:=e.ok ok
theorem Zja{kvs:List (Key×V)}(ok:HOk P w H h)(e:Rd H a (.dK kvs)):kvs.length<=sizeLine/\(a == sysModules)=false/\∃vs,KV kvs vs/\h.DictOf (Z0 P w) a vs :=
 show Zar P w H h a (.dK kvs) from Zlj ok e
theorem ZkU{kvs:List (Key×V)}(ok:HOk P w H h)(e:H a=some (.dK kvs)):kvs.length<=sizeLine/\(a == sysModules)=false/\∃vs,KV kvs vs/\h.DictOf (Z0 P w) a vs:=Zja ok (.inl e)
theorem ZfJ{ks:List Key}(ok:HOk P w H h)(e:H a=some (.tup (ks.map kV))):(tupleKind (Z0 P w)).is h ks a:=by
 obtain⟨_,its,r,o,h1,h2,n,h3⟩:=(show Zar P w H h a (.tup (ks.map kV)) from ok a _ e);exact⟨o,its.toArray,n,h1,h2,h3,by simpa using Zfq r⟩
theorem Zjd{kvs:List (List Key×V)}(ok:HOk P w H h)(e:Rd H a (.dT kvs)):kvs.length<=sizeLine/\(a == sysModules)=false /\
  ∃xs,KT H kvs xs/\h.DictOfH (tupleKind (Z0 P w)) a xs:=by
 obtain⟨z,y,xs,r,o,es,ep,h1,h2,h3,h4,h5⟩:=(show Zar P w H h a (.dT kvs) from Zlj ok e);refine⟨z,y,xs,r,o,es,ep,h1,h2,h3,h4,fun x hx=>?_,h5⟩;have all:∀{l:List (List Key×V)}{m:List (List Key×Addr×Value)},KT H l m->∀x∈m,(tupleKind (Z0 P w)).is h x.1 x.2.1:=by
  intro l m q
  induction q with
  | nil=>intro x hx;exact nomatch hx
  | @cons p q ps qs hq t ih =>
   intro x hx;rcases List.mem_cons.mp hx with e|hx
   ·subst e;exact ZfJ ok (by rw[<- hq.1];exact hq.2.1)
   ·exact ih x hx
 exact all r x hx
theorem Zl6{kvs:List (List Key×V)}(ok:HOk P w H h)(e:H a=some (.dT kvs)):kvs.length<=sizeLine/\(a == sysModules)=false /\
  ∃xs,KT H kvs xs/\h.DictOfH (tupleKind (Z0 P w)) a xs:=Zjd ok (.inl e)
end
def ZeQ(H:Hp)(a:Addr)(y:V)(r:Option V):Prop :=
 (∃kvs k,Rd H a (.dK kvs)/\y=kV k/\r=Zbg kvs k)\/∃kvs k b,Rd H a (.dT kvs)/\y=.ref b/\H b=some (.tup (k.map kV))/\r=Zbg kvs k
def Zix(H:Hp)(a:Addr)(y v:V)(H':Hp):Prop :=
 (∃kvs k,H a=some (.dK kvs)/\y=kV k/\kvs.length<sizeLine/\H'=upd H a (.dK (putK kvs k v))) \/
 ∃kvs k b,H a=some (.dT kvs)/\y=.ref b/\H b=some (.tup (k.map kV))/\kvs.length<sizeLine/\H'=upd H a (.dT (putK kvs k v))
theorem ZeQ.k{H:Hp}{a:Addr}{kvs:List (Key×V)}{k:Key}(e:H a=some (.dK kvs)):ZeQ H a (kV k) (Zbg kvs k):=.inl ⟨kvs,k,.inl e,rfl,rfl⟩
theorem ZeQ.t{H:Hp}{a b:Addr}{kvs:List (List Key×V)}{k:List Key}(e:H a=some (.dT kvs))(eb:H b=some (.tup (k.map kV))):ZeQ H a (.ref b) (Zbg kvs k):=.inr ⟨kvs,k,b,.inl e,rfl,eb,rfl⟩
theorem Zix.k{H:Hp}{a:Addr}{kvs:List (Key×V)}{k:Key}{v:V}(e:H a=some (.dK kvs))(hl:kvs.length<sizeLine):Zix H a (kV k) v (upd H a (.dK (putK kvs k v))):=.inl ⟨kvs,k,e,rfl,hl,rfl⟩
theorem Zix.t{H:Hp}{a b:Addr}{kvs:List (List Key×V)}{k:List Key}{v:V}(e:H a=some (.dT kvs))(eb:H b=some (.tup (k.map kV)))(hl:kvs.length<sizeLine) :
  Zix H a (.ref b) v (upd H a (.dT (putK kvs k v))):=.inr ⟨kvs,k,b,e,rfl,eb,hl,rfl⟩
section
variable{X:Cx}{pins:List (Addr×Obj)}{σ : St}{H:Hp}{s:Shared}{a:Addr}{y v:V}{u r:Value}{o:Option V}{A:Around}{E:Value->Shared->Prop}
theorem Inv.big(I:Inv X pins σ H s):sysModules<s.heap.objs.size:=by
 have h:mainGlobals<s.heap.objs.size:=(I.mod.glob.keeps I.bk).lt;exact Nat.lt_trans (by decide) h
theorem Zjf{Q:Value->Shared->Prop}(hu:A.units+1<cLine)(I:Inv X pins σ H s)(g:ZeQ H a y (some v))(ry:RelV y u)(h:∀w' s',Inv X pins σ H s'->RelV v w'->Q w' s') :
  wpAny (model X.prog X.w) A (getItem (.ref a) u) Q E s:=by
 rcases g with⟨kvs,k,e,ey,l⟩|⟨kvs,k,b,e,ey,eb,l⟩
 ·subst ey;obtain⟨z,hd,vs,rel,dd⟩:=Zja I.hok e;obtain⟨w',hw,rw'⟩:=ZfM.some_of (v:=v) (o:=valueAt vs k) (by rw[l];exact rel.val k);exact wpAny_getItem_of (Zhc ry) dd.mapOf hw (h w' _ (I.tok _) rw')
 ·subst ey;cases (show u=Value.ref b from ry);obtain⟨z,hd,xs,rel,dd⟩:=Zjd I.hok e;obtain⟨w',hw,rw'⟩:=ZfM.some_of (v:=v) (o:=(atKey xs k).map (·.2)) (by rw[l];exact rel.val k);obtain⟨p,hp,hp2⟩:=Option.map_eq_some_iff.mp hw;refine wpAny_getItem_heap (tupleKind_room_in1 hu) (ZfJ I.hok eb) dd hp ?_;rw[hp2];exact h w' _ (I.tok _) rw'
theorem Zgn{h':Heap}{t':Nat}{ob:HO}(I:Inv X pins σ H s)(mu:Mut (H a))(hs:Heap.SameBut a s.heap h')(he:∃q,h'.get? a=some q)(new:Zar X.prog X.w (upd H a ob) h' a ob) :
  Inv X pins σ (upd H a ob) { s with heap:=h',toks:=t' } :=
 I.write (x:=a) (e:=a) mu (.inl rfl) (fun b q hb z=>(hs.2 b hb).trans z) he new
theorem Zj9{P:Program}{w:World}{H':Hp}{h':Heap}{kvs:List (Key×V)}{vs:List (Key×Value)}(z:kvs.length<=sizeLine)(hd:(a == sysModules)=false)(rel:KV kvs vs)(dd:h'.DictOf (Z0 P w) a vs) :
  Zar P w H' h' a (.dK kvs):=⟨z,hd,vs,rel,dd⟩
theorem Zis{H':Hp}{Q:Unit->Shared->Prop}(hu:A.units+1<cLine)(I:Inv X pins σ H s)(g:Zix H a y v H')(ry:RelV y u)(rv:RelV v r)(h:∀s',Inv X pins σ H' s'->Q () s') :
  wpAny (model X.prog X.w) A (setItem (.ref a) u r) Q E s:=by
 rcases g with⟨kvs,k,e,ey,l,eH⟩|⟨kvs,k,b,e,ey,eb,l,eH⟩
 ·subst ey eH;obtain⟨z,hd,vs,rel,dd⟩:=ZkU I.hok e;have hz:vs.length<=sizeLine:=by rw[<- rel.length];exact z
  have hl:(putK kvs k v).length<=sizeLine:=by have:=ZaQ kvs k v;lia
  refine wpAny_setItem_pairs (hsz:=hz) (Zhc ry) dd fun h' dd' hs=>h _ ?_;have he:∃q,h'.get? a=some q:=let ⟨q,_,_,hq,_⟩:=dd';⟨q,hq⟩;exact Zgn I (by rw[e];exact True.intro) hs he (Zj9 hl hd (rel.put k rv) dd')
 ·subst ey eH;cases (show u=Value.ref b from ry);obtain⟨z,hd,xs,rel,dd⟩:=Zl6 I.hok e;have hz:xs.length<=sizeLine:=by rw[<- Paired.length rel];exact z
  have hl:(putK kvs k v).length<=sizeLine:=by have:=ZaQ kvs k v;lia
  refine wpAny_setItem_heap (hsz:=hz) (tupleKind_room_in1 hu) (ZfJ I.hok eb) dd fun h' dd' hs=>h _ ?_;obtain⟨q,es,ep,hq,h2,h3,h4,_,h5⟩:=dd';refine Zgn I (by rw[e];exact True.intro) hs ⟨q,hq⟩ ⟨hl,hd,_,(rel.put k eb rv).keeps fun c ys ec=>?_,q,es,ep,hq,h2,h3,h4,h5⟩;rw[Zc (Zlb ec e (fun z=>nomatch z))]
  exact ec
end
def Zmz(i:Expr):Prop := ∀ov iv,subscripted i false ov iv=operate [ov,iv] (getItem ov iv)
theorem Zk1{prog:Program}{w:World}{A:Around}{E:Value->Shared->Prop}{s:Shared}{env:Env}{value slice:Expr}{pos:Pos}{T id:String}{Q:Value->Shared->Prop}
  (hl:typeLookup (.type T) "__getitem__" = pure (some (.builtin id))) (hs:Zmz slice)
  (h:wpAny (model prog w) A (eval value env) (fun o s₁=>wpAny (model prog w) A (eval slice env) (fun i s₂=>s₂.TypeIs o T/\wpAny (model prog w) A (getItem o i) Q E s₂) E s₁) E s) :
  wpAny (model prog w) A (eval (.Subscript value slice pos) env) Q E s:=by
 refine Subscript_ (wpAny_mono h (fun o s₁ h₁=>wpAny_mono h₁ (fun i s₂ h₂=>?_) fun _ _ x=>x) fun _ _ x=>x);obtain⟨hT,h₂⟩:=h₂;unfold subscriptTail;refine wpAny_bind ?_;rw[getitemInPython_of_ne hT.not_modules];refine wpAny_bind (wpAny_specialOf hT hl ?_);have fin:wpAny (model prog w) A (subscripted slice false o i) (fun r s₃=>wpAny (model prog w) A (letTemporaryGo value o r >>= fun _=>pure r) Q E s₃) E s₂ := by
  rw[hs o i];exact wpAny_operating (wpAny_mono h₂ (fun r s₃ h₃=>wpAny_bind (wpAny_letTemporaryGo (wpAny_pure h₃))) fun _ _ x=>x)
 first
  | exact wpAny_pure (wpAny_bind fin)
  | exact wpAny_bind (wpAny_pure (wpAny_bind fin))
  | exact wpAny_bind fin
theorem Zgl{X:Cx}{pins:List (Addr×Obj)}{σ : St}{H:Hp}{s:Shared}{a:Addr}{y:V}{o:Option V}(I:Inv X pins σ H s)(g:ZeQ H a y o):s.TypeIs (.ref a) "dict" := by
 rcases g with⟨kvs,k,e,_,_⟩|⟨kvs,k,b,e,_,_,_⟩
 ·obtain⟨_,_,vs,_,dd⟩:=Zja I.hok e;exact dd.typeIs
 ·obtain⟨_,_,xs,_,dd⟩:=Zjd I.hok e;exact dd.typeIs
def Zml(td ty:TE):TE:=fun σ H Q=>td σ H fun x H1=>ty σ H1 fun y H2=>∃a v,x=.ref a/\ZeQ H2 a y (some v)/\Q v H2
def Zmk(td ty tv:TE):TS:=fun D σ H=>tv σ H fun v H1=>td σ H1 fun x H2=>ty σ H2 fun y H3=>∃a H4,x=.ref a/\Zix H3 a y v H4/\D.nx σ H4
section
variable{X:Cx}{o i e value:Expr}{pos pos' tpos:Pos}{td ty tv:TE}
theorem ZcG(hu:X.A.units+1<cLine)(ho:PE X o td)(hi:PE X i ty)(hs:Zmz i):PE X (.Subscript o i pos) (Zml td ty):=by
 intro pins s σ H Q I h;refine Zk1 PySem.F.slot_dict_getitem.lookup hs (thn (ho pins s σ H _ I h) fun u s1 ⟨x,H1,I1,rx,q1⟩=>thn (hi pins s1 σ H1 _ I1 q1) fun iv s2 ⟨y,H2,I2,ry,a,v,ex,g,q2⟩=>?_);subst ex;obtain rfl:u=Value.ref a:=rx;exact⟨Zgl I2 g,Zjf hu I2 g ry fun w' s3 I3 rw'=>⟨v,H2,I3,rw',q2⟩⟩
theorem ZdD(hu:X.A.units+1<cLine)(ho:PE X o td)(hi:PE X i ty)(hv:PE X value tv)(hs:swapsWith value (some (.Subscript o i pos')) pos.line X.env=pure false) :
  PS X (.Assign [.Subscript o i pos'] value pos) (Zmk td ty tv):=by
 intro pins s σ H D I h;refine wpAny_Assign_Subscript (thn (hv pins s σ H _ I h) fun r s1 ⟨v,H1,I1,rv,q1⟩=>thn (ho pins s1 σ H1 _ I1 q1) fun u s2 ⟨x,H2,I2,rx,q2⟩=>thn (hi pins s2 σ H2 _ I2 q2) fun iv s3 ⟨y,H3,I3,ry,a,H4,ex,g,q3⟩=>?_) hs;subst ex;obtain rfl:u=Value.ref a:=rx;exact Zis hu I3 g ry rv fun s4 I4=>⟨σ,H4,I4,q3⟩
end
theorem ZgB{P:Program}{w:World}{H:Hp}(h:Heap)(hb:sysModules<h.objs.size):Zar P w H (h.push { cls:=.type "dict",data:=.dict #[] }) h.objs.size (.dK []) :=
 ⟨Nat.zero_le _,beq_eq_false_iff_ne.mpr (Ne.symm (Nat.ne_of_lt hb)),[],.nil,Heap.DictOf.new h⟩
theorem ZjX{P:Program}{w:World}{H:Hp}(h:Heap)(hb:sysModules<h.objs.size):Zar P w H (h.push { cls:=.type "dict",data:=.dict #[] }) h.objs.size (.dT []) :=
 ⟨Nat.zero_le _,beq_eq_false_iff_ne.mpr (Ne.symm (Nat.ne_of_lt hb)),[],.nil,_,#[],0,Heap.get?_push_size _ rfl,⟨rfl,rfl,rfl⟩,rfl,rfl,List.nodup_nil⟩
def Zlu:TE:=fun _ H Q=>∀p,H p=none->Q (.ref p) (upd H p (.dK []))
def Zlk:TE:=fun _ H Q=>∀p,H p=none->Q (.ref p) (upd H p (.dT []))
section
variable{X:Cx}{pos:Pos}
theorem Zc3:PE X (.Dict [] [] pos) Zlu:=fun pins s σ H Q I h =>
 wpAny_Dict_empty ⟨.ref s.heap.objs.size,_,I.laid (a:=s.heap.objs.size) (o:=.dK []) (t':=s.toks) (fun _ _ q=>Heap.get?_push_of_some _ q) (Nat.le_refl _) (ZgB s.heap I.big),rfl,h _ (I.hok.fresh (Nat.le_refl _))⟩
theorem ZjM:PE X (.Dict [] [] pos) Zlk:=fun pins s σ H Q I h =>
 wpAny_Dict_empty ⟨.ref s.heap.objs.size,_,I.laid (a:=s.heap.objs.size) (o:=.dT []) (t':=s.toks) (fun _ _ q=>Heap.get?_push_of_some _ q) (Nat.le_refl _) (ZjX s.heap I.big),rfl,h _ (I.hok.fresh (Nat.le_refl _))⟩
end
def ZiW:List (TE×TE)->St->Hp->(List (V×V)->Hp->Prop)->Prop
 | [],_,H,Q=>Q [] H
 | (tk,tv)::r,σ,H,Q=>tk σ H fun x H1=>tv σ H1 fun y H2=>ZiW r σ H2 fun ps H3=>Q ((x,y)::ps) H3
abbrev VV:List (V×V)->List (Value×Value)->Prop:=Paired fun p q=>RelV p.1 q.1/\RelV p.2 q.2
def PPs(X:Cx)(pos:Pos)(keys:List (Option Expr))(values:List Expr)(trs:List (TE×TE)):Prop :=
 ∀(pins:List (Addr×Obj))(s:Shared)(σ : St)(H:Hp)(Q:List (V×V)->Hp->Prop),Inv X pins σ H s->ZiW trs σ H Q ->
  wpAny (model X.prog X.w) X.A (evalPairs (pairTrees keys values X.env pos)) (fun vs s'=>∃ps H',Inv X pins σ H' s'/\VV ps vs/\Q ps H') X.xe s
theorem ZkJ{X:Cx}{pos:Pos}:PPs X pos [] [] []:=fun pins s σ H Q I h=>pairTrees_nil_walk ⟨[],H,I,.nil,h⟩
theorem Zj0{X:Cx}{pos:Pos}{k v:Expr}{ks:List (Option Expr)}{vs:List Expr}{tk tv:TE}{trs:List (TE×TE)}(hk:PE X k tk)(hv:PE X v tv)(hr:PPs X pos ks vs trs) :
  PPs X pos (some k::ks) (v::vs) ((tk,tv)::trs):=fun pins s σ H Q I h =>
 pairTrees_cons_walk (thn (hk pins s σ H _ I h) fun u s1 ⟨x,H1,I1,rx,q1⟩=>thn (hv pins s1 σ H1 _ I1 q1) fun w2 s2 ⟨y,H2,I2,ry,q2⟩ =>
  thn (hr pins s2 σ H2 _ I2 q2) fun ws s3 ⟨ps,H3,I3,rel,q3⟩=>⟨(x,y)::ps,H3,I3,.cons ⟨rx,ry⟩ rel,q3⟩)
def Ze8(kvs more:List (Key×V)):List (Key×V):=more.foldl (fun acc kv=>putK acc kv.1 kv.2) kvs
theorem KV.merge:∀{more:List (Key×V)}{rs:List (Key×Value)}{kvs:List (Key×V)}{vs:List (Key×Value)},KV more rs->KV kvs vs->KV (Ze8 kvs more) (merged vs rs):=by
 intro more rs kvs vs r;unfold KV at r
 induction r generalizing kvs vs with
 | nil=>intro q;exact q
 | @cons p q ps qs h t ih =>
  intro r0;have e:KV (putK kvs p.1 p.2) (stored vs q.1 q.2):=by
   have:=r0.put p.1 h.2;rw[<- h.1];exact this
  exact ih e
theorem Zcl:∀(more kvs:List (Key×V)),(Ze8 kvs more).length<=kvs.length+more.length
 | [],kvs=>by show kvs.length<=kvs.length+0;lia
 | p::r,kvs=>by
  have h1:=Zcl r (putK kvs p.1 p.2);have h2:=ZaQ kvs p.1 p.2;show(Ze8 (putK kvs p.1 p.2) r).length<=_;rw[List.length_cons];lia
theorem Zee{P:Program}{w:World}:∀{kvs:List (Key×V)}{ws:List (Value×Value)},VV (kvs.map fun kv=>(kV kv.1,kv.2)) ws->∃rs,Carries (Z0 P w) ws rs/\KV kvs rs
 | [],_,r=>by rw[List.map_nil] at r;cases r;exact⟨[],True.intro,.nil⟩
 | p::kvs,_,r=>by
  rw[List.map_cons] at r;cases r with
  | @cons a b as bs h t =>
   obtain⟨rs,c,q⟩:=Zee (P:=P) (w:=w) t;obtain⟨b1,b2⟩:=b;exact⟨(p.1,b2)::rs,⟨Zhc h.1,rfl,c⟩,.cons ⟨rfl,h.2⟩ q⟩
def Zmq(trs:List (TE×TE)):TE:=fun σ H Q=>∀p,H p=none->ZiW trs σ (upd H p (.dK [])) fun ps H2=>H2 p=some (.dK [])/\∃kvs:List (Key×V),ps=kvs.map (fun kv=>(kV kv.1,kv.2))/\kvs.length<=15/\Q (.ref p) (upd H2 p (.dK (Ze8 [] kvs)))
theorem ZkA{X:Cx}{pos:Pos}{keys:List (Option Expr)}{values:List Expr}{trs:List (TE×TE)}(h:PPs X pos keys values trs)(hall:keys.all (·.isSome)=true)(hl:keys.length=values.length)(h0:keys ≠ [])
  (h15:keys.length<=15):PE X (.Dict keys values pos) (Zmq trs):=by
 intro pins s σ H Q I q;have hn:=I.hok.fresh (Nat.le_refl s.heap.objs.size);have I1:=I.laid (a:=s.heap.objs.size) (o:=.dK []) (h':=s.heap.push { cls:=.type "dict",data:=.dict #[] }) (t':=s.toks) (fun _ _ q=>Heap.get?_push_of_some _ q) (Nat.le_refl _) (ZgB s.heap I.big);refine wpAny_Dict_walk (knd:=Z0 X.prog X.w) hall hl h0 h15 (thn (h pins _ σ _ _ I1 (q _ hn)) fun ws s2 ⟨ps,H2,I2,rel,e,kvs,ep,lk,q2⟩=>?_);subst ep;obtain⟨rs,c,rk⟩:=Zee (P:=X.prog) (w:=X.w) rel;obtain⟨z,hd,vs0,r0,dd⟩:=ZkU I2.hok e;cases r0;refine⟨rs,c,dd,fun h' dd' hs=>⟨.ref s.heap.objs.size,_,?_,rfl,q2⟩⟩;have hz:(Ze8 [] kvs).length<=sizeLine:=by
  have h1:=Zcl kvs [];rw[List.length_nil] at h1;rw[sizeLine_eq];lia
 have he:∃q,h'.get? s.heap.objs.size=some q:=let ⟨q,_,_,hq,_⟩:=dd';⟨q,hq⟩;exact Zgn I2 (by rw[e];exact True.intro) hs he (Zj9 hz hd (rk.merge .nil) dd')
structure M2(X:Cx)(o:Expr)(m:Str)(apos:Pos)(e f:Expr)(cpos:Pos):Prop where
 base:attributeBase o m X.env (eval o X.env)=eval o X.env
 few:((backTo cpos (starEach [e,f] X.env)).all (fun x=>!x.1)&&(backToKw cpos (keywordEach [] X.env)).all (fun x=>x.1.isSome)
  && decide (([e,f]:List Expr).length+([]:List Keyword).length+(if([]:List Keyword).isEmpty then 0 else 1)<30))=true
 line:(apos.endLine == cpos.line)=true
 trees:backTo cpos (starEach [e,f] X.env)=[(false,eval e X.env),(false,eval f X.env)]
def IsD(H:Hp)(a:Addr):Prop:=(∃kvs,Rd H a (.dK kvs))\/∃kvs,Rd H a (.dT kvs)
theorem Zli{X:Cx}{pins:List (Addr×Obj)}{σ : St}{H:Hp}{s:Shared}{a:Addr}(I:Inv X pins σ H s)(d:IsD H a) :
  s.TypeIs (.ref a) "dict" /\ (∀b,Value.ref a=.ref b->∃ob,s.heap.get? b=some ob/\ob.dict=none)/\(a == sysModules)=false:=by
 rcases d with⟨kvs,e⟩|⟨kvs,e⟩
 ·obtain⟨_,hd,vs,_,dd⟩:=Zja I.hok e;refine⟨dd.typeIs,fun b q=>?_,hd⟩;cases q;obtain⟨ob,_,_,h1,h2,_⟩:=dd;exact⟨ob,h1,h2.2.1⟩
 ·obtain⟨_,hd,xs,_,dd⟩:=Zjd I.hok e;refine⟨dd.typeIs,fun b q=>?_,hd⟩;cases q;obtain⟨ob,_,_,h1,h2,_⟩:=dd;exact⟨ob,h1,h2.2.1⟩
section
variable{X:Cx}{pins:List (Addr×Obj)}{σ : St}{H:Hp}{s:Shared}{a:Addr}{y d:V}{u r:Value}{o:Option V}{A:Around}{E:Value->Shared->Prop}
theorem ZlF{Q:Value->Shared->Prop}(hu:A.units+1<cLine)(I:Inv X pins σ H s)(g:ZeQ H a y o)(ry:RelV y u)(rd:RelV d r)(h:∀w' s',Inv X pins σ H s'->RelV (o.getD d) w'->Q w' s') :
  wpAny (model X.prog X.w) A (call (.builtin "dict.get") [.ref a,u,r]) Q E s:=by
 rcases g with⟨kvs,k,e,ey,l⟩|⟨kvs,k,b,e,ey,eb,l⟩
 ·subst ey;obtain⟨z,hd,vs,rel,dd⟩:=Zja I.hok e;refine call_meetsIn PySem.F.slot_dict_get dd.typeIs PySem.F.entry_dict_get (PySem.F.args_dict_get_3 _ _ _) (meets_dict_get_default (Z0 X.prog X.w) a (Zhc ry) hd r) ⟨_,dd.mapOf,h _ _ (I.tok _) ?_⟩;rw[l];exact(rel.val k).getD rd
 ·subst ey;cases (show u=Value.ref b from ry);obtain⟨z,hd,xs,rel,dd⟩:=Zjd I.hok e;refine call_meetsIn PySem.F.slot_dict_get dd.typeIs PySem.F.entry_dict_get (PySem.F.args_dict_get_3 _ _ _) (meetsH_dict_get_default (tupleKind (Z0 X.prog X.w)) a b hd r) ⟨tupleKind_room_in1 hu,k,xs,ZfJ I.hok eb,dd,h _ _ (I.tok _) ?_⟩;rw[l];exact(rel.val k).getD rd
end
def Zln(td ty tx:TE):TE:=fun σ H Q=>td σ H fun x H1=>∃a,x=.ref a/\IsD H1 a/\ty σ H1 fun y H2=>tx σ H2 fun z H3=>∃o,ZeQ H3 a y o/\Q (o.getD z) H3
section
variable{X:Cx}{o e f:Expr}{apos cpos:Pos}{td ty tx:TE}
theorem ZgH(hu:X.A.units+1<cLine)(ho:PE X o td)(he:PE X e ty)(hf:PE X f tx)(m:M2 X o "get" apos e f cpos):PE X (.Call (.Attribute o "get" apos) [e,f] [] cpos) (Zln td ty tx):=by
 intro pins s σ H Q I h;refine wpAny_Call_method m.base m.few m.line PySem.F.plainAttrs_dict PySem.F.slot_dict_get PySem.F.type_dict_get (thn (ho pins s σ H _ I h) fun u s1 ⟨x,H1,I1,rx,a,ex,d,q1⟩=>?_);subst ex;obtain rfl:u=Value.ref a:=rx;obtain⟨t1,t2,_⟩:=Zli I1 d;refine⟨t1,t2,?_⟩;rw[m.trees];refine Calls.callWith_builtin rfl (Calls.evalArgs_plain (Calls.spliced_cons (thn (he pins s1 σ H1 _ I1 q1) fun iv s2 ⟨y,H2,I2,ry,q2⟩ =>
  Calls.spliced_cons (thn (hf pins s2 σ H2 _ I2 q2) fun fv s3 ⟨z,H3,I3,rz,ov,g,q3⟩=>Calls.spliced_nil ?_))))
 exact ZlF hu I3 g ry rz fun w' s4 I4 rw'=>⟨_,H3,I4,rw',q3⟩
end
section
variable{κ : Type}[DecidableEq κ]
theorem ZjG{kvs:List (κ × V)}{k : κ}(h:Zbg kvs k=none) : ¬ k∈kvs.map (·.1):=by
 intro m;obtain⟨p,hp,e⟩:=List.mem_map.mp m;have q:(kvs.any fun kv=>decide (kv.1=k))=true:=List.any_eq_true.mpr ⟨p,hp,decide_eq_true e⟩;rw[Zbv,h] at q;exact absurd q (by simp)
end
structure HasM(P:Program)(w:World)(K:PySem.W.Frag)(mg:Str->Option Value)(base:Heap)(C:Addr)(m:Str)(ps:List Str)(j:Nat)(sp:Sp):Prop where
 ex:∃f fd,FnOk P w K mg base CX0 j f fd ps sp/\Binds K fd ps []/\Meth K C m f
section
variable{X:Cx}{C:Addr}{m x:Str}{ps:List Str}{j k:Nat}{sp:Sp}{o e:Expr}{es:List Expr}{ta:TE}{t:TA}{p pos apos:Pos}
theorem Zf2{pl:Sem Bool}(G:HasM X.prog X.w X.K X.mg X.base C m ps j sp)(hr:Room k X.A)(he:PE X o ta)(c:Cls X.K C)(ha:PA X (e::es) t)(hk:j<=k:=by decide)
  (hst:starEach (e::es) X.env=(false,eval e X.env)::starEach es X.env:=by rfl) (hpl:(backTo pos (starEach es X.env)).any (·.1)=false:=by rfl)
  (ht:eval (.Call (.Attribute o m apos) (e::es) [] pos) X.env=(do
   let ov <- eval o X.env
   standAt apos.atName
   let (f,first) <- holding [ov] (getMethod ov m pl)
   callWith pos f first (backTo pos (starEach (e::es) X.env)) (backToKw pos (keywordEach [] X.env))):=by rfl):PE X (.Call (.Attribute o m apos) (e::es) [] pos) (ZjN C m sp [] E0 ta t):=by
 obtain⟨f,fd,F,b,hm⟩:=G.ex;exact ZkQ (pl:=pl) he c hm (F.room hk) hr b .nil Zkz ha hst hpl ht
theorem Zg2{pl:Sem Bool}(G:HasM X.prog X.w X.K X.mg X.base C m ps j sp)(hr:Room k X.A)(he:PE X o ta)(c:Cls X.K C)(hk:j<=k:=by decide)
  (ht:eval (.Call (.Attribute o m apos) [] [] pos) X.env=(do
   let ov <- eval o X.env
   standAt apos.atName
   let (f,first) <- holding [ov] (getMethod ov m pl)
   callWith pos f first (backTo pos (starEach [] X.env)) (backToKw pos (keywordEach [] X.env))):=by rfl):PE X (.Call (.Attribute o m apos) [] [] pos) (ZjN C m sp [] E0 ta Zlm):=by
 obtain⟨f,fd,F,b,hm⟩:=G.ex;exact ZjC (pl:=pl) he c hm (F.room hk) hr b .nil Zkz ht
end
section
variable{X:Cx}
def Zl2(K:PySem.W.Frag):R2:=fun x y H Q=>∃l b xs zs,x=.ref l/\y=.ref b/\H l=some (.tup xs)/\H b=some (.tup zs)/\xs.length+zs.length<=sizeLine/\∀p H',Zu H H'->H' p=some (.tup (xs++zs))->Q (.ref p) H'
theorem Zey:OpR X (binaryOp .Add) (Zl2 X.K):=by
 intro pins s σ H x y v u Q I rx ry h;obtain⟨l,b,xs,zs,rfl,rfl,hl,hb,hz,q⟩:=h;cases rx;cases ry;obtain⟨its,r,p1,z1⟩:=I.tuple (SqT.of hl);obtain⟨its2,r2,p2,z2⟩:=I.tuple (SqT.of hb);obtain⟨⟨c1,d1,t1,s1⟩,ho,hc,n,hd⟩:=p1;obtain⟨⟨c2,d2,t2,s2⟩,ho2,hc2,n2,hd2⟩:=p2;simp only at hc hd hc2 hd2;subst hc hd hc2 hd2;have k1:=r.length;have k2:=r2.length;by_cases e1:its=[]
 ·subst e1;cases r;refine concat_meets ⟨_,ho,rfl⟩ ⟨_,ho2,rfl⟩ noFill_tuple_add seq_tuple_add PySem.F.slot_tuple_add PySem.F.entry_tuple_add (PySem.F.args_tuple_add_2 _ _) (tuple_addW0 l b _ _ n n2 d1 d2 s1 s2 rfl) ⟨ho,ho2,?_⟩;exact⟨.ref b,H,I.tok _,rfl,q b H (Zu.refl H) hb⟩
 by_cases e2:its2=[]
 ·subst e2;cases r2;refine concat_meets ⟨_,ho,rfl⟩ ⟨_,ho2,rfl⟩ noFill_tuple_add seq_tuple_add PySem.F.slot_tuple_add PySem.F.entry_tuple_add (PySem.F.args_tuple_add_2 _ _) (tuple_addW1 l b _ _ n n2 d1 d2 s1 s2 (by simpa using e1) rfl) ⟨ho,ho2,?_⟩;exact⟨.ref l,H,I.tok _,rfl,q l H (Zu.refl H) (by rw[List.append_nil];exact hl)⟩
 ·refine concat_meets ⟨_,ho,rfl⟩ ⟨_,ho2,rfl⟩ noFill_tuple_add seq_tuple_add PySem.F.slot_tuple_add PySem.F.entry_tuple_add (PySem.F.args_tuple_add_2 _ _) (tuple_addW2 l b _ _ n n2 d1 d2 s1 s2 (by simpa using e1) (by simpa using e2) (by rw[List.size_toArray,List.size_toArray];lia)) ⟨ho,ho2,?_⟩;have ea:its.toArray++its2.toArray=(its++its2).toArray:=by simp
  rw[ea];have hf:H s.heap.objs.size=none:=I.hok.fresh (Nat.le_refl _);refine⟨.ref s.heap.objs.size,upd H s.heap.objs.size (.tup (xs++zs)),I.laid (t':=s.toks) (fun b u e=>Heap.get?_push_of_some _ e) (Nat.le_refl _) ?_,rfl,q _ _ (Zu.new hf) Zb⟩;exact⟨by rw[List.length_append];exact hz,its++its2,r.append r2,_,Heap.get?_push_size _ rfl,rfl,_,rfl⟩
end
end L2
namespace Fg
open PySem L2 FgM
theorem Zdh{K:PySem.W.Frag}{H:Hp}{a b:Addr}{xs ys:List V}{g:Gr Str}{neg:Bool}{Q:VK}(hA:SqT K H a xs)(hB:SqT K H b ys)(hG:RepG H xs g)(hG':RepG H ys g)(ok:OkW (words SL g))(hl:(words SL g).length<=1000)(q:Q (.bl (!neg)) H):ZkN K 1001 neg (.ref a) (.ref b) H Q:=by
 have hy:(PyData.tuple (Zcp g)).canLay0=true:=Zmn g ok;have hd:=Zh3 g;refine⟨.tuple (Zcp g),.tuple (Zcp g),.tup hA (dpG hG),.tup hB (dpG hG'),hy,hy,?_,?_⟩
 ·show min (PyData.depthAll (Zcp g)+1) (PyData.depthAll (Zcp g)+1)<=1001;lia
 ·rw[PySem.SeqAt.eqv_refl _ hy];cases neg <;> exact q
end Fg
namespace FgM
section
variable{A:Type}
def ZaZ:Gr A->Gr A->Gr A
 | .nil,h=>h
 | .cons t w o,h=>.cons t w (ZaZ o h)
theorem ZcB(sl:A):∀g h:Gr A,words sl (ZaZ g h)=words sl g++words sl h
 | .nil,h=>rfl
 | .cons t w o,h=>by simp[ZaZ,words,ZcB sl o h]
variable[DecidableEq A]
end
end FgM
namespace Fg
open PySem L2 FgM
theorem RepG.ZaZ{H:Hp}:∀{xs ys:List V}{g h:Gr Str},RepG H xs g->RepG H ys h->RepG H (xs++ys) (ZaZ g h)
 | _,_,_,_,.nil,k=>k
 | _,_,_,_,.cons a b c d,k=>.cons a b c (RepG.ZaZ d k)
end Fg
namespace L2
open PySem PySem.Spec PyProof.Rows
theorem FnOk.none{P:Program}{w:World}{K:PySem.W.Frag}{mg:Str->Option Value}{base:Heap}{CX:CXT}{k:Nat}{f:Addr}{fd:FuncData}{ps:List Str}{sp:Sp}(h:∀vs H Q E,¬ sp vs H Q E):FnOk P w K mg base CX k f fd ps sp :=
 ⟨fun vs H Q E z=>absurd z (h vs H Q E),fun A outer s H args us vs Q E hr e0 hb r z=>absurd z (h vs H Q E)⟩
theorem lookup_mem{β : Type}{x:Str}{c : β}:∀{l:List (Str × β)},l.lookup x=some c->(x,c)∈l
 | [],h=>by cases h
 | (y,d)::l,h=>by
  rw[List.lookup_cons] at h;cases e:x == y with
  | true =>
   rw[e] at h;cases h;rw[beq_iff_eq.mp e];exact List.mem_cons_self ..
  | false =>
   rw[e] at h;exact List.mem_cons_of_mem _ (lookup_mem h)
theorem Zkd{env:Env}{cl:List (Str×Addr)}(h:∀p∈cl,env.cells.lookup p.1=some p.2):∀x c,cl.lookup x=some c->env.cells.lookup x=some c:=fun x c e=>h (x,c) (lookup_mem e)
theorem ZhR{scope:Scope}{env:Env}{cl:List (Str×Addr)}(h:∀y∈scope.names,(y.2=.cell\/y.2=.free)->∃c,cl.lookup y.1=some c):∀(C:Addr)(x:Str),((compEnvC scope cl C env).kindOf x=some .cell\/(compEnvC scope cl C env).kindOf x=some .free)->∃c,cl.lookup x=some c:=by
 have key:∀(k:NameKind)(x:Str),(k=.cell\/k=.free)->(scope.names.map fun(n,k)=>if(k ==.free&&env.scope.kind ==.function&&env.kindOf n == some .cell) then(n,.cell) else(n,k)).lookup x=some k->∃c,cl.lookup x=some c:=by
  intro k x hk e;obtain⟨⟨n,k0⟩,hy,he⟩:=List.mem_map.mp (lookup_mem e);by_cases hc:(k0 ==.free&&env.scope.kind ==.function&&env.kindOf n == some .cell)=true
  ·simp only[hc,if_true] at he;have h0:k0=.free:=by
    simp only[Bool.and_eq_true] at hc;have:=hc.1.1;cases k0 <;> first|rfl|exact absurd this (by decide)
   injection he with e1 e2;subst e1;exact h _ hy (.inr h0)
  ·simp only[hc] at he;injection he with e1 e2;subst e1 e2;exact h _ hy hk
 intro C x hx;rcases hx with e|e
 ·exact key _ x (.inl rfl) e
 ·exact key _ x (.inr rfl) e
def ZF:Stmt->List Stmt
 | .For _ _ b _ _=>b
 | .While _ b _ _=>b
 | .If _ b _ _=>b
 | _=>[]
def ZhM:Stmt->List Stmt
 | .If _ _ b _=>b
 | _=>[]
theorem Zr{X:Cx}{b:List Stmt}{D:Ends}{σ : St}{H:Hp}(s:List Stmt){t:TS}(h:PSs X s t)(k:∀u,PSs X s u->u=t->∃t,PSs X b t/\t D σ H):∃t,PSs X b t/\t D σ H:=k t h rfl
theorem Zo{u t:TS}(e:u=t){D:Ends}{σ : St}{H:Hp}(h:t D σ H):u D σ H:=e ▸ h
theorem Zjm{α : Type}:∀{us:List α},us.length=1->∃a,us=[a]
 | [a],_=>⟨a,rfl⟩
theorem ZlT{α : Type}{n:Nat}:∀{us:List α},us.length=n+1->∃a vs,us=a::vs/\vs.length=n
 | a::vs,h=>⟨a,vs,rfl,Nat.succ.inj h⟩
theorem Zkp{α : Type}{us:List α}(h:us.length=2):∃a b,us=[a,b]:=by
 obtain⟨a,vs,rfl,h2⟩:=ZlT h;obtain⟨b,rfl⟩:=Zjm h2;exact⟨a,b,rfl⟩
theorem ZfL{α : Type}{us:List α}(h:us.length=3):∃a b c,us=[a,b,c]:=by
 obtain⟨a,vs,rfl,h2⟩:=ZlT h;obtain⟨b,c,rfl⟩:=Zkp h2;exact⟨a,b,c,rfl⟩
theorem ZmC{α : Type}{us:List α}(h:us.length=4):∃a b c d,us=[a,b,c,d]:=by
 obtain⟨a,vs,rfl,h2⟩:=ZlT h;obtain⟨b,c,d,rfl⟩:=ZfL h2;exact⟨a,b,c,d,rfl⟩
theorem ZmX{α : Type}{us:List α}(h:us.length=5):∃a b c d e,us=[a,b,c,d,e]:=by
 obtain⟨a,vs,rfl,h2⟩:=ZlT h;obtain⟨b,c,d,e,rfl⟩:=ZmC h2;exact⟨a,b,c,d,e,rfl⟩
def XO(e:Addr)(C:Value)(d:Option Addr):Heap->Prop:=fun h=>∃oe vs,h.get? e=some oe/\oe.cls=C/\oe.dict=d/\oe.data=.fields vs/\4<vs.size
theorem XO.ext_ok{P:Program}{w:World}{H:Hp}{h:Heap}{e:Addr}{C:Value}{d:Option Addr}(x:XO e C d h):Zar P w H h e (.ext (XO e C d)):=by
 refine⟨x,?_,fun h1 h2 p k=>?_⟩
 ·obtain⟨oe,_,ho,_⟩:=x;exact⟨oe,ho⟩
 ·obtain⟨oe,vs,ho,r⟩:=p;exact⟨oe,vs,k oe ho,r⟩
theorem ZjJ{H:Hp}{a:Addr}{o:HO}(h:H a=some o):upd H a o=H:=by
 funext b
 unfold upd;by_cases e:b=a
 ·subst e;rw[if_pos rfl,h]
 ·rw[if_neg e]
section
variable{X:Cx}{pins:List (Addr×Obj)}{σ : St}{H:Hp}{s:Shared}{e T:Addr}{C:Value}{d:Option Addr}{M:Model}{A:Around}{E:Value->Shared->Prop}{Q:Unit->Shared->Prop}
theorem Inv.xo(I:Inv X pins σ H s)(he:H e=some (.ext (XO e C d))):XO e C d s.heap:=(I.hok e _ he).1
theorem Inv.poke{h':Heap}{t':Nat}(I:Inv X pins σ H s)(he:H e=some (.ext (XO e C d)))(k:∀b u,b≠e->s.heap.get? b=some u->h'.get? b=some u)(x:XO e C d h'):Inv X pins σ H { s with heap:=h',toks:=t' }:=by
 have:=I.write (x:=e) (e:=e) (o:=.ext (XO e C d)) (h':=h') (t':=t') (by rw[he];trivial) (.inl rfl) k (by obtain⟨oe,_,ho,_⟩:=x;exact⟨oe,ho⟩) x.ext_ok
 rwa [ZjJ he] at this
def XHead(X:Cx)(pins:List (Addr×Obj))(H:Hp)(h:Heap)(e:Addr)(fl:Value):Prop :=
 ∃T oT ts oe vs,h.get? e=some oe/\oe.data=.fields vs/\vs[1]?= some (.ref T)/\ZeE X pins H T/\h.get? T=some oT/\oT.data=.fields ts/\ts[3]?= some fl
def XSt(X:Cx)(pins:List (Addr×Obj))(H:Hp)(h:Heap)(e:Addr):Prop:=(∃oe vs,h.get? e=some oe/\oe.data=.fields vs/\vs[1]?= some .none)\/XHead X pins H h e .none
theorem ZgA{h:Heap}{a:Addr}{o:Obj}{vs:Array Value}(i:Nat)(x:Value)(ho:h.get? a=some o)(hd:o.data=.fields vs) :
  (h.update a (Obj.mapFields (·.setIfInBounds i x))).get? a=some (o.mapFields (·.setIfInBounds i x)):=Heap.get?_update_self _ ho (Obj.isFreed_of_fields (Obj.data_mapFields hd _))
theorem ZjQ(o:Obj)(f:Array Value->Array Value):(o.mapFields f).dict=o.dict:=by
 obtain⟨c,d,dt,sl⟩:=o;cases dt <;> rfl
theorem XO.put{h:Heap}(x:XO e C d h)(i:Nat)(v:Value):XO e C d (h.update e (Obj.mapFields (·.setIfInBounds i v))):=by
 obtain⟨oe,vs,ho,hc,hdd,hd,hz⟩:=x;exact⟨_,_,ZgA i v ho hd,(Obj.cls_mapFields ..).trans hc,(ZjQ ..).trans hdd,Obj.data_mapFields hd _,by simpa using hz⟩
theorem Inv.slots{h':Heap}(I:Inv X pins σ H s)(hs:Heap.SlotsOnly (frs X.stack) s.heap h'):Inv X pins σ H { s with heap:=h' }:=by
 refine I.call' (s':={ s with heap:=h' }) (ch:=[]) rfl ⟨fun b o q n hb _=>(hs.2.1 b hb).trans q,fun b o q _ _ _=>hs.2.2 b o q,fun _ _ _ n _=>n,fun b o q _=>let ⟨sl,e⟩:=hs.2.2 b o q;⟨_,e⟩,fun _ _ q=>q,fun _ _ _ q=>q,fun _ ps q=>⟨#[],by rw[q];simp⟩⟩ ?_ I.bare (fun b z=>absurd z (by simp));intro b o q;have hfr:=I.stkFree;refine(I.hok b o q).stay (fun c u hc z=>?_) (fun _ z=>z) (fun _ _ z=>z);have hn:c∉frs X.stack:=by
  intro hm;rcases hc with rfl|hc
  ·rw[hfr _ hm] at q;cases q
  ·rw[hfr _ hm] at hc;cases hc
 exact(hs.2.1 c hn).trans z
theorem ZgM{head:Value}{hadNext:Bool}(hA:A.frames=some (X.env::X.outer))(hstk:X.stack=X.env::X.outer)(hf:X.env.frame=some X.env.locals)(I:Inv X pins σ H s)(he:H e=some (.ext (XO e C d)))
  (h:∀h',Inv X pins σ H { s with heap:=h' }->XHead X pins H h' e (rawInt X.env.locals)->Q () { s with heap:=h' }) :
  wpAny M A (frameOf X.env >>= fun a=>entryPlaceOf X.env.locals hadNext >>= fun pl=>EntryCells.newEntry head a .none (rawInt X.env.locals) .none pl >>= fun b=>setField (.ref e) 1 b) Q E s:=by
 have hl:s.heap.FunFrames X.base (X.env::X.outer):=hstk ▸ I.stack;refine wpAny_bind (wpAny_frameOf_fun hA hl hf fun h1 hs1=>?_);have I1:Inv X pins σ H { s with heap:=h1 }:=I.slots (by rw[hstk];exact hs1);refine wpAny_bind (wpAny_entryPlaceOf fun pl hpl=>?_);unfold EntryCells.newEntry newFields;refine wpAny_bind (wpAny_newObj_type ?_ (hpl.sizeOk5 _ _ _ _ _));generalize hob:({ cls:=Value.type "traceback",dict:=none,data:=Data.fields ([head,Value.ref X.env.locals,Value.none,rawInt X.env.locals,Value.none]++(if pl.isEmpty then List.replicate 6 Value.none else pl)).toArray }:Obj)=ob
 have I2:Inv X pins σ H { s with heap:=h1.push ob }:=I1.kept (h':=h1.push ob) (t':=s.toks) fun b u q=>Heap.get?_push_of_some _ q;obtain⟨oe,vs,ho,hc,hdd,hd,hz⟩:=I2.xo he;refine wpAny_setField ho hd (by lia) (h _ (I2.poke (t':=s.toks) he (fun b u hb q=>(Heap.get?_update_other _ _ (Ne.symm hb)).trans q) ((I2.xo he).put 1 _)) ?_);have hT:(h1.push ob).get? h1.objs.size=some ob:=Heap.get?_push_size _ (by rw[<- hob];rfl);have hne:e≠h1.objs.size:=fun z=>by
  have:=I1.hok.lt he;rw[z] at this;exact absurd this (Nat.lt_irrefl _)
 refine⟨h1.objs.size,ob,([head,Value.ref X.env.locals,Value.none,rawInt X.env.locals,Value.none]++(if pl.isEmpty then List.replicate 6 Value.none else pl)).toArray,_,_,ZgA 1 _ ho hd,Obj.data_mapFields hd _,?_,I1.fpOk (Nat.le_refl _) (I1.hok.fresh (Nat.le_refl _)),(Heap.get?_update_other _ _ hne).trans hT,?_,?_⟩
 ·rw[Array.getElem?_setIfInBounds_self_of_lt (by lia)]
 ·rw[<- hob]
 ·simp
theorem ZiO(hA:A.frames=some (X.env::X.outer))(hstk:X.stack=X.env::X.outer)(hf:X.env.frame=some X.env.locals)(I:Inv X pins σ H s)(he:H e=some (.ext (XO e C d)))(x:XSt X pins H s.heap e)
  (h:∀h',Inv X pins σ H { s with heap:=h' }->XHead X pins H h' e (rawInt X.env.locals)->Q () { s with heap:=h' }):wpAny M A (noteFrame (.ref e) X.env) Q E s:=by
 unfold noteFrame;simp only[hf];rcases x with⟨oe,vs,ho,hd,h1⟩|⟨T,oT,ts,oe,vs,ho,hd,h1,fT,hT,hdT,h3⟩
 ·refine wpAny_bind (wpAny_field ho hd h1 ?_);rw[if_neg (by decide)];exact ZgM hA hstk hf I he h
 ·refine wpAny_bind (wpAny_field ho hd h1 ?_);rw[if_pos (show(Value.ref T != Value.none)=true by simp)];refine wpAny_bind (wpAny_field hT hdT h3 ?_);rw[if_neg (show ¬ ((Value.none == rawInt X.env.locals)=true) by simp[rawInt])];refine wpAny_bind (wpAny_setField hT hdT (Array.getElem?_eq_some_iff.mp h3).1 ?_);obtain⟨f0,f1,f2,f3,f4,f5⟩:=fT;have I1:=I.turned (t':=s.toks) (h':=s.heap.update T (Obj.mapFields (·.setIfInBounds 3 Value.none))) (fun b u hb q=>(Heap.get?_update_other _ _ (Ne.symm hb)).trans q) f0 f1 f3 f4 f5;exact ZgM hA hstk hf I1 he h
theorem Zia{fl:Value}(I:Inv X pins σ H s)(he:H e=some (.ext (XO e C d)))(x:XHead X pins H s.heap e fl)
  (h:∀h',Inv X pins σ H { s with heap:=h' }->XHead X pins H h' e .none->Q () { s with heap:=h' }):wpAny M A (setFlight (.ref e) none) Q E s:=by
 obtain⟨T,oT,ts,oe,vs,ho,hd,h1,fT,hT,hdT,h3⟩:=x;unfold setFlight;refine wpAny_bind (wpAny_field ho hd h1 ?_);rw[if_pos (show(Value.ref T != Value.none)=true by simp)];refine wpAny_setField hT hdT (Array.getElem?_eq_some_iff.mp h3).1 ?_;obtain⟨f0,f1,f2,f3,f4,f5⟩:=id fT;have hne:T≠e:=fun z=>by subst z;rw[f0] at he;cases he
 refine h _ (I.turned (t':=s.toks) (fun b u hb q=>(Heap.get?_update_other _ _ (Ne.symm hb)).trans q) f0 f1 f3 f4 f5) ⟨T,_,_,oe,vs,(Heap.get?_update_other _ _ hne).trans ho,hd,h1,fT,ZgA 3 _ hT hdT,Obj.data_mapFields hdT _,?_⟩;rw[Array.getElem?_setIfInBounds_self_of_lt (Array.getElem?_eq_some_iff.mp h3).1];rfl
end
abbrev XKS:=St->XK
def CXE(P:Program)(w:World):CXT:=fun outer H s E ev s'=>∃(e:Addr)(C:Value)(d:Option Addr)(H':Hp),ev=.ref e/\s'.os=s.os/\AllBare s'.gens/\Un (frs outer) [] H H' s.heap s'.heap/\HOk P w H' s'.heap /\
 H' e=some (.ext (XO e C d))/\s.heap.objs.size<=e/\(∃T oT ts oe vs,s'.heap.get? e=some oe/\oe.data=.fields vs/\vs[1]?= some (.ref T)/\H' T=none/\s.heap.objs.size<=T/\s'.heap.get? T=some oT/\oT.data=.fields ts/\ts[3]?= some .none)/\E C d H'
def Zhi(X:Cx)(E:XKS):Prop := ∀(pins:List (Addr×Obj))(σ : St)(H:Hp)(s:Shared)(e:Addr)(C:Value)(d:Option Addr),Inv X pins σ H s->H e=some (.ext (XO e C d))->(X.ex=[]->X.s₀.heap.objs.size<=e)->XSt X pins H s.heap e->E σ C d H->X.xe (.ref e) s
theorem ZfD{P:Program}{w:World}{K:PySem.W.Frag}{mg:Str->Option Value}{base:Heap}{N:List Str}{qual:Str}{scope:Scope}{f:Addr}{cd:Value}{A:Around}{outer:List Env}{s:Shared}{H:Hp}{E:XK} :
  Zhi (Zjn (CXE P w) P w K mg base N qual scope f cd A outer s H E) (fun _=>E):=by
 intro pins σ H1 s1 e C d I he hy x hE;show wpAny _ _ (leaving _ _) _ _ s1;unfold leaving;refine wpAny_bind (ZiO (X:=Zjn (CXE P w) P w K mg base N qual scope f cd A outer s H E) I.ok.frames rfl rfl I he x fun h2 I2 x2=>Zia I2 he x2 fun h3 I3 x3=>?_);obtain⟨T,oT,ts,oe,vs,ho,hd,h1,fT,hT,hdT,h3'⟩:=x3;refine⟨e,C,d,H1,rfl,I3.os,I3.bare,I3.base,I3.hok,he,hy rfl,⟨T,oT,ts,oe,vs,ho,hd,h1,fT.1,?_,hT,hdT,h3'⟩,hE⟩;rcases fT.2.2.2.1 with z|z
 ·exact absurd z (by show T∉([]:List Addr);simp)
 ·exact z
theorem Zho{X:Cx}{E:XKS}(hT:Zhi X E){pins:List (Addr×Obj)}{σ : St}{H:Hp}{s s':Shared}{ev:Value}(I:Inv X pins σ H s)(h:CXE X.prog X.w X.stack H s (E σ) ev s'):X.xe ev s':=by
 obtain⟨e,C,d,H',rfl,os,bare,un,hok,he,hes,⟨T,oT,ts,oe,vs,ho,hd,h1,hTn,hTs,hT',hdT,h3⟩,hE⟩:=h;have I1:=I.call' (ch:=[]) os un hok bare (fun b z=>absurd z (by simp));exact hT pins σ H' s' e C d I1 he (fun _=>Nat.le_trans I.sz hes) (.inr ⟨T,oT,ts,oe,vs,ho,hd,h1,I.fpOk hTs hTn,hT',hdT,h3⟩) hE
structure HasX(P:Program)(w:World)(K:PySem.W.Frag)(mg:Str->Option Value)(base:Heap)(x:Str)(ps:List Str)(k:Nat)(sp:Sp):Prop where
 ex:∃(f:Addr)(fd:FuncData),FnOk P w K mg base (CXE P w) k f fd ps sp/\Binds K fd ps []/\PySem.W.keepIn K (.ref f)=true/\mg x=some (.ref f)
def ZlM(sp:Sp)(E:XKS)(t:TA):TE:=fun σ H Q=>t σ H fun vs H1=>sp vs H1 Q (E σ)
section
variable{X:Cx}{j k:Nat}{f:Addr}{fd:FuncData}{ps:List Str}{sp:Sp}{E:XKS}{x:Str}{p pos:Pos}{e:Expr}{es:List Expr}{t:TA}
theorem ZkK{pins:List (Addr×Obj)}{σ : St}{H:Hp}{s:Shared}{Q:VK}{us:List Value}{vs:List V}(F:FnOk X.prog X.w X.K X.mg X.base (CXE X.prog X.w) k f fd ps sp)(hr:Room k X.A)(hb:Binds X.K fd ps [])(hT:Zhi X E)
  (I:Inv X pins σ H s) (r:Vals vs us) (h:sp vs H Q (E σ)):wpAny (model X.prog X.w) X.A (call (.ref f) us) (EP X pins σ Q) X.xe s:=by
 have hl:us.length=ps.length:=by rw[<- r.length];exact F.len _ _ _ _ h
 have hbb:=hb s us I.kIn (by rw[List.append_nil];exact hl);rw[List.append_nil] at hbb;refine wpAny_call (codeAny_mono (F.run X.A X.stack s H ⟨us,[]⟩ us vs Q (E σ) hr I.env0 hbb r h) fun r s' hq=>?_);cases r with
 | error e=>exact Zho hT I hq
 | ok fl =>
  cases fl with
  | ret u=>exact I.after hq
  | next=>exact False.elim hq
  | brk=>exact False.elim hq
  | cont=>exact False.elim hq
theorem Zh2(G:HasX X.prog X.w X.K X.mg X.base x ps j sp)(hT:Zhi X E)(hr:Room k X.A)(hg:Gl X x)(ha:PA X (e::es) t)(hk:j<=k:=by decide)(hdb:(x == ("__debug__" : Str))=false:=by decide)
  (he:starEach (e::es) X.env=(false,eval e X.env)::starEach es X.env:=by rfl) (hpl:(backTo pos (starEach es X.env)).any (·.1)=false:=by rfl) :
  PE X (.Call (.Name x p) (e::es) [] pos) (ZlM sp E t):=by
 obtain⟨f,fd,F,b,kp,m⟩:=G.ex;intro pins s σ H Q I h;refine wpAny_Call_Name_kw (Zdp I hg m ?_ hdb);refine PySem.W.callWith_K (h₀ := X.base) I.ok.mod.kin kp (thn (ha pos pins s σ H _ I h) fun us s1 ⟨vs,H1,I1,r,q⟩=>⟨I1.kIn,?_⟩) he hpl;exact ZkK (F.room hk) hr b hT I1 r q
end
theorem Fun.okX{P:Program}{w:World}{K:PySem.W.Frag}{mg:Str->Option Value}{base:Heap}{x qual:Str}{st:Stmt}{f:Addr}{fd:FuncData}{N ps:List Str}{k:Nat}{sp:Sp}(F:Fun K x qual st f fd)(S:FnScope N ps (Zg st))(len:∀vs H Q E,sp vs H Q E->vs.length=ps.length)
  (hbody:∀(cdv:Value)(A:Around)(outer:List Env)(s:Shared)(H:Hp)(vs:List V)(Q:VK)(E:XK),Room k (A.deeper (envOfC qual (Zg st) s.heap.objs.size f cdv))->sp vs H Q E ->
   ∃t,PSs (Zjn (CXE P w) P w K mg base N qual (Zg st) f cdv A outer s H E) (Ze st) t/\t { nx:=fun _ H'=>Q .non H',rt:=Q } (start N vs) H):FnOk P w K mg base (CXE P w) (k+1) f fd ps sp:=by
 obtain⟨oc,od,kV,doc,pm,an,cdv,ct,osl,rfl,lk,hcd⟩:=F.ex;exact Zk2 lk hcd S len fun A outer s H vs Q E hr hsp=>hbody cdv A outer s H vs Q E hr hsp
structure XCl(K:PySem.W.Frag)(D:Addr):Prop where
 cl:PySem.W.isClsIn K D=true
 exc:PySem.W.mroIn K D (.type "BaseException")=some true
 nt:PySem.W.instIn K (.ref D) (.type "tuple")=some false
inductive Spec(K:PySem.W.Frag)(H:Hp):V->List Addr->Prop
 | one {D:Addr}:XCl K D->Spec K H (.ref D) [D]
 | many {p:Addr} {Ds:List Addr}:SqT K H p (Ds.map V.ref)->(∀D∈Ds,XCl K D)->Spec K H (.ref p) Ds
theorem ZfH:∀{Ds:List Addr}{us:List Value},Vals (Ds.map V.ref) us->us=Ds.map Value.ref
 | [],_,.nil=>rfl
 | D::Ds,_,.cons r t=>by
  rw[ZfH t];obtain rfl:_=Value.ref D:=r;rfl
section
variable{M:Model}{A:Around}{E:Value->Shared->Prop}{s:Shared}{K:PySem.W.Frag}{D:Addr}
theorem XCl.isExc(x:XCl K D)(X:K.In s.heap){Q:Bool->Shared->Prop}(h:Q true s):wpAny M A (isExcClass (.ref D)) Q E s:=by
 have hc:=x.cl;unfold PySem.W.isClsIn PySem.W.clsIn at hc
 split at hc
 ·rename_i ho
  unfold isExcClass;refine wpAny_bind ?_;show wpAny M A (loadHead D >>= _) _ _ s;refine wpAny_bind (wpAny_loadPart (X _ _ ho) (wpAny_pure ?_));dsimp only;rw[if_pos rfl];exact(PySem.W.looks_mroIn X x.exc).here h
 ·cases hc
theorem Zgq{g:Value->PUnit->Sem (ForInStep PUnit)}:∀(Ls:List Addr),(∀D∈Ls,∀{Q:ForInStep PUnit->Shared->Prop},Q (.yield PUnit.unit) s->wpAny M A (g (.ref D) PUnit.unit) Q E s)->∀{Q:PUnit->Shared->Prop},Q PUnit.unit s->wpAny M A (forIn (Ls.map Value.ref) PUnit.unit g) Q E s
 | [],_,_,h=>wpAny_pure h
 | D::Ls,hg,_,h=>by
  rw[List.map_cons,List.forIn_cons];exact wpAny_bind (hg D (List.mem_cons_self ..) (Zgq Ls (fun y hy=>hg y (List.mem_cons_of_mem _ hy)) h))
theorem ZiM{f:Addr->Bool}{g:Value->Option Bool×Unit->Sem (ForInStep (Option Bool×Unit))}:∀(Ls:List Addr),(∀D∈Ls,∀{Q:ForInStep (Option Bool×Unit)->Shared->Prop},Q (if f D=true then .done (some true,()) else .yield (none,())) s->wpAny M A (g (.ref D) (none,())) Q E s) ->
  ∀{Q:Option Bool×Unit->Shared->Prop},Q (if Ls.any f=true then some true else none,()) s->wpAny M A (forIn (Ls.map Value.ref) ((none,()):Option Bool×Unit) g) Q E s
 | [],_,_,h=>wpAny_pure h
 | D::Ls,hg,_,h=>by
  rw[List.map_cons,List.forIn_cons];rw[List.any_cons] at h;refine wpAny_bind (hg D (List.mem_cons_self ..) ?_);cases hf:f D with
  | true =>
   rw[hf] at h;exact wpAny_pure h
  | false =>
   rw[hf] at h;exact ZiM Ls (fun y hy=>hg y (List.mem_cons_of_mem _ hy)) h
theorem Zmi{X:Cx}{pins:List (Addr×Obj)}{σ : St}{H:Hp}{f:Addr->Bool}{C e:Addr}{oe:Obj}{Q:Bool->Shared->Prop}{v:V}{u:Value}{Ds:List Addr}(I:Inv X pins σ H s)(hv:Spec X.K H v Ds)(r:RelV v u)(he:s.heap.get? e=some oe)(hc:oe.cls=.ref C)
  (hb:∀D∈Ds,PySem.W.mroIn X.K C (.ref D)=some (f D)) (h:Q (Ds.any f) s):wpAny M A (excMatches (.ref e) u) Q E s:=by
 cases hv with
 | @one D hD =>
  obtain rfl:u=Value.ref D:=r;unfold excMatches;refine wpAny_bind ((PySem.W.looks_instIn I.kIn hD.nt).here ?_);dsimp only;rw[if_neg Bool.false_ne_true];refine wpAny_bind (wpAny_pure ?_);refine wpAny_bind (Zgq [D] (fun y hy {Q} q=>?_) (wpAny_bind (wpAny_typeOf_ref he (wpAny_bind (ZiM (f:=f) [D] (fun y hy {Q} q=>?_) ?_)))))
  ·obtain rfl:=List.mem_singleton.mp hy;exact wpAny_bind (hD.isExc I.kIn (wpAny_pure q))
  ·rw[hc];refine wpAny_bind ((PySem.W.looks_mroIn I.kIn (hb y hy)).here ?_);cases hf:f y with
   | true=>rw[hf] at q;exact wpAny_pure q
   | false=>rw[hf] at q;exact wpAny_pure q
  ·cases hf:[D].any f with
   | true=>rw[hf] at h;exact wpAny_pure h
   | false=>rw[hf] at h;exact wpAny_pure h
 | @many p _ hp hD =>
  obtain rfl:u=Value.ref p:=r;obtain⟨its,rv,⟨o,ho,hcl,n,hd⟩,_⟩:=I.tuple hp;unfold excMatches;refine wpAny_bind (wpAny_isInstance (T := "tuple") ⟨o,ho,hcl⟩ (show isSubtype (.type "tuple") (.type "tuple")=pure true by rw[isSubtype_type];kernel_rfl) ?_);dsimp only;rw[if_pos rfl];refine wpAny_bind (wpAny_seqItems ho hd (wpAny_bind (wpAny_pure ?_)));have e1:((some its.toArray).getD #[]).toList=Ds.map Value.ref:=by
   rw[<- ZfH rv];rfl
  rw[e1];refine wpAny_bind (Zgq Ds (fun y hy {Q} q=>?_) (wpAny_bind (wpAny_typeOf_ref he (wpAny_bind (ZiM (f:=f) Ds (fun y hy {Q} q=>?_) ?_)))))
  ·exact wpAny_bind ((hD y hy).isExc I.kIn (wpAny_pure q))
  ·rw[hc];refine wpAny_bind ((PySem.W.looks_mroIn I.kIn (hb y hy)).here ?_);cases hf:f y with
   | true=>rw[hf] at q;exact wpAny_pure q
   | false=>rw[hf] at q;exact wpAny_pure q
  ·cases hf:Ds.any f with
   | true=>rw[hf] at h;exact wpAny_pure h
   | false=>rw[hf] at h;exact wpAny_pure h
end
abbrev Cx.tr(X:Cx)(pins:List (Addr×Obj))(E:Value->Shared->Prop):Cx:={ X with pn:=X.pn++pins,xe:=E }
abbrev Cx.hd(X:Cx)(e:Addr):Cx:={ X with A:=X.A.mark (some (.ref e)),calm:=false,xe:=fun _ _=>False }
section
variable{X:Cx}{pins pins':List (Addr×Obj)}{σ : St}{H:Hp}{s:Shared}{e:Addr}{E:Value->Shared->Prop}
theorem Inv.tr(I:Inv X pins σ H s)(E:Value->Shared->Prop):Inv (X.tr pins E) [] σ H s :=
 ⟨⟨I.ok.mod,I.ok.kind,I.ok.glob,I.ok.blt,I.ok.above,I.ok.inj,I.ok.has,I.ok.cab,I.ok.hd,I.ok.frames,I.ok.stk,I.ok.exf,I.ok.bs,I.ok.bsz,I.ok.noex,I.ok.exfs,I.ok.funs,I.ok.frf⟩,I.os,I.bare,I.base,I.loc,I.cell,I.free,I.freeC,fun p hp=>I.pin p (by simpa using hp),I.hok,I.len⟩
theorem Inv.untr(I:Inv (X.tr pins E) pins' σ H s):Inv X pins σ H s :=
 ⟨⟨I.ok.mod,I.ok.kind,I.ok.glob,I.ok.blt,I.ok.above,I.ok.inj,I.ok.has,I.ok.cab,I.ok.hd,I.ok.frames,I.ok.stk,I.ok.exf,I.ok.bs,I.ok.bsz,I.ok.noex,I.ok.exfs,I.ok.funs,I.ok.frf⟩,I.os,I.bare,I.base,I.loc,I.cell,I.free,I.freeC,fun p hp=>I.pin p (List.mem_append_left _ hp),I.hok,I.len⟩
theorem ZeE.untr{T:Addr}(f:ZeE (X.tr pins E) pins' H T):ZeE X pins H T:=⟨f.1,f.2.1,f.2.2.1,f.2.2.2.1,f.2.2.2.2.1,fun p hp=>f.2.2.2.2.2 p (List.mem_append_left _ hp)⟩
theorem Inv.hd(I:Inv X pins σ H s)(e:Addr):Inv (X.hd e) pins σ H s :=
 ⟨⟨I.ok.mod,I.ok.kind,I.ok.glob,I.ok.blt,I.ok.above,I.ok.inj,I.ok.has,I.ok.cab,(fun z=>nomatch z),I.ok.frames,I.ok.stk,I.ok.exf,I.ok.bs,I.ok.bsz,I.ok.noex,I.ok.exfs,I.ok.funs,I.ok.frf⟩,I.os,I.bare,I.base,I.loc,I.cell,I.free,I.freeC,I.pin,I.hok,I.len⟩
theorem Inv.unhd(I:Inv (X.hd e) pins σ H s)(ok:X.Ok):Inv X pins σ H s:=⟨ok,I.os,I.bare,I.base,I.loc,I.cell,I.free,I.freeC,I.pin,I.hok,I.len⟩
theorem Inv.drop1{p:Addr×Obj}(I:Inv X (p::pins) σ H s):Inv X pins σ H s:=I.pins_of fun q hq=>I.pin q (List.mem_append_right _ (List.mem_cons_of_mem _ hq))
theorem SP.untr{D:Ends}{f:Flow}{s':Shared}(h:SP (X.tr pins E) pins' D f s'):SP X pins D f s':=by
 cases f with
 | next=>obtain⟨σ',H',I,q⟩:=h;exact⟨σ',H',I.untr,q⟩
 | brk=>obtain⟨σ',H',I,q⟩:=h;exact⟨σ',H',I.untr,q⟩
 | cont=>obtain⟨σ',H',I,q⟩:=h;exact⟨σ',H',I.untr,q⟩
 | ret u=>obtain⟨v,σ',H',I,r,q⟩:=h;exact⟨v,σ',H',I.untr,r,q⟩
end
def Known(e:Addr)(oe:Obj):HO:=.ext fun h=>h.get? e=some oe
theorem Zjs{P:Program}{w:World}{H:Hp}{h:Heap}{e:Addr}{oe:Obj}(x:h.get? e=some oe):Zar P w H h e (Known e oe):=⟨x,⟨oe,x⟩,fun _ _ p k=>k _ p⟩
abbrev THS:=Ends->St->Hp->Addr->Obj->Prop
def PH(X:Cx)(hs:List ExceptHandler)(t:THS):Prop := ∀(pins:List (Addr×Obj))(s:Shared)(σ : St)(H:Hp)(D:Ends)(e:Addr)(oe:Obj)(T:Addr)(oT:Obj)(ts vs:Array Value),
 Inv X ((T,oT)::pins) σ H s->ZeE X pins H T->oe.data=.fields vs->vs[1]?= some (.ref T)->oT.data=.fields ts->ts[3]?= some .none->H e=some (Known e oe)->t D σ H e oe ->
 wpAny (model X.prog X.w) X.A (handleBy (.ref e) X.env hs) (SP X pins D) X.xe s
def ZmK(tb:XKS->TS)(th:THS):TS:=fun D σ H=>∃E:XKS,tb E D σ H/\∀(σ':St)(C:Value)(d:Option Addr)(H':Hp)(e:Addr)(oe:Obj),E σ' C d H'->H' e=some (.ext (XO e C d))->oe.cls=C->oe.dict=d->(∃vs,oe.data=.fields vs)->th D σ' (upd H' e (Known e oe)) e oe
section
variable{X:Cx}{body:List Stmt}{h₀ : ExceptHandler}{hs rest:List ExceptHandler}{tb:XKS->TS}{th tr:THS}{pos:Pos}
theorem ZlA(hstk:X.stack=X.env::X.outer)(hf:X.env.frame=some X.env.locals)
  (hb:∀(E:XKS)(pins:List (Addr×Obj))(E₁ : Value->Shared->Prop),Zhi (X.tr pins E₁) E->PassesOwn (model X.prog X.w) X.A X.env E₁ -> PSs (X.tr pins E₁) body (tb E)) (hh:PH X (h₀ :: hs) th):PS X (.Try body (h₀ :: hs) [] [] pos) (ZmK tb th):=by
 intro pins s σ H D I h;obtain⟨E,h1,h2⟩:=h;refine wpAny_Try_except ?_;refine wpAny_mono (hb E pins _ ?_ PassesOwn.looking [] s σ H D (I.tr _) h1) (fun f s1 q=>?_) fun e s1 q=>q
 ·intro pins' σ' H' s1 e C d I1 he hy x hE;refine ZiO (X:=X.tr pins _) (by rw[I.ok.frames,hstk]) hstk hf I1 he x fun h2' I2 x2=>Zia I2 he x2 fun h3 I3 x3=>?_;obtain⟨T,oT,ts,oe,vs,ho,hd,hv1,fT,hT,hdT,h3'⟩:=x3;obtain⟨oe',vs',ho',hc,hdd,_⟩:=I3.xo he;rw[ho] at ho';cases ho';have I4:=I3.untr;have I5:=I4.write (x:=e) (e:=e) (o:=Known e oe) (t':=s1.toks) (h':=h3) (by rw[he];trivial) (.inl rfl) (fun b u _ z=>z) ⟨oe,ho⟩ (Zjs ho);have fT':=fT.untr;have hne:T≠e:=fun z=>by subst z;rw[fT'.1] at he;cases he
  have fT2:ZeE X pins (upd H' e (Known e oe)) T:=⟨by rw[Zc hne];exact fT'.1,fT'.2⟩;have I6:Inv X ((T,oT)::pins) σ' (upd H' e (Known e oe)) { s1 with heap:=h3 }:=I5.pins_of fun p hp=>by
   rcases List.mem_cons.mp hp with rfl|hp
   ·exact⟨hT,fT2.1,fT2.2.1,fT2.2.2.1,fun v z=>by rw[hdT] at z;cases z⟩
   ·exact I5.pin p (List.mem_append_right _ hp)
  exact hh pins _ σ' _ D e oe T oT ts vs I6 fT2 hd hv1 hdT h3' Zb (h2 σ' C d H' e oe hE he hc hdd ⟨vs,hd⟩)
 ·cases f with
  | next =>
   obtain⟨σ',H',I',q⟩:=q;exact wpAny_execs_nil ⟨σ',H',I'.untr,q⟩
  | brk=>exact SP.untr q
  | cont=>exact SP.untr q
  | ret u=>exact SP.untr q
theorem Zgc{M:Model}{A:Around}{E:Value->Shared->Prop}{s:Shared}{e T:Addr}{oe oT:Obj}{vs ts:Array Value}{Q:Unit->Shared->Prop}(ho:s.heap.get? e=some oe)(hd:oe.data=.fields vs)(h1:vs[1]?= some (.ref T))(hT:s.heap.get? T=some oT)(hdT:oT.data=.fields ts)(h3:ts[3]?= some .none)(h:Q () s) :
  wpAny M A (setFlight (.ref e) none) Q E s:=by
 unfold setFlight;refine wpAny_bind (wpAny_field ho hd h1 ?_);rw[if_pos (show(Value.ref T != Value.none)=true by simp)];refine wpAny_setField hT hdT (Array.getElem?_eq_some_iff.mp h3).1 ?_;show Q () { s with heap:=s.heap.update T (Obj.mapFields (·.setIfInBounds 3 Value.none)) };rw[Heap.update_setField_same s.heap T oT ts 3 .none hT hdT h3];exact h
theorem ZlP{t:Expr}{b₀ : Stmt}{sb:List Stmt}{tt:TE}{tu:TS}(ht:∀e,PE (X.hd e) t tt)(hs:∀e,PSs (X.hd e) (b₀ :: sb) tu):PH X (.ExceptHandler (some t) none (b₀ :: sb) pos::rest)
  (fun D σ H e oe=>tt σ H fun v H1=>∃Ds C f,Spec X.K H1 v Ds/\oe.cls=.ref C/\(∀D∈Ds,PySem.W.mroIn X.K C (.ref D)=some (f D))/\Ds.any f=true/\H1 e=some (Known e oe)/\tu D σ H1):=by
 intro pins s σ H D e oe T oT ts vs I fT hd h1 hdT h3 he h;refine wpAny_handleBy_cons (codeAny_handlers_test (wpAny_mono ((ht e) ((T,oT)::pins) s σ H _ (I.hd e) h) (fun u s1 q=>?_) fun _ _ z=>z.elim)) (by intro z;cases z);obtain⟨v,H1,I1,r,Ds,C,f,hsp,hc,hb,hany,hkn,q⟩:=q;have I1':=I1.unhd I.ok;have hoe:=(I1'.hok e _ hkn).1;refine Zmi (f:=f) I1' hsp r hoe hc hb ?_;rw[hany];refine codeAny_handlers_suite ?_;have hTo:=(I1'.pin (T,oT) (List.mem_append_right _ (List.mem_cons_self ..))).1;refine Zgc hoe hd h1 hTo hdT h3 ?_;refine wpAny_mono ((hs e) pins s1 _ H1 D (I1'.drop1.hd e) q) (fun fl s3 q3=>?_) fun _ _ z=>z.elim;cases fl with
 | next=>obtain⟨σ',H',I3,q3⟩:=q3;exact⟨σ',H',I3.unhd I.ok,q3⟩
 | brk=>obtain⟨σ',H',I3,q3⟩:=q3;exact⟨σ',H',I3.unhd I.ok,q3⟩
 | cont=>obtain⟨σ',H',I3,q3⟩:=q3;exact⟨σ',H',I3.unhd I.ok,q3⟩
 | ret u=>obtain⟨v3,σ',H',I3,r3,q3⟩:=q3;exact⟨v3,σ',H',I3.unhd I.ok,r3,q3⟩
end
end L2
namespace L2
open PySem PySem.Spec PyProof.Rows PySem.W
abbrev bmV:List Value:=[.type "ValueError",.type "Exception",.type "BaseException",.type "object"]
def keysOk(es:Array DictEntry):Bool:=es.toList.all fun e=>match e.key with | .str _ _=>true|_=>false
structure XMid(K:Frag)(G:Addr):Prop where
 ob:∃c0 dd cd sl oc od es ep sl',K.lookup G=some ⟨c0,dd,.cls cd,sl⟩/\K.lookup cd.ns=some ⟨oc,od,.dict es ep,sl'⟩/\keysOk es=true/\nsIn K cd.ns "__init__" = some none
structure XTop(K:Frag)(C G:Addr):Prop where
 ob:∃nm q N bs hdct sn sub ab col dd k0 k1 k2 k3 k5,K.lookup C=some (excClassObj nm q C N bs (.ref G::bmV) hdct sn sub ab col dd k0 k1 k2 k3 k5 "ValueError.__new__")
 mid:XMid K G
 call:specialIn K (.ref C) "__call__" = some (some (.builtin "type.__call__"))
 typ:instIn K (.ref C) (.type "type")=some true
 kp:keepIn K (.ref C)=true
theorem XMid.tail{K:Frag}{G:Addr}{h:Heap}(x:XMid K G)(X:K.In h):OwnTail h bmV (.ref G::bmV):=by
 obtain⟨c0,dd,cd,sl,oc,od,es,ep,sl',h1,h2,h3,h4⟩:=x.ob;have hns:h.isNs cd.ns=true:=by
  unfold Heap.isNs;rw[X _ _ h2];have h5:=h3;unfold keysOk at h5;rw[Array.all_toList] at h5;exact h5
 have hN:=Heap.Ns.of_isNs hns;exact .own (X _ _ h1) hN (ns_none_of X hN h4) .base
theorem XTop.mro{K:Frag}{C G:Addr}(x:XTop K C G):∃cd,clsIn K C=some cd/\cd.mro=.ref C :: .ref G::bmV:=by
 obtain⟨nm,q,N,bs,hdct,sn,sub,ab,col,dd,k0,k1,k2,k3,k5,h1⟩:=x.ob;have e:clsIn K C=some { name:=nm,bases:=bs,mro:=.ref C :: .ref G::bmV,ns:=N,qualname:=q,hasDict:=hdct,slotNames:=sn,subclasses:=sub,abstract:=ab,collection:=col,hasDel:=false }:=by
  unfold clsIn;rw[h1]
 exact⟨_,e,rfl⟩
abbrev ZaK(C t:Addr):Obj:={ cls:=.ref C,data:=.fields #[.ref t,.none,.none,.none,.bool false,.none] }
abbrev Zam(vs:List Value):Obj:={ cls:=.type "tuple",data:=.seq vs.toArray }
section
variable{prog:Program}{w:World}{A:Around}{K:Frag}{C G f:Addr}{R:Result->Shared->Prop}{s:Shared}
theorem Zhw{us:List Value}{init:Value}(x:XTop K C G)(X:K.In s.heap)(hi:findIn K (.ref C) "__init__" = some (some init)) (b0:∀self,Looks (model prog w) s.heap (bindSpecial init self) (init,[self])) (hl:us.length<=sizeLine)
  (hq:codeAny (model prog w) (A.under (.builtin "type.__call__" ⟨.ref C::us,[]⟩)) (.call init ⟨.ref (s.heap.objs.size+1)::us,[]⟩) (InitBack (s.heap.objs.size+1) R)
   { s with heap:=(s.heap.push (Zam us)).push (ZaK C s.heap.objs.size) }) :
  codeAny (model prog w) A (.call (.ref C) ⟨us,[]⟩) R s:=by
 obtain⟨hh,g,d,t,os⟩:=s;obtain⟨nm,q,N,bs,hdct,sn,sub,ab,col,dd,k0,k1,k2,k3,k5,hK⟩:=x.ob;have hC:=X _ _ hK;have T:=x.mid.tail X;have call:=looks_specialIn (M:=model prog w) X x.call;have typ:=looks_instIn (M:=model prog w) X x.typ;have i0:=looks_findIn (M:=model prog w) X hi;refine codeAny_of_tree ?_;show wpAny _ _ (callAny (.ref C) _) _ _ _;refine nd_load hC ?_;show wpAny _ _ (callAny.viaDunder (.ref C) _) _ _ _;unfold callAny.viaDunder;refine wpAny_bind (call.at ?_);dsimp only;rw[tc_bind];refine wpAny_bind (wpAny_pure (wpAny_bind (wpAny_pure ?_)));refine wpAny_pure (a:=Fin.again (.call (.builtin "type.__call__") ⟨.ref C::us,[]⟩)) ⟨rfl,?_⟩;refine codeAny_call_builtin_at (Code.quiet_builtin _ (by decide +kernel)) entry_typeCall (check_slot tc_kind tc_split typ (tc_args _ _ _) ?_)
 repeat (first|with_reducible refine wpAny_loadPart_at hC ?_|with_reducible refine wpAny_madeBy_exc hC ?_|wp_step)
 refine codeAny_call_builtin_code (Code.quiet_builtin _ F.excBase_ValueError.quiet) (wpAny_check_new_subT F.excBase_ValueError T hC (codeAny_exc_new_subT F.excBase_ValueError T hC ?_ hl));show wpAny _ _ _ _ _ _;have k:∀b o,hh.get? b=some o->((hh.push (Zam us)).push (ZaK C hh.objs.size)).get? b=some o:=fun b o e=>Heap.get?_push_of_some _ (Heap.get?_push_of_some _ e);have hx:((hh.push (Zam us)).push (ZaK C hh.objs.size)).get? (hh.objs.size+1)=some (ZaK C hh.objs.size):=by heap_get
 have t1:Looks (model prog w) ((hh.push (Zam us)).push (ZaK C hh.objs.size)) (typeOf (.ref (hh.objs.size+1))) (.ref C):=(Looks.ld hx).andThen .now;have s1:Looks (model prog w) ((hh.push (Zam us)).push (ZaK C hh.objs.size)) (isSubtype (.ref C) (.ref C)) true:=by
  obtain⟨cd,hc,hm⟩:=x.mro;refine(looks_mroIn X ?_).keeps k;unfold mroIn;rw[hc,Option.bind_some,hm];simp
 have i1:=i0.keeps k;have b1:=(b0 (.ref (hh.objs.size+1))).keeps k;unfold isInstance callSpecial? specialOf
 repeat (first|with_reducible refine wpAny_call ?_|lk)
 refine codeAny_mono hq fun r s' z=>?_;rcases r with e|(v|_|_|_) <;> first|exact z|exact z.elim|skip
 obtain⟨rfl,z⟩:=z;exact wpAny_pure (wpAny_pure z)
end
def Zm8(x:Addr)(C:Value)(d:Option Addr):Heap->Prop:=fun h=>∃ox vs t,h.get? x=some ox/\ox.cls=C/\ox.dict=d/\ox.data=.fields vs/\4<vs.size/\vs[0]?= some (.ref t)/\vs[1]?= some .none
theorem ZjW{M:Model}{A:Around}{E:Value->Shared->Prop}{s:Shared}{env:Env}{K:Frag}{C G:Addr}{x0:Sem Value}{Q:Flow->Shared->Prop}(hh:A.handled=none)(y:XTop K C G)
  (h:wpAny M A x0 (fun v s1=>∃x d,v=.ref x/\K.In s1.heap/\Zm8 x (.ref C) d s1.heap/\E (.ref x) s1) E s):wpAny M A (raiseStmt env (some x0) none) Q E s:=by
 unfold raiseStmt;refine wpAny_bind (wpAny_mono h (fun v s1 q=>?_) fun _ _ z=>z);obtain⟨x,d,rfl,X,⟨ox,vs,t,ho,hc,hd,hf,hz,h0,h1⟩,hE⟩:=q;obtain⟨cd,hcd,hmro⟩:=y.mro;have ty:Looks M s1.heap (typeOf (.ref x)) (.ref C):=hc ▸ (Looks.ld ho).andThen .now;have isb:Looks M s1.heap (isInstance (.ref x) (.type "BaseException")) true:=ty.andThen (looks_mroIn X (by unfold mroIn;rw[hcd,Option.bind_some,hmro];rfl));have nt:Looks M s1.heap (isType (.ref x)) false:=by
  intro A' Q' E' s' k q;unfold isType loadHead;refine wpAny_bind (wpAny_loadPart (k _ _ ho) ?_);rw[hf];exact wpAny_pure q
 obtain⟨nm,q,N,bs,hdct,sn,sub,ab,col,dd,k0,k1,k2,k3,k5,hK⟩:=y.ob;have tt:Looks M s1.heap (typeOf (.ref C)) (.type "type"):=(Looks.ld (X _ _ hK)).andThen .now;refine wpAny_bind (wpAny_pure (wpAny_bind (wpAny_holding ?_)));unfold excFromValue isExcClass;refine wpAny_bind (wpAny_bind (nt.here ?_));rw[if_neg Bool.false_ne_true];refine wpAny_pure ?_;rw[if_neg Bool.false_ne_true];refine wpAny_bind (isb.here ?_);rw[if_pos rfl];refine wpAny_pure ?_;refine wpAny_bind (nt.here ?_);rw[if_neg Bool.false_ne_true];unfold raisedInstance;refine wpAny_bind (wpAny_bind (ty.here (wpAny_bind (tt.here ?_))));rw[if_pos (by decide)];refine wpAny_pure ?_;unfold setFlight;refine wpAny_bind (wpAny_bind (wpAny_field ho hf h1 ?_));rw[if_neg (by decide)];exact wpAny_pure (wpAny_raiseNew_none hh hE)
structure XBas(K:Frag)(G:Addr):Prop where
 ga:specialIn K (.ref G) "__getattribute__" = some (some (.builtin "type.__getattribute__"))
 rd:readsIn K G (.type "type")=true
 fi:findCls K (.ref G) (.type "type") "__init__" = some (.val (.builtin "ValueError.__init__"))
section
variable{prog:Program}{w:World}{A:Around}{K:Frag}{C G:Addr}{R:Result->Shared->Prop}{s:Shared}
theorem ZlS{us:List Value}(x:XTop K C G)(X:K.In s.heap)(hi:findIn K (.ref C) "__init__" = some (some (.builtin "ValueError.__init__"))) (hl:us.length<=sizeLine)
  (hq:R (.ok (.ret (.ref (s.heap.objs.size+1)))) { s with heap:=(((s.heap.push (Zam us)).push (ZaK C s.heap.objs.size)).push (Zam us)).update (s.heap.objs.size+1) (Obj.mapFields (·.setIfInBounds 0 (.ref (s.heap.objs.size+2)))) }) :
  codeAny (model prog w) A (.call (.ref C) ⟨us,[]⟩) R s:=by
 have F0:=F.excBase_ValueError;refine Zhw x X hi (fun self=>Looks.of_pure (F0.init.bind self)) hl ?_;obtain⟨hh,g,d,tk,os⟩:=s;obtain⟨nm,q,N,bs,hdct,sn,sub,ab,col,dd,k0,k1,k2,k3,k5,hK⟩:=x.ob;have k:∀b o,hh.get? b=some o->((hh.push (Zam us)).push (ZaK C hh.objs.size)).get? b=some o:=fun b o e=>Heap.get?_push_of_some _ (Heap.get?_push_of_some _ e);have hx:((hh.push (Zam us)).push (ZaK C hh.objs.size)).get? (hh.objs.size+1)=some (ZaK C hh.objs.size):=by heap_get
 have X2:=X.keeps k;refine codeAny_call_builtin F0.init.plain F0.initEntry (wpAny_check_init_subT F0 (x.mid.tail X2) (X2 _ _ hK) hx rfl ?_);have hx2:(((hh.push (Zam us)).push (ZaK C hh.objs.size)).push (Zam us)).get? (hh.objs.size+1)=some (ZaK C hh.objs.size):=Heap.get?_push_of_some _ hx;unfold Builtin.«BaseException.__init__»;refine wpAny_bind (wpAny_newTuple ?_ hl);unfold Builtin.BaseException.bexcPut;refine wpAny_bind (wpAny_bind (wpAny_field (s:=⟨((hh.push (Zam us)).push (ZaK C hh.objs.size)).push (Zam us),g,d,tk,os⟩) hx2 rfl (x:=.ref hh.objs.size) rfl (wpAny_bind (wpAny_setField (s:=⟨((hh.push (Zam us)).push (ZaK C hh.objs.size)).push (Zam us),g,d,tk,os⟩) hx2 rfl (by simp) ?_))))
 wp_walk
 refine⟨rfl,?_⟩;have e2:((hh.push (Zam us)).push (ZaK C hh.objs.size)).objs.size=hh.objs.size+2:=by rw[Heap.size_push,Heap.size_push]
 rw[<- e2] at hq;exact hq
end
def Zi2(C:Addr)(E:XKS)(t:TA):TS:=fun _ σ H=>t σ H fun vs H1=>vs.length<=1000/\∀y,H1 y=none->E σ (.ref C) none (upd H1 y (.ext (XO y (.ref C) none)))
section
variable{X:Cx}{j k:Nat}{C G:Addr}{E:XKS}{x:Str}{p pos cpos:Pos}{e:Expr}{es:List Expr}{t:TA}
theorem ZiA(Z:XTop X.K C G)(hi:findIn X.K (.ref C) "__init__" = some (some (.builtin "ValueError.__init__"))) (nm:X.mg x=some (.ref C)) (hT:Zhi X E) (hr:Room k X.A) (hg:Gl X x) (ha:PA X (e::es) t) (hdb:(x == ("__debug__" : Str))=false:=by decide)
  (he:starEach (e::es) X.env=(false,eval e X.env)::starEach es X.env:=by rfl) (hpl:(backTo cpos (starEach es X.env)).any (·.1)=false:=by rfl) :
  PS X (.Raise (some (.Call (.Name x p) (e::es) [] cpos)) none pos) (Zi2 C E t):=by
 intro pins s σ H D I h;show wpAny _ _ (standAt pos >>= fun _=>raiseStmt X.env (some (eval (.Call (.Name x p) (e::es) [] cpos) X.env >>= fun v=>standAt pos >>= fun _=>pure v)) none) _ _ s;refine wpAny_bind (wpAny_standAt (ZjW (hr.hd) Z (wpAny_bind ?_)));refine wpAny_Call_Name_kw (Zdp I hg nm ?_ hdb);refine PySem.W.callWith_K (h₀ := X.base) I.ok.mod.kin Z.kp (thn (ha cpos pins s σ H _ I h) fun us s1 ⟨vs,H1,I1,r,hl,q⟩=>⟨I1.kIn,?_⟩) he hpl;have hlu:us.length<=sizeLine:=by rw[<- r.length];exact Nat.le_trans hl (by decide)
 have hy:H1 (s1.heap.objs.size+1)=none:=I1.hok.fresh (Nat.le_succ _);have hE:=q (s1.heap.objs.size+1) hy;refine wpAny_call (ZlS Z I1.kIn hi hlu ?_);have hx:((s1.heap.push (Zam us)).push (ZaK C s1.heap.objs.size)).get? (s1.heap.objs.size+1)=some (ZaK C s1.heap.objs.size):=by heap_get
 have hx2:(((s1.heap.push (Zam us)).push (ZaK C s1.heap.objs.size)).push (Zam us)).get? (s1.heap.objs.size+1)=some (ZaK C s1.heap.objs.size):=Heap.get?_push_of_some _ hx;have I2:Inv X pins σ (upd H1 (s1.heap.objs.size+1) (.ext (XO (s1.heap.objs.size+1) (.ref C) none))) { s1 with heap:=(s1.heap.push (Zam us)).push (ZaK C s1.heap.objs.size) }:=by
  have a:=I1.kept (t':=s1.toks) (h':=s1.heap.push (Zam us)) fun b u q=>Heap.get?_push_of_some _ q;exact a.laid (t':=s1.toks) (fun b u q=>Heap.get?_push_of_some _ q) (by show(s1.heap.push (Zam us)).objs.size<=_;rw[Heap.size_push];exact Nat.le_refl _) (XO.ext_ok ⟨_,_,hx,rfl,rfl,rfl,by simp⟩)
 have I3:=I2.kept (t':=s1.toks) (h':=((s1.heap.push (Zam us)).push (ZaK C s1.heap.objs.size)).push (Zam us)) fun b u q=>Heap.get?_push_of_some _ q;have I4:=I3.poke (t':=s1.toks) (h':=(((s1.heap.push (Zam us)).push (ZaK C s1.heap.objs.size)).push (Zam us)).update (s1.heap.objs.size+1) (Obj.mapFields (·.setIfInBounds 0 (.ref (s1.heap.objs.size+2))))) Zb (fun b u hb z=>(Heap.get?_update_other _ _ (Ne.symm hb)).trans z) (XO.put ⟨_,_,hx2,rfl,rfl,rfl,by simp⟩ 0 _);have hget:=ZgA 0 (.ref (s1.heap.objs.size+2)) hx2 rfl;refine wpAny_bind (wpAny_standAt (wpAny_pure ⟨_,none,rfl,I4.kIn,⟨_,_,s1.heap.objs.size+2,hget,rfl,rfl,rfl,by simp,rfl,rfl⟩,?_⟩));exact hT pins σ _ _ _ (.ref C) none I4 Zb (fun _=>Nat.le_trans I1.sz (Nat.le_succ _)) (.inl ⟨_,_,hget,rfl,rfl⟩) hE
end
end L2
namespace L2
open PySem PySem.Spec PyProof.Rows
abbrev TJ:=St->Hp->Str->(Str->Hp->Prop)->Prop
def PJ(X:Cx)(es:List Expr)(t:TJ):Prop := ∀(pins:List (Addr×Obj))(s:Shared)(σ : St)(H:Hp)(acc:Str)(Q:Str->Hp->Prop),Inv X pins σ H s->t σ H acc Q ->
 wpAny (model X.prog X.w) X.A (joinParts acc (evalEach es X.env)) (EP X pins σ fun v H'=>∃z,v=.str z/\Q z H') X.xe s
def ZlQ:TJ:=fun _ H acc Q=>acc.length<=sizeLine/\Q acc H
def Zd6(te:TE)(t:TJ):TJ:=fun σ H acc Q=>te σ H fun v H1=>∃y,v=.str y/\(acc++y).length<=sizeLine/\t σ H1 (acc++y) Q
def tFv(tv:TE):TE:=fun σ H Q=>tv σ H fun v H1=>(∃z,v=.str z/\z.length<=sizeLine/\Q (.str z) H1)\/∃i:Int,v=.int i/\i.natAbs.log2<1920/\Q (.str (Str.ofString (toString i))) H1
def Zi1(t:TJ):TE:=fun σ H Q=>t σ H Str.empty fun z H'=>Q (.str z) H'
section
variable{X:Cx}{e:Expr}{es:List Expr}{te:TE}{t:TJ}{pos:Pos}
theorem Zls:PJ X [] ZlQ:=fun _ _ _ H acc _ I h=>joinParts_nil ⟨.str acc,H,I.tok _,⟨_,rfl⟩,acc,rfl,h.2⟩ h.1
theorem ZdF(he:PE X e te)(hr:PJ X es t)(hs:evalEach (e::es) X.env=eval e X.env::evalEach es X.env:=by rfl):PJ X (e::es) (Zd6 te t):=by
 intro pins s σ H acc Q I h;rw[hs];refine joinParts_cons (thn (he pins s σ H _ I h) fun u s1 ⟨v,H1,I1,r,y,ev,hz,q⟩=>?_);subst ev;obtain⟨tk,rfl⟩:=r;exact⟨hz,hr pins s1 σ H1 _ Q I1 q⟩
theorem Zlr(he:PE X e te):PE X (.FormattedValue e (-1) none pos) (tFv te):=by
 intro pins s σ H Q I h;refine FormattedValue_plain (thn (he pins s σ H _ I h) fun u s1 ⟨v,H1,I1,r,q⟩=>?_);rcases q with⟨z,rfl,hz,q⟩|⟨i,rfl,hi,q⟩
 ·obtain⟨tk,rfl⟩:=r;exact formatField_str (fun t' tk=>⟨.str z,H1,I1.tok _,⟨_,rfl⟩,q⟩) hz
 ·obtain⟨tk,rfl⟩:=r;exact formatField_int_small hi ⟨.str _,H1,I1.tok _,⟨_,rfl⟩,q⟩
theorem ZhU{e2:Expr}(h:PJ X (e::e2::es) t):PE X (.JoinedStr (e::e2::es) pos) (Zi1 t):=by
 intro pins s σ H Q I hw;refine JoinedStr_many (thn (h pins s σ H _ _ I hw) fun u s1 ⟨v,H1,I1,r,z,ev,q⟩=>⟨v,H1,I1,r,by rw[ev];exact q⟩)
end
end L2
namespace L2
open PySem PySem.Spec PyProof.Rows PySem.W
variable{X:Cx}
end L2
namespace Srt
open PySem PyProof.Rows
def ZeI:Bool->Keyed->Array Keyed->Nat->Nat->Nat->StateT SortSt Sem (Option Nat):=sortPriv% PySem.Builtin.gallop
def ZgD:Array Keyed->Array Keyed->StateT SortSt Sem (Array Keyed):=sortPriv% PySem.Builtin.mergeLo
def ZgG:Array Keyed->Array Keyed->StateT SortSt Sem (Array Keyed):=sortPriv% PySem.Builtin.mergeHi
def Cmp(prog:Program)(w:World)(A:Around)(s:Shared)(κ : SortKind)(Ok:Keyed->Prop):Prop :=
 ∀x y,Ok x->Ok y->∀E:Value->Shared->Prop,wpAny (model prog w) A (keyLt' κ x.1 y.1) (fun _ s'=>s'=s) E s
structure Like(st st':SortSt):Prop where
 arr:arrOf st'=arrOf st
 kind:kindOf st'=kindOf st
 fail:failedOf st'=failedOf st
 pend:pendingOf st'=pendingOf st
theorem Like.refl(st:SortSt):Like st st:=⟨rfl,rfl,rfl,rfl⟩
theorem Like.trans{a b c:SortSt}(x:Like a b)(y:Like b c):Like a c:=⟨y.arr.trans x.arr,y.kind.trans x.kind,y.fail.trans x.fail,y.pend.trans x.pend⟩
section
variable{prog:Program}{w:World}{A:Around}{E:Value->Shared->Prop}{s:Shared}{κ : SortKind}{Ok:Keyed->Prop}{st:SortSt}
theorem Zfv{x y:Keyed}{Q:Option Bool->SortSt->Prop}(hc:Cmp prog w A s κ Ok)(hk:kindOf st= κ)(hx:Ok x)(hy:Ok y)(h:∀b,Q (some b) st):wpS (model prog w) A E s (lt' x y) Q st:=by
 rw[lt'_eq];refine wpS_bind (wpS_get ?_);rw[hk];refine wpS_bind (wpS_lift (wpAny_attempt (wpAny_mono (hc x y hx hy _) (fun b s' e=>⟨e,?_⟩) fun _ _ z=>z)));exact wpS_pure (h b)
theorem Zi{arr:Array Keyed}{i:Nat}{Q:Keyed->SortSt->Prop}(hi:i<arr.size)(h:∀p,p∈arr.toList->arr[i]?= some p->Q p st):wpS (model prog w) A E s (elem' arr i) Q st:=by
 have e:arr[i]?= some arr[i]:=getElem?_pos arr i hi;rw[elem'_eq,e];exact wpS_pure (h _ (by simp) e)
theorem bey{l:Bool}{key:Keyed}{a:Array Keyed}{base n i:Nat}{Q:Option Bool->SortSt->Prop}(hc:Cmp prog w A s κ Ok)(hk:kindOf st= κ)(hkey:Ok key)(ha:∀p∈a.toList,Ok p)(hb:base+n<=a.size)(hi:i<n)(h:∀b,Q (some b) st) :
  wpS (model prog w) A E s (elem' a (base+i) >>= fun x=>if l=true then lt' x key else(lt' key x >>= fun r=>pure (Option.map (fun z=>!z) r))) Q st:=by
 refine wpS_bind (Zi (by lia) fun p hp _=>?_);cases l with
 | true =>
  rw[if_pos rfl];exact Zfv hc hk (ha p hp) hkey h
 | false =>
  rw[if_neg Bool.false_ne_true];exact wpS_bind (Zfv hc hk hkey (ha p hp) fun b=>wpS_pure (h _))
theorem ZZ{l:Bool}{key:Keyed}{a:Array Keyed}{base n hint:Nat}{Q:Option Nat->SortSt->Prop}(hc:Cmp prog w A s κ Ok)(hk:kindOf st= κ)(hkey:Ok key)(ha:∀p∈a.toList,Ok p)(hb:base+n<=a.size)(hh:hint<n)
  (h:∀k,k<=n->Q (some k) st):wpS (model prog w) A E s (ZeI l key a base n hint) Q st:=by
 refine wpS_bind (bey hc hk hkey ha hb hh fun right=>?_);cases right with
 | true =>
  dsimp only;rw[if_pos rfl];refine wpS_bind (wpS_mono (wpS_forRange (I:=fun _ c st'=>st'=st/\∃lo of,c=(none,lo,of)/\lo<n-hint/\lo<of) (Q:=fun c st'=>st'=st/\∃lo of,c=(none,lo,of)/\lo<n-hint/\lo<of) ?_ (fun c st' z=>z) ⟨rfl,0,1,rfl,by lia,by lia⟩) ?_)
  ·rintro i c st' _ _ ⟨rfl,lo,of,rfl,h1,h2⟩;dsimp only;by_cases hlt:of>=n-hint
   ·rw[if_pos hlt];exact wpS_pure ⟨rfl,lo,of,rfl,h1,h2⟩
   ·rw[if_neg hlt];refine wpS_bind (bey hc hk hkey ha hb (by lia) fun b=>?_);cases b with
    | true=>exact wpS_pure ⟨rfl,_,_,rfl,by lia,by lia⟩
    | false=>exact wpS_pure ⟨rfl,lo,of,rfl,h1,h2⟩
  ·rintro c st'' ⟨rfl,lo,of,rfl,h1,h2⟩;dsimp only;have g1:hint+lo+1<=hint+min of (n-hint):=by lia
   have g2:hint+min of (n-hint)<=n:=by lia
   generalize hint+lo+1=lo1 at g1;generalize hint+min of (n-hint)=hi1 at g1 g2;refine wpS_bind (wpS_mono (wpS_forRange (I:=fun _ c st'=>st'=st''/\∃lo hi,c=(none,lo,hi)/\lo<=hi/\hi<=n) (Q:=fun c st'=>st'=st''/\∃lo hi,c=(none,lo,hi)/\lo<=hi/\hi<=n) ?_ (fun c st' z=>z) ⟨rfl,lo1,hi1,rfl,g1,g2⟩) ?_)
   ·rintro i c st' _ _ ⟨rfl,lo,hi,rfl,h1,h2⟩;dsimp only;by_cases hlt:lo>=hi
    ·rw[if_pos hlt];exact wpS_pure ⟨rfl,lo,hi,rfl,h1,h2⟩
    ·rw[if_neg hlt];refine wpS_bind (bey hc hk hkey ha hb (by lia) fun b=>?_);cases b with
     | true=>exact wpS_pure ⟨rfl,_,_,rfl,by lia,by lia⟩
     | false=>exact wpS_pure ⟨rfl,_,_,rfl,by lia,by lia⟩
   ·rintro c st' ⟨rfl,lo,hi,rfl,h1,h2⟩;exact wpS_pure (h hi h2)
 | false =>
  dsimp only;rw[if_neg Bool.false_ne_true];refine wpS_bind (wpS_mono (wpS_forRange (I:=fun _ c st'=>st'=st/\∃lo of,c=(none,lo,of)/\lo<hint+1/\lo<of) (Q:=fun c st'=>st'=st/\∃lo of,c=(none,lo,of)/\lo<hint+1/\lo<of) ?_ (fun c st' z=>z) ⟨rfl,0,1,rfl,by lia,by lia⟩) ?_)
  ·rintro i c st' _ _ ⟨rfl,lo,of,rfl,h1,h2⟩;dsimp only;by_cases hlt:of>=hint+1
   ·rw[if_pos hlt];exact wpS_pure ⟨rfl,lo,of,rfl,h1,h2⟩
   ·rw[if_neg hlt];refine wpS_bind (bey hc hk hkey ha hb (by lia) fun b=>?_);cases b with
    | true=>exact wpS_pure ⟨rfl,lo,of,rfl,h1,h2⟩
    | false=>exact wpS_pure ⟨rfl,_,_,rfl,by lia,by lia⟩
  ·rintro c st'' ⟨rfl,lo,of,rfl,h1,h2⟩;dsimp only;have g1:hint+1-min of (hint+1)<=hint-lo:=by lia
   have g2:hint-lo<=n:=by lia
   generalize hint+1-min of (hint+1)=lo1 at g1;generalize hint-lo=hi1 at g1 g2;refine wpS_bind (wpS_mono (wpS_forRange (I:=fun _ c st'=>st'=st''/\∃lo hi,c=(none,lo,hi)/\lo<=hi/\hi<=n) (Q:=fun c st'=>st'=st''/\∃lo hi,c=(none,lo,hi)/\lo<=hi/\hi<=n) ?_ (fun c st' z=>z) ⟨rfl,lo1,hi1,rfl,g1,g2⟩) ?_)
   ·rintro i c st' _ _ ⟨rfl,lo,hi,rfl,h1,h2⟩;dsimp only;by_cases hlt:lo>=hi
    ·rw[if_pos hlt];exact wpS_pure ⟨rfl,lo,hi,rfl,h1,h2⟩
    ·rw[if_neg hlt];refine wpS_bind (bey hc hk hkey ha hb (by lia) fun b=>?_);cases b with
     | true=>exact wpS_pure ⟨rfl,_,_,rfl,by lia,by lia⟩
     | false=>exact wpS_pure ⟨rfl,_,_,rfl,by lia,by lia⟩
   ·rintro c st' ⟨rfl,lo,hi,rfl,h1,h2⟩;exact wpS_pure (h hi h2)
end
def Out(a b:Array Keyed)(out:Array Keyed)(ia ib:Nat):Prop:=out.toList.Perm (a.toList.take ia++b.toList.take ib)
section
variable{a b out:Array Keyed}{ia ib:Nat}
theorem ZlI{α : Type}(x y z w:List α):(x++y++(z++w)).Perm (x++z++(y++w)):=by
 rw[List.append_assoc,List.append_assoc];refine List.Perm.append_left x ?_;rw[<- List.append_assoc,<- List.append_assoc];exact List.Perm.append_right w List.perm_append_comm
theorem Out.done(h:Out a b out ia ib):(out++a.extract ia a.size++b.extract ib b.size).toList.Perm (a.toList++b.toList):=by
 rw[Array.toList_append,Array.toList_append,Array.toList_extract,Array.toList_extract];have e1:a.toList.extract ia a.size=a.toList.drop ia:=by rw[List.extract_eq_drop_take];apply List.take_of_length_le;rw[List.length_drop,Array.length_toList];exact Nat.le_refl _
 have e2:b.toList.extract ib b.size=b.toList.drop ib:=by rw[List.extract_eq_drop_take];apply List.take_of_length_le;rw[List.length_drop,Array.length_toList];exact Nat.le_refl _
 rw[e1,e2,List.append_assoc];refine(List.Perm.append_right _ h).trans ((ZlI ..).trans ?_);rw[List.take_append_drop,List.take_append_drop]
theorem Out.last(h:Out a b out ia ib):(out++b.extract ib b.size++a.extract ia a.size).toList.Perm (a.toList++b.toList):=by
 refine List.Perm.trans ?_ h.done;rw[Array.toList_append,Array.toList_append,Array.toList_append,Array.toList_append,List.append_assoc,List.append_assoc];exact List.Perm.append_left _ List.perm_append_comm
theorem Out.extA{k:Nat}(h:Out a b out ia ib)(hk:ia+k<=a.size):Out a b (out++a.extract ia (ia+k)) (ia+k) ib:=by
 unfold Out;rw[Array.toList_append,Array.toList_extract,List.extract_eq_drop_take];have e:a.toList.take (ia+k)=a.toList.take ia++(a.toList.drop ia).take k:=List.take_add ..;rw[e,show ia+k-ia=k by lia];refine(List.Perm.append_right _ h).trans ?_;rw[List.append_assoc,List.append_assoc];exact List.Perm.append_left _ List.perm_append_comm
theorem Out.extB{k:Nat}(h:Out a b out ia ib)(hk:ib+k<=b.size):Out a b (out++b.extract ib (ib+k)) ia (ib+k):=by
 unfold Out;rw[Array.toList_append,Array.toList_extract,List.extract_eq_drop_take];have e:b.toList.take (ib+k)=b.toList.take ib++(b.toList.drop ib).take k:=List.take_add ..;rw[e,show ib+k-ib=k by lia];refine(List.Perm.append_right _ h).trans ?_;rw[List.append_assoc]
theorem ZeW{α : Type}{xs:List α}{i:Nat}{p : α}(h:xs[i]?= some p):xs.take (i+1)=xs.take i ++ [p]:=by
 obtain⟨hi,e⟩:=List.getElem?_eq_some_iff.mp h;rw[List.take_succ_eq_append_getElem hi,e]
theorem Out.pushA{p:Keyed}(h:Out a b out ia ib)(hp:a[ia]?= some p):Out a b (out.push p) (ia+1) ib:=by
 have hp':a.toList[ia]?= some p:=by rw[<- hp];simp
 unfold Out;rw[Array.toList_push,ZeW hp'];refine(List.Perm.append_right _ h).trans ?_;rw[List.append_assoc,List.append_assoc];exact List.Perm.append_left _ List.perm_append_comm
theorem Out.pushB{p:Keyed}(h:Out a b out ia ib)(hp:b[ib]?= some p):Out a b (out.push p) ia (ib+1):=by
 have hp':b.toList[ib]?= some p:=by rw[<- hp];simp
 unfold Out;rw[Array.toList_push,ZeW hp'];refine(List.Perm.append_right _ h).trans ?_;rw[List.append_assoc]
theorem ZmF{p:Keyed}(hp:b[0]?= some p):Out a b #[p] 0 1:=by
 have h0:Out a b #[] 0 0:=by
  unfold Out;rw[List.take_zero,List.take_zero];exact List.Perm.refl _
 exact h0.pushB hp
end
section
variable{prog:Program}{w:World}{A:Around}{E:Value->Shared->Prop}{s:Shared}{κ : SortKind}{Ok:Keyed->Prop}{st:SortSt}
theorem Z1(st:SortSt)(g:Nat):Like st (SortSt.mk' (kindOf st) (arrOf st) (pendingOf st) g (failedOf st)):=⟨rfl,rfl,rfl,rfl⟩
set_option maxHeartbeats 1000000 in
theorem Zgt{a b:Array Keyed}{Q:Array Keyed->SortSt->Prop}(hc:Cmp prog w A s κ Ok)(hk:kindOf st= κ)(ha:∀p∈a.toList,Ok p)(hb:∀p∈b.toList,Ok p)(ha1:1<=a.size)(hb1:1<=b.size)
  (h:∀r st',Like st st'->r.toList.Perm (a.toList++b.toList)->Q r st'):wpS (model prog w) A E s (ZgD a b) Q st:=by
 refine wpS_bind (wpS_lift (wpAny_rule ⟨rfl,?_⟩));refine wpS_bind (Zi (by lia) fun p hp he=>?_);dsimp only;have o0:Out a b #[p] 0 1:=ZmF he;by_cases c1:(1 == b.size)=true
 ·rw[if_pos c1];exact wpS_pure (h _ _ (Like.refl _) o0.done)
 rw[if_neg c1];by_cases c2:(0+1 == a.size)=true
 ·rw[if_pos c2];exact wpS_pure (h _ _ (Like.refl _) o0.last)
 rw[if_neg c2];have n1:1<b.size:=by
  have : ¬ 1=b.size:=fun e=>c1 (by simp[<- e]);lia
 have n2:1<a.size:=by
  have : ¬ 1=a.size:=fun e=>c2 (by simp[<- e]);lia
 refine wpS_bind (wpS_get ?_);refine wpS_bind (wpS_mono (wpS_forRange (I:=fun x c st'=>Like st st'/\∃out ia ib g,c=(none,out,ia,ib,g)/\Out a b out ia ib/\ia+1<a.size/\ib<b.size/\x+1<=ia+ib)
  (Q:=fun c st'=>Like st st'/\∃r out ia ib g,c=(some r,out,ia,ib,g)/\r.toList.Perm (a.toList++b.toList)) ?_ ?_ ⟨Like.refl _,_,0,1,_,rfl,o0,by lia,by lia,by lia⟩) ?_)
 ·rintro x c st1 _ hx ⟨lk,out,ia,ib,g,rfl,ho,hia,hib,hxx⟩;dsimp only;refine wpS_bind (wpS_mono (wpS_forRange (I:=fun y c st'=>Like st st'/\∃out ia ib ac bc,c=(none,out,ia,ib,ac,bc)/\Out a b out ia ib/\ia+1<a.size/\ib<b.size/\x+1+(if y=0 then 0 else 1)<=ia+ib)
   (Q:=fun c st'=>Like st st'/\((∃r out ia ib ac bc,c=(some r,out,ia,ib,ac,bc)/\r.toList.Perm (a.toList++b.toList))\/∃out ia ib ac bc,c=(none,out,ia,ib,ac,bc)/\Out a b out ia ib/\ia+1<a.size/\ib<b.size/\x+2<=ia+ib)) ?_ ?_ ⟨lk,out,ia,ib,0,0,rfl,ho,hia,hib,by simp;lia⟩) ?_)
  ·rintro y c st2 _ hy ⟨lk2,out,ia,ib,ac,bc,rfl,ho,hia,hib,hxx⟩;dsimp only;have hxx2:x+1<=ia+ib:=by split at hxx <;> lia
   refine wpS_bind (Zi (by lia) fun p hp ep=>?_);refine wpS_bind (Zi (by lia) fun q hq eq=>?_);refine wpS_bind (Zfv hc (lk2.kind.trans hk) (hb p hp) (ha q hq) fun bw=>?_);cases bw with
   | true =>
    try dsimp only
    rw[if_pos rfl];refine wpS_bind (Zi (by lia) fun p2 hp2 ep2=>?_);have o1:=ho.pushB ep2;by_cases d1:(ib+1 == b.size)=true
    ·rw[if_pos d1];exact wpS_pure ⟨lk2,.inl ⟨_,_,_,_,_,_,rfl,o1.done⟩⟩
    rw[if_neg d1];have m1:ib+1<b.size:=by
     have : ¬ ib+1=b.size:=fun e=>d1 (by simp[<- e]);lia
    by_cases d2:bc+1>=g
    ·rw[if_pos d2];exact wpS_pure ⟨lk2,.inr ⟨_,_,_,_,_,rfl,o1,hia,m1,by lia⟩⟩
    ·rw[if_neg d2];exact wpS_pure ⟨lk2,_,_,_,_,_,rfl,o1,hia,m1,by rw[if_neg (by lia)];lia⟩
   | false =>
    try dsimp only
    rw[if_neg Bool.false_ne_true];refine wpS_bind (Zi (by lia) fun p2 hp2 ep2=>?_);have o1:=ho.pushA ep2;by_cases d1:(ia+1+1 == a.size)=true
    ·rw[if_pos d1];exact wpS_pure ⟨lk2,.inl ⟨_,_,_,_,_,_,rfl,o1.last⟩⟩
    rw[if_neg d1];have m1:ia+1+1<a.size:=by
     have : ¬ ia+1+1=a.size:=fun e=>d1 (by simp[<- e]);lia
    by_cases d2:ac+1>=g
    ·rw[if_pos d2];exact wpS_pure ⟨lk2,.inr ⟨_,_,_,_,_,rfl,o1,m1,hib,by lia⟩⟩
    ·rw[if_neg d2];exact wpS_pure ⟨lk2,_,_,_,_,_,rfl,o1,m1,hib,by rw[if_neg (by lia)];lia⟩
  ·rintro c st2 ⟨lk2,out,ia,ib,ac,bc,rfl,ho,hia,hib,hxx⟩;refine⟨lk2,.inr ⟨_,_,_,_,_,rfl,ho,hia,hib,?_⟩⟩;rw[if_neg (by lia)] at hxx;lia
  ·rintro c st2 ⟨lk2,⟨r,out,ia,ib,ac,bc,rfl,hr⟩|⟨out,ia,ib,ac,bc,rfl,ho,hia,hib,hxx⟩⟩
   ·exact wpS_pure ⟨lk2,_,_,_,_,_,rfl,hr⟩
   dsimp only;refine wpS_bind (wpS_lift (wpAny_rule ⟨rfl,?_⟩))
   try dsimp only
   refine wpS_bind (wpS_mono (wpS_forRange (I:=fun y c st'=>Like st st'/\∃out ia ib g ac bc,c=(none,out,ia,ib,g,ac,bc)/\Out a b out ia ib/\ia+1<a.size/\ib<b.size/\x+2<=ia+ib)
    (Q:=fun c st'=>Like st st'/\((∃r out ia ib g ac bc,c=(some r,out,ia,ib,g,ac,bc)/\r.toList.Perm (a.toList++b.toList))\/∃out ia ib g ac bc,c=(none,out,ia,ib,g,ac,bc)/\Out a b out ia ib/\ia+1<a.size/\ib<b.size/\x+2<=ia+ib)) ?_ ?_ ⟨lk2,out,ia,ib,_,_,_,rfl,ho,hia,hib,hxx⟩) ?_)
   ·rintro y c st3 _ hy ⟨lk3,out,ia,ib,g3,ac,bc,rfl,ho,hia,hib,hxx⟩;dsimp only;by_cases g1:g3 > 1
    ·rw[if_pos g1];refine wpS_bind (wpS_modify ?_);have lk4:=lk3.trans (Z1 st3 (g3-1));refine wpS_bind (Zi (by lia) fun p0 h0 e0=>?_);refine wpS_bind (ZZ hc (lk4.kind.trans hk) (hb p0 h0) ha (by lia) (by lia) fun k hk1=>?_);dsimp only;by_cases k0:k > 0
     ·rw[if_pos k0];have o1:=ho.extA (k:=k) (by lia);by_cases c1:(ia+k+1 == a.size)=true
      ·rw[if_pos c1];exact wpS_pure ⟨lk4,.inl ⟨_,_,_,_,_,_,_,rfl,o1.last⟩⟩
      rw[if_neg c1];by_cases c2:(ia+k == a.size)=true
      ·rw[if_pos c2];exact wpS_pure ⟨lk4,.inl ⟨_,_,_,_,_,_,_,rfl,o1.done⟩⟩
      rw[if_neg c2];have n1:ia+k+1<a.size:=by
       have h1 : ¬ ia+k+1=a.size:=fun e=>c1 (by simp[<- e]);have h2 : ¬ ia+k=a.size:=fun e=>c2 (by simp[<- e]);lia
      refine wpS_bind (Zi (by lia) fun p3 h3 e3=>?_);have o2:=o1.pushB e3;by_cases c3:(ib+1 == b.size)=true
      ·rw[if_pos c3];exact wpS_pure ⟨lk4,.inl ⟨_,_,_,_,_,_,_,rfl,o2.done⟩⟩
      rw[if_neg c3];have n3:ib+1<b.size:=by
       have : ¬ ib+1=b.size:=fun e=>c3 (by simp[<- e]);lia
      refine wpS_bind (Zi (by lia) fun q3 g3 u3=>?_);refine wpS_bind (ZZ hc (lk4.kind.trans hk) (ha q3 g3) hb (by lia) (by lia) fun k2 hk2=>?_);dsimp only;by_cases k20:k2 > 0
      ·rw[if_pos k20];have o3:=o2.extB (k:=k2) (by lia);by_cases c4:(ib+1+k2 == b.size)=true
       ·rw[if_pos c4];exact wpS_pure ⟨lk4,.inl ⟨_,_,_,_,_,_,_,rfl,o3.done⟩⟩
       rw[if_neg c4];have n5:ib+1+k2<b.size:=by
        have : ¬ ib+1+k2=b.size:=fun e=>c4 (by simp[<- e]);lia
       refine wpS_bind (Zi (by lia) fun p4 h4 e4=>?_);have o4:=o3.pushA e4;by_cases f1:(ia+k+1+1 == a.size)=true
       ·rw[if_pos f1];exact wpS_pure ⟨lk4,.inl ⟨_,_,_,_,_,_,_,rfl,o4.last⟩⟩
       rw[if_neg f1];have n4:ia+k+1+1<a.size:=by
        have : ¬ ia+k+1+1=a.size:=fun e=>f1 (by simp[<- e]);lia
       by_cases f2:(decide (k<7)&&decide (k2<7))=true
       ·rw[if_pos f2];exact wpS_pure ⟨lk4,.inr ⟨_,_,_,_,_,_,rfl,o4,n4,by lia,by lia⟩⟩
       ·rw[if_neg f2];exact wpS_pure ⟨lk4,_,_,_,_,_,_,rfl,o4,n4,by lia,by lia⟩
      ·rw[if_neg k20];refine wpS_bind (Zi (by lia) fun p4 h4 e4=>?_);have o4:=o2.pushA e4;by_cases f1:(ia+k+1+1 == a.size)=true
       ·rw[if_pos f1];exact wpS_pure ⟨lk4,.inl ⟨_,_,_,_,_,_,_,rfl,o4.last⟩⟩
       rw[if_neg f1];have n4:ia+k+1+1<a.size:=by
        have : ¬ ia+k+1+1=a.size:=fun e=>f1 (by simp[<- e]);lia
       by_cases f2:(decide (k<7)&&decide (k2<7))=true
       ·rw[if_pos f2];exact wpS_pure ⟨lk4,.inr ⟨_,_,_,_,_,_,rfl,o4,n4,by lia,by lia⟩⟩
       ·rw[if_neg f2];exact wpS_pure ⟨lk4,_,_,_,_,_,_,rfl,o4,n4,by lia,by lia⟩
     ·rw[if_neg k0];refine wpS_bind (Zi (by lia) fun p3 h3 e3=>?_);have o2:=ho.pushB e3;by_cases c3:(ib+1 == b.size)=true
      ·rw[if_pos c3];exact wpS_pure ⟨lk4,.inl ⟨_,_,_,_,_,_,_,rfl,o2.done⟩⟩
      rw[if_neg c3];have n3:ib+1<b.size:=by
       have : ¬ ib+1=b.size:=fun e=>c3 (by simp[<- e]);lia
      refine wpS_bind (Zi (by lia) fun q3 g3 u3=>?_);refine wpS_bind (ZZ hc (lk4.kind.trans hk) (ha q3 g3) hb (by lia) (by lia) fun k2 hk2=>?_);dsimp only;by_cases k20:k2 > 0
      ·rw[if_pos k20];have o3:=o2.extB (k:=k2) (by lia);by_cases c4:(ib+1+k2 == b.size)=true
       ·rw[if_pos c4];exact wpS_pure ⟨lk4,.inl ⟨_,_,_,_,_,_,_,rfl,o3.done⟩⟩
       rw[if_neg c4];have n5:ib+1+k2<b.size:=by
        have : ¬ ib+1+k2=b.size:=fun e=>c4 (by simp[<- e]);lia
       refine wpS_bind (Zi (by lia) fun p4 h4 e4=>?_);have o4:=o3.pushA e4;by_cases f1:(ia+1+1 == a.size)=true
       ·rw[if_pos f1];exact wpS_pure ⟨lk4,.inl ⟨_,_,_,_,_,_,_,rfl,o4.last⟩⟩
       rw[if_neg f1];have n4:ia+1+1<a.size:=by
        have : ¬ ia+1+1=a.size:=fun e=>f1 (by simp[<- e]);lia
       by_cases f2:(decide (k<7)&&decide (k2<7))=true
       ·rw[if_pos f2];exact wpS_pure ⟨lk4,.inr ⟨_,_,_,_,_,_,rfl,o4,n4,by lia,by lia⟩⟩
       ·rw[if_neg f2];exact wpS_pure ⟨lk4,_,_,_,_,_,_,rfl,o4,n4,by lia,by lia⟩
      ·rw[if_neg k20];refine wpS_bind (Zi (by lia) fun p4 h4 e4=>?_);have o4:=o2.pushA e4;by_cases f1:(ia+1+1 == a.size)=true
       ·rw[if_pos f1];exact wpS_pure ⟨lk4,.inl ⟨_,_,_,_,_,_,_,rfl,o4.last⟩⟩
       rw[if_neg f1];have n4:ia+1+1<a.size:=by
        have : ¬ ia+1+1=a.size:=fun e=>f1 (by simp[<- e]);lia
       by_cases f2:(decide (k<7)&&decide (k2<7))=true
       ·rw[if_pos f2];exact wpS_pure ⟨lk4,.inr ⟨_,_,_,_,_,_,rfl,o4,n4,by lia,by lia⟩⟩
       ·rw[if_neg f2];exact wpS_pure ⟨lk4,_,_,_,_,_,_,rfl,o4,n4,by lia,by lia⟩
    ·rw[if_neg g1];refine wpS_bind (wpS_modify ?_);have lk4:=lk3.trans (Z1 st3 g3);refine wpS_bind (Zi (by lia) fun p0 h0 e0=>?_);refine wpS_bind (ZZ hc (lk4.kind.trans hk) (hb p0 h0) ha (by lia) (by lia) fun k hk1=>?_);dsimp only;by_cases k0:k > 0
     ·rw[if_pos k0];have o1:=ho.extA (k:=k) (by lia);by_cases c1:(ia+k+1 == a.size)=true
      ·rw[if_pos c1];exact wpS_pure ⟨lk4,.inl ⟨_,_,_,_,_,_,_,rfl,o1.last⟩⟩
      rw[if_neg c1];by_cases c2:(ia+k == a.size)=true
      ·rw[if_pos c2];exact wpS_pure ⟨lk4,.inl ⟨_,_,_,_,_,_,_,rfl,o1.done⟩⟩
      rw[if_neg c2];have n1:ia+k+1<a.size:=by
       have h1 : ¬ ia+k+1=a.size:=fun e=>c1 (by simp[<- e]);have h2 : ¬ ia+k=a.size:=fun e=>c2 (by simp[<- e]);lia
      refine wpS_bind (Zi (by lia) fun p3 h3 e3=>?_);have o2:=o1.pushB e3;by_cases c3:(ib+1 == b.size)=true
      ·rw[if_pos c3];exact wpS_pure ⟨lk4,.inl ⟨_,_,_,_,_,_,_,rfl,o2.done⟩⟩
      rw[if_neg c3];have n3:ib+1<b.size:=by
       have : ¬ ib+1=b.size:=fun e=>c3 (by simp[<- e]);lia
      refine wpS_bind (Zi (by lia) fun q3 g3 u3=>?_);refine wpS_bind (ZZ hc (lk4.kind.trans hk) (ha q3 g3) hb (by lia) (by lia) fun k2 hk2=>?_);dsimp only;by_cases k20:k2 > 0
      ·rw[if_pos k20];have o3:=o2.extB (k:=k2) (by lia);by_cases c4:(ib+1+k2 == b.size)=true
       ·rw[if_pos c4];exact wpS_pure ⟨lk4,.inl ⟨_,_,_,_,_,_,_,rfl,o3.done⟩⟩
       rw[if_neg c4];have n5:ib+1+k2<b.size:=by
        have : ¬ ib+1+k2=b.size:=fun e=>c4 (by simp[<- e]);lia
       refine wpS_bind (Zi (by lia) fun p4 h4 e4=>?_);have o4:=o3.pushA e4;by_cases f1:(ia+k+1+1 == a.size)=true
       ·rw[if_pos f1];exact wpS_pure ⟨lk4,.inl ⟨_,_,_,_,_,_,_,rfl,o4.last⟩⟩
       rw[if_neg f1];have n4:ia+k+1+1<a.size:=by
        have : ¬ ia+k+1+1=a.size:=fun e=>f1 (by simp[<- e]);lia
       by_cases f2:(decide (k<7)&&decide (k2<7))=true
       ·rw[if_pos f2];exact wpS_pure ⟨lk4,.inr ⟨_,_,_,_,_,_,rfl,o4,n4,by lia,by lia⟩⟩
       ·rw[if_neg f2];exact wpS_pure ⟨lk4,_,_,_,_,_,_,rfl,o4,n4,by lia,by lia⟩
      ·rw[if_neg k20];refine wpS_bind (Zi (by lia) fun p4 h4 e4=>?_);have o4:=o2.pushA e4;by_cases f1:(ia+k+1+1 == a.size)=true
       ·rw[if_pos f1];exact wpS_pure ⟨lk4,.inl ⟨_,_,_,_,_,_,_,rfl,o4.last⟩⟩
       rw[if_neg f1];have n4:ia+k+1+1<a.size:=by
        have : ¬ ia+k+1+1=a.size:=fun e=>f1 (by simp[<- e]);lia
       by_cases f2:(decide (k<7)&&decide (k2<7))=true
       ·rw[if_pos f2];exact wpS_pure ⟨lk4,.inr ⟨_,_,_,_,_,_,rfl,o4,n4,by lia,by lia⟩⟩
       ·rw[if_neg f2];exact wpS_pure ⟨lk4,_,_,_,_,_,_,rfl,o4,n4,by lia,by lia⟩
     ·rw[if_neg k0];refine wpS_bind (Zi (by lia) fun p3 h3 e3=>?_);have o2:=ho.pushB e3;by_cases c3:(ib+1 == b.size)=true
      ·rw[if_pos c3];exact wpS_pure ⟨lk4,.inl ⟨_,_,_,_,_,_,_,rfl,o2.done⟩⟩
      rw[if_neg c3];have n3:ib+1<b.size:=by
       have : ¬ ib+1=b.size:=fun e=>c3 (by simp[<- e]);lia
      refine wpS_bind (Zi (by lia) fun q3 g3 u3=>?_);refine wpS_bind (ZZ hc (lk4.kind.trans hk) (ha q3 g3) hb (by lia) (by lia) fun k2 hk2=>?_);dsimp only;by_cases k20:k2 > 0
      ·rw[if_pos k20];have o3:=o2.extB (k:=k2) (by lia);by_cases c4:(ib+1+k2 == b.size)=true
       ·rw[if_pos c4];exact wpS_pure ⟨lk4,.inl ⟨_,_,_,_,_,_,_,rfl,o3.done⟩⟩
       rw[if_neg c4];have n5:ib+1+k2<b.size:=by
        have : ¬ ib+1+k2=b.size:=fun e=>c4 (by simp[<- e]);lia
       refine wpS_bind (Zi (by lia) fun p4 h4 e4=>?_);have o4:=o3.pushA e4;by_cases f1:(ia+1+1 == a.size)=true
       ·rw[if_pos f1];exact wpS_pure ⟨lk4,.inl ⟨_,_,_,_,_,_,_,rfl,o4.last⟩⟩
       rw[if_neg f1];have n4:ia+1+1<a.size:=by
        have : ¬ ia+1+1=a.size:=fun e=>f1 (by simp[<- e]);lia
       by_cases f2:(decide (k<7)&&decide (k2<7))=true
       ·rw[if_pos f2];exact wpS_pure ⟨lk4,.inr ⟨_,_,_,_,_,_,rfl,o4,n4,by lia,by lia⟩⟩
       ·rw[if_neg f2];exact wpS_pure ⟨lk4,_,_,_,_,_,_,rfl,o4,n4,by lia,by lia⟩
      ·rw[if_neg k20];refine wpS_bind (Zi (by lia) fun p4 h4 e4=>?_);have o4:=o2.pushA e4;by_cases f1:(ia+1+1 == a.size)=true
       ·rw[if_pos f1];exact wpS_pure ⟨lk4,.inl ⟨_,_,_,_,_,_,_,rfl,o4.last⟩⟩
       rw[if_neg f1];have n4:ia+1+1<a.size:=by
        have : ¬ ia+1+1=a.size:=fun e=>f1 (by simp[<- e]);lia
       by_cases f2:(decide (k<7)&&decide (k2<7))=true
       ·rw[if_pos f2];exact wpS_pure ⟨lk4,.inr ⟨_,_,_,_,_,_,rfl,o4,n4,by lia,by lia⟩⟩
       ·rw[if_neg f2];exact wpS_pure ⟨lk4,_,_,_,_,_,_,rfl,o4,n4,by lia,by lia⟩
   ·rintro c st3 ⟨lk3,out,ia,ib,g3,ac,bc,rfl,ho,hia,hib,hxx⟩;exact⟨lk3,.inr ⟨_,_,_,_,_,_,rfl,ho,hia,hib,hxx⟩⟩
   ·rintro c st3 ⟨lk3,⟨r,out,ia,ib,g3,ac,bc,rfl,hr⟩|⟨out,ia,ib,g3,ac,bc,rfl,ho,hia,hib,hxx⟩⟩
    ·exact wpS_pure ⟨lk3,_,_,_,_,_,rfl,hr⟩
    ·try dsimp only
     refine wpS_bind (wpS_modify ?_);exact wpS_pure ⟨lk3.trans (Z1 _ _),_,_,_,_,rfl,ho,hia,hib,by lia⟩
 ·rintro c st1 ⟨lk,out,ia,ib,g,rfl,ho,hia,hib,hx⟩;exfalso;lia
 ·rintro c st1 ⟨lk,r,out,ia,ib,g,rfl,hr⟩;exact wpS_pure (h r st1 lk hr)
end
def Zck(a b:Array Keyed)(out:Array Keyed)(na nb:Nat):Prop:=out.toList.Perm (a.toList.drop na++b.toList.drop nb)
section
variable{a b out:Array Keyed}{na nb:Nat}
theorem ex0(a:Array Keyed)(n:Nat):(a.extract 0 n).toList=a.toList.take n:=by
 rw[Array.toList_extract,List.extract_eq_drop_take,List.drop_zero,Nat.sub_zero]
theorem Zck.done(h:Zck a b out na nb):(a.extract 0 na++b.extract 0 nb++out.reverse).toList.Perm (a.toList++b.toList):=by
 rw[Array.toList_append,Array.toList_append,ex0,ex0,Array.toList_reverse];refine(List.Perm.append_left _ ((List.reverse_perm _).trans h)).trans ((ZlI ..).trans ?_);rw[List.take_append_drop,List.take_append_drop]
theorem Zck.first(h:Zck a b out na nb):(b.extract 0 nb++a.extract 0 na++out.reverse).toList.Perm (a.toList++b.toList):=by
 refine List.Perm.trans ?_ h.done;rw[Array.toList_append,Array.toList_append,Array.toList_append,Array.toList_append];exact List.Perm.append_right _ List.perm_append_comm
theorem ZgW{α : Type}{xs:List α}{i:Nat}{p : α}(h:xs[i]?= some p):xs.drop i=p::xs.drop (i+1):=by
 obtain⟨hi,e⟩:=List.getElem?_eq_some_iff.mp h;rw[<- e];exact List.drop_eq_getElem_cons hi
theorem Zck.pushA{p:Keyed}(h:Zck a b out na nb)(h1:1<=na)(hp:a[na-1]?= some p):Zck a b (out.push p) (na-1) nb:=by
 have hp':a.toList[na-1]?= some p:=by rw[<- hp];simp
 unfold Zck;rw[Array.toList_push,ZgW hp',Nat.sub_add_cancel h1];refine(List.Perm.append_right _ h).trans ?_;exact List.perm_append_comm
theorem Zck.pushB{p:Keyed}(h:Zck a b out na nb)(h1:1<=nb)(hp:b[nb-1]?= some p):Zck a b (out.push p) na (nb-1):=by
 have hp':b.toList[nb-1]?= some p:=by rw[<- hp];simp
 unfold Zck;rw[Array.toList_push,ZgW hp',Nat.sub_add_cancel h1];refine(List.Perm.append_right _ h).trans ?_;rw[List.append_assoc];refine List.Perm.append_left _ ?_;exact List.perm_append_comm
theorem Zgz{α : Type}(xs:List α){i j:Nat}(h:i<=j):xs.drop i=(xs.drop i).take (j-i)++xs.drop j:=by
 have:=List.take_append_drop (j-i) (xs.drop i);rw[List.drop_drop,Nat.add_sub_cancel' h] at this;exact this.symm
theorem Zck.extA{k:Nat}(h:Zck a b out na nb)(hk:k<=na):Zck a b (out++(a.extract k na).reverse) k nb:=by
 unfold Zck;rw[Array.toList_append,Array.toList_reverse,Array.toList_extract,List.extract_eq_drop_take];refine(List.Perm.append h (List.reverse_perm _)).trans ?_;refine List.perm_append_comm.trans ?_;rw[<- List.append_assoc,<- Zgz a.toList hk]
theorem Zck.extB{k:Nat}(h:Zck a b out na nb)(hk:k<=nb):Zck a b (out++(b.extract k nb).reverse) na k:=by
 unfold Zck;rw[Array.toList_append,Array.toList_reverse,Array.toList_extract,List.extract_eq_drop_take];refine(List.Perm.append h (List.reverse_perm _)).trans ?_;rw[List.append_assoc];refine List.Perm.append_left _ (List.perm_append_comm.trans ?_);rw[<- Zgz b.toList hk]
theorem Zk5{p:Keyed}(h1:1<=a.size)(hp:a[a.size-1]?= some p):Zck a b #[p] (a.size-1) b.size:=by
 have h0:Zck a b #[] a.size b.size:=by
  unfold Zck;rw[List.drop_eq_nil_of_le (by rw[Array.length_toList];exact Nat.le_refl _),List.drop_eq_nil_of_le (by rw[Array.length_toList];exact Nat.le_refl _)];exact List.Perm.refl _
 exact h0.pushA h1 hp
end
section
variable{prog:Program}{w:World}{A:Around}{E:Value->Shared->Prop}{s:Shared}{κ : SortKind}{Ok:Keyed->Prop}{st:SortSt}
set_option maxHeartbeats 1000000 in
theorem Zf6{a b:Array Keyed}{Q:Array Keyed->SortSt->Prop}(hc:Cmp prog w A s κ Ok)(hk:kindOf st= κ)(ha:∀p∈a.toList,Ok p)(hb:∀p∈b.toList,Ok p)(ha1:1<=a.size)(hb1:1<=b.size)
  (h:∀r st',Like st st'->r.toList.Perm (a.toList++b.toList)->Q r st'):wpS (model prog w) A E s (ZgG a b) Q st:=by
 refine wpS_bind (wpS_lift (wpAny_rule ⟨rfl,?_⟩));refine wpS_bind (Zi (by lia) fun p hp he=>?_)
 try dsimp only
 have o0:Zck a b #[p] (a.size-1) b.size:=Zk5 ha1 he;by_cases c1:(a.size-1 == 0)=true
 ·rw[if_pos c1];exact wpS_pure (h _ _ (Like.refl _) o0.done)
 rw[if_neg c1];by_cases c2:(b.size == 1)=true
 ·rw[if_pos c2];exact wpS_pure (h _ _ (Like.refl _) o0.first)
 rw[if_neg c2];have n1:1<b.size:=by
  have : ¬ b.size=1:=fun e=>c2 (by simp[e]);lia
 have n2:1<a.size:=by
  have : ¬ a.size-1=0:=fun e=>c1 (by simp[e]);lia
 refine wpS_bind (wpS_get ?_);refine wpS_bind (wpS_mono (wpS_forRange (I:=fun x c st'=>Like st st'/\∃na nb out g,c=(none,na,nb,out,g)/\Zck a b out na nb/\1<=na/\na<=a.size/\2<=nb/\nb<=b.size/\na+nb+x+1<=a.size+b.size)
  (Q:=fun c st'=>Like st st'/\∃r na nb out g,c=(some r,na,nb,out,g)/\r.toList.Perm (a.toList++b.toList)) ?_ ?_ ⟨Like.refl _,_,_,_,_,rfl,o0,by lia,by lia,by lia,by lia,by lia⟩) ?_)
 ·rintro x c st1 _ hx ⟨lk,na,nb,out,g,rfl,ho,h1,h2,h3,h4,hxx⟩
  try dsimp only
  refine wpS_bind (wpS_mono (wpS_forRange (I:=fun y c st'=>Like st st'/\∃na nb out ac bc,c=(none,na,nb,out,ac,bc)/\Zck a b out na nb/\1<=na/\na<=a.size/\2<=nb/\nb<=b.size/\na+nb+x+1+(if y=0 then 0 else 1)<=a.size+b.size)
   (Q:=fun c st'=>Like st st'/\((∃r na nb out ac bc,c=(some r,na,nb,out,ac,bc)/\r.toList.Perm (a.toList++b.toList))\/∃na nb out ac bc,c=(none,na,nb,out,ac,bc)/\Zck a b out na nb/\1<=na/\na<=a.size/\2<=nb/\nb<=b.size/\na+nb+x+2<=a.size+b.size)) ?_ ?_ ⟨lk,na,nb,out,0,0,rfl,ho,h1,h2,h3,h4,by simp;lia⟩) ?_)
  ·rintro y c st2 _ hy ⟨lk2,na,nb,out,ac,bc,rfl,ho,h1,h2,h3,h4,hxx⟩;have hxx2:na+nb+x+1<=a.size+b.size:=by split at hxx <;> lia
   try dsimp only
   refine wpS_bind (Zi (by lia) fun p hp ep=>?_);refine wpS_bind (Zi (by lia) fun q hq eq=>?_);refine wpS_bind (Zfv hc (lk2.kind.trans hk) (hb p hp) (ha q hq) fun bw=>?_);cases bw with
   | true =>
    try dsimp only
    rw[if_pos rfl];refine wpS_bind (Zi (by lia) fun p2 hp2 ep2=>?_);have o1:=ho.pushA h1 ep2;by_cases d1:(na-1 == 0)=true
    ·rw[if_pos d1];exact wpS_pure ⟨lk2,.inl ⟨_,_,_,_,_,_,rfl,o1.done⟩⟩
    rw[if_neg d1];have m1 : ¬ na-1=0:=fun e=>d1 (by simp[e]);by_cases d2:ac+1>=g
    ·rw[if_pos d2];exact wpS_pure ⟨lk2,.inr ⟨_,_,_,_,_,rfl,o1,by lia,by lia,h3,h4,by lia⟩⟩
    ·rw[if_neg d2];exact wpS_pure ⟨lk2,_,_,_,_,_,rfl,o1,by lia,by lia,h3,h4,by rw[if_neg (by lia)];lia⟩
   | false =>
    try dsimp only
    rw[if_neg Bool.false_ne_true];refine wpS_bind (Zi (by lia) fun p2 hp2 ep2=>?_);have o1:=ho.pushB (by lia) ep2;by_cases d1:(nb-1 == 1)=true
    ·rw[if_pos d1];exact wpS_pure ⟨lk2,.inl ⟨_,_,_,_,_,_,rfl,o1.first⟩⟩
    rw[if_neg d1];have m1 : ¬ nb-1=1:=fun e=>d1 (by simp[e]);by_cases d2:bc+1>=g
    ·rw[if_pos d2];exact wpS_pure ⟨lk2,.inr ⟨_,_,_,_,_,rfl,o1,h1,h2,by lia,by lia,by lia⟩⟩
    ·rw[if_neg d2];exact wpS_pure ⟨lk2,_,_,_,_,_,rfl,o1,h1,h2,by lia,by lia,by rw[if_neg (by lia)];lia⟩
  ·rintro c st2 ⟨lk2,na,nb,out,ac,bc,rfl,ho,h1,h2,h3,h4,hxx⟩;refine⟨lk2,.inr ⟨_,_,_,_,_,rfl,ho,h1,h2,h3,h4,?_⟩⟩;rw[if_neg (by lia)] at hxx;lia
  ·rintro c st2 ⟨lk2,⟨r,na,nb,out,ac,bc,rfl,hr⟩|⟨na,nb,out,ac,bc,rfl,ho,h1,h2,h3,h4,hxx⟩⟩
   ·exact wpS_pure ⟨lk2,_,_,_,_,_,rfl,hr⟩
   try dsimp only
   refine wpS_bind (wpS_lift (wpAny_rule ⟨rfl,?_⟩))
   try dsimp only
   refine wpS_bind (wpS_mono (wpS_forRange (I:=fun y c st'=>Like st st'/\∃na nb out g ac bc,c=(none,na,nb,out,g,ac,bc)/\Zck a b out na nb/\1<=na/\na<=a.size/\2<=nb/\nb<=b.size/\na+nb+x+2<=a.size+b.size)
    (Q:=fun c st'=>Like st st'/\((∃r na nb out g ac bc,c=(some r,na,nb,out,g,ac,bc)/\r.toList.Perm (a.toList++b.toList))\/∃na nb out g ac bc,c=(none,na,nb,out,g,ac,bc)/\Zck a b out na nb/\1<=na/\na<=a.size/\2<=nb/\nb<=b.size/\na+nb+x+2<=a.size+b.size)) ?_ ?_ ⟨lk2,na,nb,out,_,_,_,rfl,ho,h1,h2,h3,h4,hxx⟩) ?_)
   ·rintro y c st3 _ hy ⟨lk3,na,nb,out,g3,ac,bc,rfl,ho,h1,h2,h3,h4,hxx⟩
    try dsimp only
    by_cases g1:g3 > 1
    ·rw[if_pos g1];refine wpS_bind (wpS_modify ?_);have lk4:=lk3.trans (Z1 st3 (g3-1));refine wpS_bind (Zi (by lia) fun p0 w0 e0=>?_);refine wpS_bind (ZZ hc (lk4.kind.trans hk) (hb p0 w0) ha (by lia) (by lia) fun k hk1=>?_);dsimp only;by_cases k0:na-k > 0
     ·rw[if_pos k0];have o1:=ho.extA (k:=k) (by lia);by_cases c1:(k == 0)=true
      ·rw[if_pos c1];exact wpS_pure ⟨lk4,.inl ⟨_,_,_,_,_,_,_,rfl,o1.done⟩⟩
      rw[if_neg c1];have n1 : ¬ k=0:=fun e=>c1 (by simp[e]);refine wpS_bind (Zi (by lia) fun p3 w3 e3=>?_);have o2:=o1.pushB (by lia) e3;by_cases c3:(nb-1 == 1)=true
      ·rw[if_pos c3];exact wpS_pure ⟨lk4,.inl ⟨_,_,_,_,_,_,_,rfl,o2.first⟩⟩
      rw[if_neg c3];have n3 : ¬ nb-1=1:=fun e=>c3 (by simp[e]);refine wpS_bind (Zi (by lia) fun q3 v3 u3=>?_);refine wpS_bind (ZZ hc (lk4.kind.trans hk) (ha q3 v3) hb (by lia) (by lia) fun k2 hk2=>?_);dsimp only;by_cases k20:nb-1-k2 > 0
      ·rw[if_pos k20];have o3:=o2.extB (k:=k2) (by lia);by_cases c4:(k2 == 1)=true
       ·rw[if_pos c4];exact wpS_pure ⟨lk4,.inl ⟨_,_,_,_,_,_,_,rfl,o3.first⟩⟩
       rw[if_neg c4];by_cases c5:(k2 == 0)=true
       ·rw[if_pos c5];exact wpS_pure ⟨lk4,.inl ⟨_,_,_,_,_,_,_,rfl,o3.done⟩⟩
       rw[if_neg c5];have n5 : ¬ k2=1:=fun e=>c4 (by simp[e]);have n6 : ¬ k2=0:=fun e=>c5 (by simp[e]);refine wpS_bind (Zi (by lia) fun p4 w4 e4=>?_);have o4:=o3.pushA (by lia) e4;by_cases f1:(k-1 == 0)=true
       ·rw[if_pos f1];exact wpS_pure ⟨lk4,.inl ⟨_,_,_,_,_,_,_,rfl,o4.done⟩⟩
       rw[if_neg f1];have n4 : ¬ k-1=0:=fun e=>f1 (by simp[e]);by_cases f2:(decide (na-k<7)&&decide (nb-1-k2<7))=true
       ·rw[if_pos f2];exact wpS_pure ⟨lk4,.inr ⟨_,_,_,_,_,_,rfl,o4,by lia,by lia,by lia,by lia,by lia⟩⟩
       ·rw[if_neg f2];exact wpS_pure ⟨lk4,_,_,_,_,_,_,rfl,o4,by lia,by lia,by lia,by lia,by lia⟩
      ·rw[if_neg k20];refine wpS_bind (Zi (by lia) fun p4 w4 e4=>?_);have o4:=o2.pushA (by lia) e4;by_cases f1:(k-1 == 0)=true
       ·rw[if_pos f1];exact wpS_pure ⟨lk4,.inl ⟨_,_,_,_,_,_,_,rfl,o4.done⟩⟩
       rw[if_neg f1];have n4 : ¬ k-1=0:=fun e=>f1 (by simp[e]);by_cases f2:(decide (na-k<7)&&decide (nb-1-k2<7))=true
       ·rw[if_pos f2];exact wpS_pure ⟨lk4,.inr ⟨_,_,_,_,_,_,rfl,o4,by lia,by lia,by lia,by lia,by lia⟩⟩
       ·rw[if_neg f2];exact wpS_pure ⟨lk4,_,_,_,_,_,_,rfl,o4,by lia,by lia,by lia,by lia,by lia⟩
     ·rw[if_neg k0];refine wpS_bind (Zi (by lia) fun p3 w3 e3=>?_);have o2:=ho.pushB (by lia) e3;by_cases c3:(nb-1 == 1)=true
      ·rw[if_pos c3];exact wpS_pure ⟨lk4,.inl ⟨_,_,_,_,_,_,_,rfl,o2.first⟩⟩
      rw[if_neg c3];have n3 : ¬ nb-1=1:=fun e=>c3 (by simp[e]);refine wpS_bind (Zi (by lia) fun q3 v3 u3=>?_);refine wpS_bind (ZZ hc (lk4.kind.trans hk) (ha q3 v3) hb (by lia) (by lia) fun k2 hk2=>?_);dsimp only;by_cases k20:nb-1-k2 > 0
      ·rw[if_pos k20];have o3:=o2.extB (k:=k2) (by lia);by_cases c4:(k2 == 1)=true
       ·rw[if_pos c4];exact wpS_pure ⟨lk4,.inl ⟨_,_,_,_,_,_,_,rfl,o3.first⟩⟩
       rw[if_neg c4];by_cases c5:(k2 == 0)=true
       ·rw[if_pos c5];exact wpS_pure ⟨lk4,.inl ⟨_,_,_,_,_,_,_,rfl,o3.done⟩⟩
       rw[if_neg c5];have n5 : ¬ k2=1:=fun e=>c4 (by simp[e]);have n6 : ¬ k2=0:=fun e=>c5 (by simp[e]);refine wpS_bind (Zi (by lia) fun p4 w4 e4=>?_);have o4:=o3.pushA (by lia) e4;by_cases f1:(na-1 == 0)=true
       ·rw[if_pos f1];exact wpS_pure ⟨lk4,.inl ⟨_,_,_,_,_,_,_,rfl,o4.done⟩⟩
       rw[if_neg f1];have n4 : ¬ na-1=0:=fun e=>f1 (by simp[e]);by_cases f2:(decide (na-k<7)&&decide (nb-1-k2<7))=true
       ·rw[if_pos f2];exact wpS_pure ⟨lk4,.inr ⟨_,_,_,_,_,_,rfl,o4,by lia,by lia,by lia,by lia,by lia⟩⟩
       ·rw[if_neg f2];exact wpS_pure ⟨lk4,_,_,_,_,_,_,rfl,o4,by lia,by lia,by lia,by lia,by lia⟩
      ·rw[if_neg k20];refine wpS_bind (Zi (by lia) fun p4 w4 e4=>?_);have o4:=o2.pushA (by lia) e4;by_cases f1:(na-1 == 0)=true
       ·rw[if_pos f1];exact wpS_pure ⟨lk4,.inl ⟨_,_,_,_,_,_,_,rfl,o4.done⟩⟩
       rw[if_neg f1];have n4 : ¬ na-1=0:=fun e=>f1 (by simp[e]);by_cases f2:(decide (na-k<7)&&decide (nb-1-k2<7))=true
       ·rw[if_pos f2];exact wpS_pure ⟨lk4,.inr ⟨_,_,_,_,_,_,rfl,o4,by lia,by lia,by lia,by lia,by lia⟩⟩
       ·rw[if_neg f2];exact wpS_pure ⟨lk4,_,_,_,_,_,_,rfl,o4,by lia,by lia,by lia,by lia,by lia⟩
    ·rw[if_neg g1];refine wpS_bind (wpS_modify ?_);have lk4:=lk3.trans (Z1 st3 g3);refine wpS_bind (Zi (by lia) fun p0 w0 e0=>?_);refine wpS_bind (ZZ hc (lk4.kind.trans hk) (hb p0 w0) ha (by lia) (by lia) fun k hk1=>?_);dsimp only;by_cases k0:na-k > 0
     ·rw[if_pos k0];have o1:=ho.extA (k:=k) (by lia);by_cases c1:(k == 0)=true
      ·rw[if_pos c1];exact wpS_pure ⟨lk4,.inl ⟨_,_,_,_,_,_,_,rfl,o1.done⟩⟩
      rw[if_neg c1];have n1 : ¬ k=0:=fun e=>c1 (by simp[e]);refine wpS_bind (Zi (by lia) fun p3 w3 e3=>?_);have o2:=o1.pushB (by lia) e3;by_cases c3:(nb-1 == 1)=true
      ·rw[if_pos c3];exact wpS_pure ⟨lk4,.inl ⟨_,_,_,_,_,_,_,rfl,o2.first⟩⟩
      rw[if_neg c3];have n3 : ¬ nb-1=1:=fun e=>c3 (by simp[e]);refine wpS_bind (Zi (by lia) fun q3 v3 u3=>?_);refine wpS_bind (ZZ hc (lk4.kind.trans hk) (ha q3 v3) hb (by lia) (by lia) fun k2 hk2=>?_);dsimp only;by_cases k20:nb-1-k2 > 0
      ·rw[if_pos k20];have o3:=o2.extB (k:=k2) (by lia);by_cases c4:(k2 == 1)=true
       ·rw[if_pos c4];exact wpS_pure ⟨lk4,.inl ⟨_,_,_,_,_,_,_,rfl,o3.first⟩⟩
       rw[if_neg c4];by_cases c5:(k2 == 0)=true
       ·rw[if_pos c5];exact wpS_pure ⟨lk4,.inl ⟨_,_,_,_,_,_,_,rfl,o3.done⟩⟩
       rw[if_neg c5];have n5 : ¬ k2=1:=fun e=>c4 (by simp[e]);have n6 : ¬ k2=0:=fun e=>c5 (by simp[e]);refine wpS_bind (Zi (by lia) fun p4 w4 e4=>?_);have o4:=o3.pushA (by lia) e4;by_cases f1:(k-1 == 0)=true
       ·rw[if_pos f1];exact wpS_pure ⟨lk4,.inl ⟨_,_,_,_,_,_,_,rfl,o4.done⟩⟩
       rw[if_neg f1];have n4 : ¬ k-1=0:=fun e=>f1 (by simp[e]);by_cases f2:(decide (na-k<7)&&decide (nb-1-k2<7))=true
       ·rw[if_pos f2];exact wpS_pure ⟨lk4,.inr ⟨_,_,_,_,_,_,rfl,o4,by lia,by lia,by lia,by lia,by lia⟩⟩
       ·rw[if_neg f2];exact wpS_pure ⟨lk4,_,_,_,_,_,_,rfl,o4,by lia,by lia,by lia,by lia,by lia⟩
      ·rw[if_neg k20];refine wpS_bind (Zi (by lia) fun p4 w4 e4=>?_);have o4:=o2.pushA (by lia) e4;by_cases f1:(k-1 == 0)=true
       ·rw[if_pos f1];exact wpS_pure ⟨lk4,.inl ⟨_,_,_,_,_,_,_,rfl,o4.done⟩⟩
       rw[if_neg f1];have n4 : ¬ k-1=0:=fun e=>f1 (by simp[e]);by_cases f2:(decide (na-k<7)&&decide (nb-1-k2<7))=true
       ·rw[if_pos f2];exact wpS_pure ⟨lk4,.inr ⟨_,_,_,_,_,_,rfl,o4,by lia,by lia,by lia,by lia,by lia⟩⟩
       ·rw[if_neg f2];exact wpS_pure ⟨lk4,_,_,_,_,_,_,rfl,o4,by lia,by lia,by lia,by lia,by lia⟩
     ·rw[if_neg k0];refine wpS_bind (Zi (by lia) fun p3 w3 e3=>?_);have o2:=ho.pushB (by lia) e3;by_cases c3:(nb-1 == 1)=true
      ·rw[if_pos c3];exact wpS_pure ⟨lk4,.inl ⟨_,_,_,_,_,_,_,rfl,o2.first⟩⟩
      rw[if_neg c3];have n3 : ¬ nb-1=1:=fun e=>c3 (by simp[e]);refine wpS_bind (Zi (by lia) fun q3 v3 u3=>?_);refine wpS_bind (ZZ hc (lk4.kind.trans hk) (ha q3 v3) hb (by lia) (by lia) fun k2 hk2=>?_);dsimp only;by_cases k20:nb-1-k2 > 0
      ·rw[if_pos k20];have o3:=o2.extB (k:=k2) (by lia);by_cases c4:(k2 == 1)=true
       ·rw[if_pos c4];exact wpS_pure ⟨lk4,.inl ⟨_,_,_,_,_,_,_,rfl,o3.first⟩⟩
       rw[if_neg c4];by_cases c5:(k2 == 0)=true
       ·rw[if_pos c5];exact wpS_pure ⟨lk4,.inl ⟨_,_,_,_,_,_,_,rfl,o3.done⟩⟩
       rw[if_neg c5];have n5 : ¬ k2=1:=fun e=>c4 (by simp[e]);have n6 : ¬ k2=0:=fun e=>c5 (by simp[e]);refine wpS_bind (Zi (by lia) fun p4 w4 e4=>?_);have o4:=o3.pushA (by lia) e4;by_cases f1:(na-1 == 0)=true
       ·rw[if_pos f1];exact wpS_pure ⟨lk4,.inl ⟨_,_,_,_,_,_,_,rfl,o4.done⟩⟩
       rw[if_neg f1];have n4 : ¬ na-1=0:=fun e=>f1 (by simp[e]);by_cases f2:(decide (na-k<7)&&decide (nb-1-k2<7))=true
       ·rw[if_pos f2];exact wpS_pure ⟨lk4,.inr ⟨_,_,_,_,_,_,rfl,o4,by lia,by lia,by lia,by lia,by lia⟩⟩
       ·rw[if_neg f2];exact wpS_pure ⟨lk4,_,_,_,_,_,_,rfl,o4,by lia,by lia,by lia,by lia,by lia⟩
      ·rw[if_neg k20];refine wpS_bind (Zi (by lia) fun p4 w4 e4=>?_);have o4:=o2.pushA (by lia) e4;by_cases f1:(na-1 == 0)=true
       ·rw[if_pos f1];exact wpS_pure ⟨lk4,.inl ⟨_,_,_,_,_,_,_,rfl,o4.done⟩⟩
       rw[if_neg f1];have n4 : ¬ na-1=0:=fun e=>f1 (by simp[e]);by_cases f2:(decide (na-k<7)&&decide (nb-1-k2<7))=true
       ·rw[if_pos f2];exact wpS_pure ⟨lk4,.inr ⟨_,_,_,_,_,_,rfl,o4,by lia,by lia,by lia,by lia,by lia⟩⟩
       ·rw[if_neg f2];exact wpS_pure ⟨lk4,_,_,_,_,_,_,rfl,o4,by lia,by lia,by lia,by lia,by lia⟩
   ·rintro c st3 ⟨lk3,na,nb,out,g3,ac,bc,rfl,ho,h1,h2,h3,h4,hxx⟩;exact⟨lk3,.inr ⟨_,_,_,_,_,_,rfl,ho,h1,h2,h3,h4,hxx⟩⟩
   ·rintro c st3 ⟨lk3,⟨r,na,nb,out,g3,ac,bc,rfl,hr⟩|⟨na,nb,out,g3,ac,bc,rfl,ho,h1,h2,h3,h4,hxx⟩⟩
    ·exact wpS_pure ⟨lk3,_,_,_,_,_,rfl,hr⟩
    ·try dsimp only
     refine wpS_bind (wpS_modify ?_);exact wpS_pure ⟨lk3.trans (Z1 _ _),_,_,_,_,rfl,ho,h1,h2,h3,h4,by lia⟩
 ·rintro c st1 ⟨lk,na,nb,out,g,rfl,ho,h1,h2,h3,h4,hx⟩;exfalso;lia
 ·rintro c st1 ⟨lk,r,na,nb,out,g,rfl,hr⟩;exact wpS_pure (h r st1 lk hr)
end
structure Pm(st st':SortSt):Prop where
 arr:(arrOf st').toList.Perm (arrOf st).toList
 kind:kindOf st'=kindOf st
 fail:failedOf st'=failedOf st
 pend:pendingOf st'=pendingOf st
theorem Pm.refl(st:SortSt):Pm st st:=⟨List.Perm.refl _,rfl,rfl,rfl⟩
theorem Pm.trans{a b c:SortSt}(x:Pm a b)(y:Pm b c):Pm a c:=⟨y.arr.trans x.arr,y.kind.trans x.kind,y.fail.trans x.fail,y.pend.trans x.pend⟩
theorem Pm.size{a b:SortSt}(x:Pm a b):(arrOf b).size=(arrOf a).size:=by
 have:=x.arr.length_eq;rw[Array.length_toList,Array.length_toList] at this;exact this
theorem Pm.ok{a b:SortSt}{Ok:Keyed->Prop}(x:Pm a b)(h:∀p∈(arrOf a).toList,Ok p):∀p∈(arrOf b).toList,Ok p:=fun p hp=>h p (x.arr.mem_iff.mp hp)
theorem Pm.mirror(st:SortSt)(i j:Nat):Pm st (setArr st (mirror (arrOf st) i j ((j-i) / 2))):=⟨Array.perm_iff_toList_perm.mp (mirror_perm _ _ _ _),rfl,rfl,rfl⟩
theorem Pm.bubble(st:SortSt)(i j:Nat):Pm st (setArr st (bubble (arrOf st) i (i-j))):=⟨Array.perm_iff_toList_perm.mp (bubble_perm _ _ _),rfl,rfl,rfl⟩
section
variable{prog:Program}{w:World}{A:Around}{E:Value->Shared->Prop}{s:Shared}{κ : SortKind}{Ok:Keyed->Prop}{st:SortSt}
theorem ZaC{i j:Nat}{Q:Option Bool->SortSt->Prop}(hc:Cmp prog w A s κ Ok)(hk:kindOf st= κ)(ho:∀p∈(arrOf st).toList,Ok p)(hi:i<(arrOf st).size)(hj:j<(arrOf st).size)(h:∀b,Q (some b) st):wpS (model prog w) A E s (ltAt' i j) Q st:=by
 rw[ltAt'_eq];refine wpS_bind (wpS_get ?_);refine wpS_bind (Zi hi fun p hp _=>wpS_bind (Zi hj fun q hq _=>?_));exact Zfv hc hk (ho p hp) (ho q hq) h
theorem ZbF{i j:Nat}{Q:PUnit->SortSt->Prop}(h:∀st',Pm st st'->Q ⟨⟩ st'):wpS (model prog w) A E s (reverseSlice' i j) Q st:=by
 rw[reverseSlice'_eq];exact wpS_modify (h _ (Pm.mirror st i j))
theorem ZjD{i j:Nat}{Q:PUnit->SortSt->Prop}(h:∀st',Pm st st'->Q ⟨⟩ st'):wpS (model prog w) A E s (moveDown' i j) Q st:=by
 rw[moveDown'_eq];exact wpS_modify (h _ (Pm.bubble st i j))
theorem ZhG{lo n ok:Nat}{Q:Bool->SortSt->Prop}(hc:Cmp prog w A s κ Ok)(hk:kindOf st= κ)(ho:∀p∈(arrOf st).toList,Ok p)(hn:lo+n<=(arrOf st).size)(h:∀st',Pm st st'->Q true st'):wpS (model prog w) A E s (binarySort' lo n ok) Q st:=by
 refine wpS_bind (wpS_mono (wpS_forRange (I:=fun _ c st'=>c=(none,())/\Pm st st') (Q:=fun c st'=>c=(none,())/\Pm st st') ?_ (fun _ _ z=>z) ⟨rfl,Pm.refl _⟩) ?_)
 ·rintro k c st1 _ hkn ⟨rfl,pm⟩
  try dsimp only
  have hsz:=pm.size;refine wpS_bind (wpS_mono (wpS_forRange (I:=fun _ c st'=>st'=st1/\∃l r,c=(none,l,r)/\l<=r/\r<=k) (Q:=fun c st'=>st'=st1/\∃l r,c=(none,l,r)/\l<=r/\r<=k) ?_ (fun _ _ z=>z) ⟨rfl,0,k,rfl,by lia,by lia⟩) ?_)
  ·rintro y c st2 _ _ ⟨rfl,l,r,rfl,h1,h2⟩
   try dsimp only
   by_cases hlr:l>=r
   ·rw[if_pos hlr];exact wpS_pure ⟨rfl,l,r,rfl,h1,h2⟩
   rw[if_neg hlr];refine wpS_bind (ZaC hc (pm.kind.trans hk) (pm.ok ho) (by lia) (by lia) fun b=>?_);cases b with
   | true=>exact wpS_pure ⟨rfl,_,_,rfl,by lia,by lia⟩
   | false=>exact wpS_pure ⟨rfl,_,_,rfl,by lia,by lia⟩
  ·rintro c st2 ⟨rfl,l,r,rfl,h1,h2⟩
   try dsimp only
   refine wpS_bind (ZjD fun st3 p3=>?_);exact wpS_pure ⟨rfl,pm.trans p3⟩
 ·rintro c st1 ⟨rfl,pm⟩;exact wpS_pure (h st1 pm)
theorem Zik{lo nrem:Nat}{Q:Option Nat->SortSt->Prop}(hc:Cmp prog w A s κ Ok)(hk:kindOf st= κ)(ho:∀p∈(arrOf st).toList,Ok p)(h1:1<=nrem)(hn:lo+nrem<=(arrOf st).size)(h:∀n st',1<=n->n<=nrem->Pm st st'->Q (some n) st'):wpS (model prog w) A E s (countRun' lo nrem) Q st:=by
 refine wpS_bind (wpS_mono (wpS_forRange (I:=fun x c st'=>st'=st/\∃n,c=(none,n)/\1<=n/\n<=x) (Q:=fun c st'=>st'=st/\∃n,c=(none,n)/\1<=n/\n<=nrem) ?_ ?_ ⟨rfl,1,rfl,by lia,by lia⟩) ?_)
 ·rintro x c st1 _ hx ⟨rfl,n,rfl,n1,n2⟩
  try dsimp only
  refine wpS_bind (ZaC hc hk ho (by lia) (by lia) fun b=>?_);cases b with
  | true=>exact wpS_pure ⟨rfl,n,rfl,n1,by lia⟩
  | false=>exact wpS_pure ⟨rfl,n+1,rfl,by lia,by lia⟩
 ·rintro c st1 ⟨rfl,n,rfl,n1,n2⟩;exact⟨rfl,n,rfl,n1,by lia⟩
 ·rintro c st1 ⟨rfl,n,rfl,n1,n2⟩
  try dsimp only
  by_cases e1:(n == nrem)=true
  ·rw[if_pos e1];exact wpS_pure (h n st1 n1 n2 (Pm.refl _))
  rw[if_neg e1];have n3:n<nrem:=by
   have : ¬ n=nrem:=fun e=>e1 (by simp[e]);lia
  by_cases e2:n > 1
  ·rw[if_pos e2];refine wpS_bind (ZaC hc hk ho (by lia) (by lia) fun b=>?_);cases b with
   | true =>
    try dsimp only
    rw[if_pos rfl];exact wpS_pure (h n st1 n1 n2 (Pm.refl _))
   | false =>
    try dsimp only
    rw[if_neg Bool.false_ne_true];refine wpS_bind (ZbF fun st2 p2=>?_);refine wpS_bind (wpS_lift (wpAny_rule ⟨rfl,?_⟩));refine wpS_bind (wpS_mono (wpS_forRange (I:=fun x c st'=>Pm st1 st'/\∃n q,c=(none,n,q)/\1<=n/\n<=x) (Q:=fun c st'=>Pm st1 st'/\∃n q,c=(none,n,q)/\1<=n/\n<=nrem) ?_ ?_ ⟨p2,n+1,0,rfl,by lia,by lia⟩) ?_)
    ·rintro x c st3 _ hx ⟨p3,n,q,rfl,m1,m2⟩;have z3:=p3.size
     try dsimp only
     refine wpS_bind (ZaC hc (p3.kind.trans hk) (p3.ok ho) (by lia) (by lia) fun b=>?_);cases b with
     | true =>
      try dsimp only
      rw[if_pos rfl];by_cases q0:q > 0
      ·rw[if_pos q0];refine wpS_bind (ZbF fun st4 p4=>?_);exact wpS_pure ⟨p3.trans p4,n+1,0,rfl,by lia,by lia⟩
      ·rw[if_neg q0];exact wpS_pure ⟨p3,n+1,0,rfl,by lia,by lia⟩
     | false =>
      try dsimp only
      rw[if_neg Bool.false_ne_true];refine wpS_bind (ZaC hc (p3.kind.trans hk) (p3.ok ho) (by lia) (by lia) fun b=>?_);cases b with
      | true=>exact wpS_pure ⟨p3,n,q,rfl,by lia,by lia⟩
      | false=>exact wpS_pure ⟨p3,n+1,q+1,rfl,by lia,by lia⟩
    ·rintro c st3 ⟨p3,n',q,rfl,m1,m2⟩;exact⟨p3,n',q,rfl,m1,by lia⟩
    ·rintro c st3 ⟨p3,n,q,rfl,m1,m2⟩
     try dsimp only
     by_cases q0:q > 0
     ·rw[if_pos q0];refine wpS_bind (ZbF fun st4 p4=>?_);refine wpS_bind (ZbF fun st5 p5=>?_);have p6:=(p3.trans p4).trans p5;have z6:=p6.size;refine wpS_bind (wpS_mono (wpS_forRange (I:=fun x c st'=>st'=st5/\∃k,c=(none,k)/\1<=k/\k<=max n x) (Q:=fun c st'=>st'=st5/\∃k,c=(none,k)/\1<=k/\k<=nrem) ?_ ?_ ⟨rfl,n,rfl,m1,by lia⟩) ?_)
      ·rintro x c st7 hx1 hx2 ⟨rfl,k,rfl,k1,k2⟩
       try dsimp only
       refine wpS_bind (ZaC hc (p6.kind.trans hk) (p6.ok ho) (by lia) (by lia) fun b=>?_);cases b with
       | true=>exact wpS_pure ⟨rfl,k,rfl,k1,by lia⟩
       | false=>exact wpS_pure ⟨rfl,k+1,rfl,by lia,by lia⟩
      ·rintro c st7 ⟨rfl,k,rfl,k1,k2⟩;exact⟨rfl,k,rfl,k1,by lia⟩
      ·rintro c st7 ⟨rfl,k,rfl,k1,k2⟩;exact wpS_pure (h k _ k1 k2 p6)
     ·rw[if_neg q0];refine wpS_bind (ZbF fun st5 p5=>?_);have p6:=p3.trans p5;have z6:=p6.size;refine wpS_bind (wpS_mono (wpS_forRange (I:=fun x c st'=>st'=st5/\∃k,c=(none,k)/\1<=k/\k<=max n x) (Q:=fun c st'=>st'=st5/\∃k,c=(none,k)/\1<=k/\k<=nrem) ?_ ?_ ⟨rfl,n,rfl,m1,by lia⟩) ?_)
      ·rintro x c st7 hx1 hx2 ⟨rfl,k,rfl,k1,k2⟩
       try dsimp only
       refine wpS_bind (ZaC hc (p6.kind.trans hk) (p6.ok ho) (by lia) (by lia) fun b=>?_);cases b with
       | true=>exact wpS_pure ⟨rfl,k,rfl,k1,by lia⟩
       | false=>exact wpS_pure ⟨rfl,k+1,rfl,by lia,by lia⟩
      ·rintro c st7 ⟨rfl,k,rfl,k1,k2⟩;exact⟨rfl,k,rfl,k1,by lia⟩
      ·rintro c st7 ⟨rfl,k,rfl,k1,k2⟩;exact wpS_pure (h k _ k1 k2 p6)
  ·rw[if_neg e2];have p2:=Pm.refl st1;refine wpS_bind (wpS_lift (wpAny_rule ⟨rfl,?_⟩));refine wpS_bind (wpS_mono (wpS_forRange (I:=fun x c st'=>Pm st1 st'/\∃n q,c=(none,n,q)/\1<=n/\n<=x) (Q:=fun c st'=>Pm st1 st'/\∃n q,c=(none,n,q)/\1<=n/\n<=nrem) ?_ ?_ ⟨p2,n+1,0,rfl,by lia,by lia⟩) ?_)
   ·rintro x c st3 _ hx ⟨p3,n,q,rfl,m1,m2⟩;have z3:=p3.size
    try dsimp only
    refine wpS_bind (ZaC hc (p3.kind.trans hk) (p3.ok ho) (by lia) (by lia) fun b=>?_);cases b with
    | true =>
     try dsimp only
     rw[if_pos rfl];by_cases q0:q > 0
     ·rw[if_pos q0];refine wpS_bind (ZbF fun st4 p4=>?_);exact wpS_pure ⟨p3.trans p4,n+1,0,rfl,by lia,by lia⟩
     ·rw[if_neg q0];exact wpS_pure ⟨p3,n+1,0,rfl,by lia,by lia⟩
    | false =>
     try dsimp only
     rw[if_neg Bool.false_ne_true];refine wpS_bind (ZaC hc (p3.kind.trans hk) (p3.ok ho) (by lia) (by lia) fun b=>?_);cases b with
     | true=>exact wpS_pure ⟨p3,n,q,rfl,by lia,by lia⟩
     | false=>exact wpS_pure ⟨p3,n+1,q+1,rfl,by lia,by lia⟩
   ·rintro c st3 ⟨p3,n',q,rfl,m1,m2⟩;exact⟨p3,n',q,rfl,m1,by lia⟩
   ·rintro c st3 ⟨p3,n,q,rfl,m1,m2⟩
    try dsimp only
    by_cases q0:q > 0
    ·rw[if_pos q0];refine wpS_bind (ZbF fun st4 p4=>?_);refine wpS_bind (ZbF fun st5 p5=>?_);have p6:=(p3.trans p4).trans p5;have z6:=p6.size;refine wpS_bind (wpS_mono (wpS_forRange (I:=fun x c st'=>st'=st5/\∃k,c=(none,k)/\1<=k/\k<=max n x) (Q:=fun c st'=>st'=st5/\∃k,c=(none,k)/\1<=k/\k<=nrem) ?_ ?_ ⟨rfl,n,rfl,m1,by lia⟩) ?_)
     ·rintro x c st7 hx1 hx2 ⟨rfl,k,rfl,k1,k2⟩
      try dsimp only
      refine wpS_bind (ZaC hc (p6.kind.trans hk) (p6.ok ho) (by lia) (by lia) fun b=>?_);cases b with
      | true=>exact wpS_pure ⟨rfl,k,rfl,k1,by lia⟩
      | false=>exact wpS_pure ⟨rfl,k+1,rfl,by lia,by lia⟩
     ·rintro c st7 ⟨rfl,k,rfl,k1,k2⟩;exact⟨rfl,k,rfl,k1,by lia⟩
     ·rintro c st7 ⟨rfl,k,rfl,k1,k2⟩;exact wpS_pure (h k _ k1 k2 p6)
    ·rw[if_neg q0];refine wpS_bind (ZbF fun st5 p5=>?_);have p6:=p3.trans p5;have z6:=p6.size;refine wpS_bind (wpS_mono (wpS_forRange (I:=fun x c st'=>st'=st5/\∃k,c=(none,k)/\1<=k/\k<=max n x) (Q:=fun c st'=>st'=st5/\∃k,c=(none,k)/\1<=k/\k<=nrem) ?_ ?_ ⟨rfl,n,rfl,m1,by lia⟩) ?_)
     ·rintro x c st7 hx1 hx2 ⟨rfl,k,rfl,k1,k2⟩
      try dsimp only
      refine wpS_bind (ZaC hc (p6.kind.trans hk) (p6.ok ho) (by lia) (by lia) fun b=>?_);cases b with
      | true=>exact wpS_pure ⟨rfl,k,rfl,k1,by lia⟩
      | false=>exact wpS_pure ⟨rfl,k+1,rfl,by lia,by lia⟩
     ·rintro c st7 ⟨rfl,k,rfl,k1,k2⟩;exact⟨rfl,k,rfl,k1,by lia⟩
     ·rintro c st7 ⟨rfl,k,rfl,k1,k2⟩;exact wpS_pure (h k _ k1 k2 p6)
end
def Cov:List (Nat×Nat×Nat)->Nat->Nat->Prop
 | [],lo,hi=>lo=hi
 | x::r,lo,hi=>x.1=lo/\1<=x.2.1/\Cov r (lo+x.2.1) hi
theorem Cov.le:∀{l:List (Nat×Nat×Nat)}{lo hi:Nat},Cov l lo hi->lo+l.length<=hi
 | [],lo,hi,h=>Nat.le_of_eq h
 | x::r,lo,hi,⟨_,h1,h2⟩=>by
  have:=Cov.le h2;rw[List.length_cons];lia
theorem Cov.push:∀{l:List (Nat×Nat×Nat)}{lo hi n p:Nat},Cov l lo hi->1<=n->Cov (l ++ [(hi,n,p)]) lo (hi+n)
 | [],lo,hi,n,p,h,h1=>by
  have e:lo=hi:=h;subst e;exact⟨rfl,h1,rfl⟩
 | x::r,lo,hi,n,p,⟨a,b,c⟩,h1=>⟨a,b,c.push h1⟩
theorem Cov.at:∀{l:List (Nat×Nat×Nat)}{i lo hi sa na p sb nb q:Nat},Cov l lo hi->l[i]?= some (sa,na,p)->l[i+1]?= some (sb,nb,q) ->
  sb=sa+na/\1<=na/\1<=nb/\sb+nb<=hi/\Cov ((l.set i (sa,na+nb,p)).eraseIdx (i+1)) lo hi
 | x::y::r,0,lo,hi,sa,na,p,sb,nb,q,⟨a,b,c1,c2,c3⟩,h1,h2=>by
  have e1:x=(sa,na,p):=by simpa using h1
  have e2:y=(sb,nb,q):=by simpa using h2
  subst e1;subst e2;have a':sa=lo:=a;have c1':sb=lo+na:=c1;have hle:=c3.le;subst a';refine⟨c1',b,c2,?_,rfl,?_,?_⟩
  ·have:sa+na+nb<=hi:=by
    have h3:sa+na+nb+r.length<=hi:=hle;lia
   lia
  ·show 1<=na+nb;have:1<=na:=b;lia
  ·show Cov r (sa+(na+nb)) hi;rw[<- Nat.add_assoc];exact c3
 | x::r,i+1,lo,hi,sa,na,p,sb,nb,q,⟨a,b,c⟩,h1,h2=>by
  obtain⟨k1,k2,k3,k4,k5⟩:=Cov.at (l:=r) (i:=i) c (by simpa using h1) (by simpa using h2);exact⟨k1,k2,k3,k4,a,b,k5⟩
 | [x],0,_,_,_,_,_,_,_,_,_,_,h2=>by simp at h2
 | [],_,_,_,_,_,_,_,_,_,_,h1,_=>by simp at h1
theorem Cov.last:∀{l:List (Nat×Nat×Nat)}{lo hi:Nat}(f:Nat×Nat×Nat->Nat×Nat×Nat)(_:∀x,(f x).1=x.1/\(f x).2.1=x.2.1)(i:Nat),Cov l lo hi->Cov (l.modify i f) lo hi
 | [],lo,hi,f,hf,i,h=>by cases i <;> exact h
 | x::r,lo,hi,f,hf,0,⟨a,b,c⟩=>by
  refine⟨(hf x).1.trans a,by rw[(hf x).2];exact b,?_⟩;rw[(hf x).2];exact c
 | x::r,lo,hi,f,hf,i+1,⟨a,b,c⟩=>⟨a,b,Cov.last f hf i c⟩
theorem splice(base:Nat):∀(m:List Keyed)(n:Nat)(arr:Array Keyed),base+n+m.length<=arr.size ->
  ((m.zipIdx n).foldl (fun(a:Array Keyed)(x:Keyed×Nat)=>match x with|(p,j)=>a.setIfInBounds (base+j) p) arr).toList=arr.toList.take (base+n)++m++arr.toList.drop (base+n+m.length)
 | [],n,arr,_=>by
  show arr.toList=_;rw[List.append_nil,List.length_nil,Nat.add_zero,List.take_append_drop]
 | p::m,n,arr,h=>by
  rw[List.length_cons] at h;rw[List.zipIdx_cons,List.foldl_cons];have hs:(arr.setIfInBounds (base+n) p).size=arr.size:=Array.size_setIfInBounds;rw[splice base m (n+1) _ (by rw[hs];lia),Array.toList_setIfInBounds];have hl:base+n<arr.toList.length:=by rw[Array.length_toList];lia
  rw[<- Nat.add_assoc,List.take_set,List.drop_set_of_lt (by lia)];have e1:(arr.toList.take (base+n+1)).set (base+n) p=arr.toList.take (base+n) ++ [p]:=by
   rw[List.take_succ_eq_append_getElem hl,List.set_append_right _ _ (by rw[List.length_take];lia)];rw[show base+n-(arr.toList.take (base+n)).length=0 by rw[List.length_take];lia];rfl
  rw[e1,List.length_cons,show base+n+1+m.length=base+n+(m.length+1) by lia];simp
section
variable{prog:Program}{w:World}{A:Around}{E:Value->Shared->Prop}{s:Shared}{κ : SortKind}{Ok:Keyed->Prop}{st:SortSt}
structure SB(a₀ : Array Keyed)(κ : SortKind)(hi:Nat)(st:SortSt):Prop where
 arr:(arrOf st).toList.Perm a₀.toList
 kind:kindOf st= κ
 fail:failedOf st=none
 cov:Cov (pendingOf st).toList 0 hi
theorem SB.size{a₀ : Array Keyed}{hi:Nat}(x:SB a₀ κ hi st):(arrOf st).size=a₀.size:=by
 have:=x.arr.length_eq;rw[Array.length_toList,Array.length_toList] at this;exact this
theorem SB.ok{a₀ : Array Keyed}{hi:Nat}(x:SB a₀ κ hi st)(h:∀p∈a₀.toList,Ok p):∀p∈(arrOf st).toList,Ok p:=fun p hp=>h p (x.arr.mem_iff.mp hp)
theorem SB.pm{a₀ : Array Keyed}{hi:Nat}{st':SortSt}(x:SB a₀ κ hi st)(p:Pm st st'):SB a₀ κ hi st':=⟨p.arr.trans x.arr,p.kind.trans x.kind,p.fail.trans x.fail,by rw[p.pend];exact x.cov⟩
theorem ZhX{v:SortSt}{Q:PUnit->SortSt->Prop}(h:Q ⟨⟩ v):wpS (model prog w) A E s (set v:StateT SortSt Sem PUnit) Q st:=by
 unfold wpS;rw[StateT.run_set];exact wpAny_pure ⟨rfl,h⟩
theorem ZeD(base:Nat)(m:List Keyed)(arr:Array Keyed)(h:base+m.length<=arr.size) :
  (m.zipIdx.foldl (fun(a:Array Keyed)(x:Keyed×Nat)=>a.setIfInBounds (base+x.2) x.1) arr).toList=arr.toList.take base++m++arr.toList.drop (base+m.length):=splice base m 0 arr h
theorem ZgP(L:List Keyed){m b e:Nat}(h1:m<=b)(h2:b<=e):L.extract m b++L.extract b e=(L.drop m).take (e-m):=by
 rw[List.extract_eq_drop_take,List.extract_eq_drop_take,show e-m=(b-m)+(e-b) by lia,List.take_add,List.drop_drop,Nat.add_sub_cancel' h1]
theorem Zdb{L r:List Keyed}{m c:Nat}(h:r.Perm ((L.drop m).take c))(hc:r.length=c):(L.take m++r++L.drop (m+r.length)).Perm L:=by
 subst hc;have e:L=L.take m++(L.drop m).take r.length++L.drop (m+r.length):=by
  rw[List.append_assoc,<- List.drop_drop,List.take_append_drop,List.take_append_drop]
 refine List.Perm.trans ?_ (List.Perm.of_eq e.symm);exact List.Perm.append_right _ (List.Perm.append_left _ h)
set_option maxHeartbeats 1000000 in
theorem Zcg{a₀ : Array Keyed}{hi i:Nat}{Q:Bool->SortSt->Prop}(hc:Cmp prog w A s κ Ok)(h0:∀p∈a₀.toList,Ok p)(hB:SB a₀ κ hi st)(hh:hi<=a₀.size)(hi1:i+1<(pendingOf st).size)
  (h:∀st',SB a₀ κ hi st'->(pendingOf st').size+1=(pendingOf st).size->Q true st'):wpS (model prog w) A E s (mergeAt' i) Q st:=by
 refine wpS_bind (wpS_get ?_);obtain⟨⟨sa,na,p⟩,e1⟩:∃x,(pendingOf st)[i]?= some x:=⟨_,getElem?_pos _ i (by lia)⟩;obtain⟨⟨sb,nb,q⟩,e2⟩:∃x,(pendingOf st)[i+1]?= some x:=⟨_,getElem?_pos _ (i+1) hi1⟩;obtain⟨k1,k2,k3,k4,k5⟩:=hB.cov.at (i:=i) (by rw[<- e1];simp) (by rw[<- e2];simp);have e3:((pendingOf st)[i]?,(pendingOf st)[i+1]?)=(some (sa,na,p),some (sb,nb,q)):=by rw[e1,e2]
 have hsz:=hB.size;show wpS _ _ _ _ (match ((pendingOf st)[i]?,(pendingOf st)[i+1]?) with|(some (sa,na,power),some (sb,nb,_))=>_|_=>_) Q st
 rw[e1,e2];dsimp only;have hpl:(((pendingOf st).setIfInBounds i (sa,na+nb,p)).eraseIdxIfInBounds (i+1)).toList=((pendingOf st).toList.set i (sa,na+nb,p)).eraseIdx (i+1):=by
  simp
 have hps:((((pendingOf st).setIfInBounds i (sa,na+nb,p)).eraseIdxIfInBounds (i+1)).size+1=(pendingOf st).size):=by
  have:=congrArg List.length hpl;rw[Array.length_toList,List.length_eraseIdx,List.length_set,Array.length_toList,if_pos hi1] at this;lia
 have hB1:SB a₀ κ hi (SortSt.mk' (kindOf st) (arrOf st) (((pendingOf st).setIfInBounds i (sa,na+nb,p)).eraseIdxIfInBounds (i+1)) (gallopOf st) (failedOf st)):=⟨hB.arr,hB.kind,hB.fail,by
  show Cov (((pendingOf st).setIfInBounds i (sa,na+nb,p)).eraseIdxIfInBounds (i+1)).toList 0 hi;rw[hpl];exact k5⟩
 have hok:=hB.ok h0;have exm:∀(arr:Array Keyed)(x y:Nat){p:Keyed},p∈(arr.extract x y).toList->p∈arr.toList:=fun arr x y p hp=>by
  rw[Array.toList_extract,List.extract_eq_drop_take] at hp;exact List.mem_of_mem_drop (List.mem_of_mem_take hp)
 refine wpS_bind (ZhX ?_);refine wpS_bind (Zi (arr:=arrOf st) (by lia) fun p1 m1 _=>?_);refine wpS_bind (ZZ (a:=arrOf st) hc hB1.kind (hok p1 m1) hok (by lia) (by lia) fun k hk=>?_);dsimp only;by_cases c1:(na-k == 0)=true
 ·rw[if_pos c1];exact wpS_pure (h _ hB1 hps)
 rw[if_neg c1];have n1 : ¬ na-k=0:=fun e=>c1 (by simp[e]);refine wpS_bind (Zi (arr:=arrOf st) (by lia) fun p2 m2 _=>?_);refine wpS_bind (ZZ (a:=arrOf st) hc hB1.kind (hok p2 m2) hok (by lia) (by lia) fun nb' hnb=>?_);dsimp only;by_cases c2:(nb' == 0)=true
 ·rw[if_pos c2];exact wpS_pure (h _ hB1 hps)
 rw[if_neg c2];have n2 : ¬ nb'=0:=fun e=>c2 (by simp[e]);have xs:((arrOf st).extract (sa+k) sb).size=na-k:=by
  rw[Array.size_extract];lia
 have ys:((arrOf st).extract sb (sb+nb')).size=nb':=by
  rw[Array.size_extract];lia
 by_cases c3:na-k<=nb'
 ·rw[if_pos c3];refine wpS_bind (Zgt (a:=(arrOf st).extract (sa+k) sb) (b:=(arrOf st).extract sb (sb+nb')) hc hB1.kind (fun p hp=>hok p (exm _ _ _ hp)) (fun p hp=>hok p (exm _ _ _ hp)) (by rw[xs];lia) (by rw[ys];lia) fun r st2 lk hr=>?_);refine wpS_bind (wpS_modify ?_);refine wpS_bind (wpS_get ?_);have hf:failedOf st2=none:=lk.fail.trans hB.fail;have hr2:r.toList.Perm (((arrOf st).toList.drop (sa+k)).take ((na-k)+nb')):=by
   refine hr.trans (List.Perm.of_eq ?_);rw[Array.toList_extract,Array.toList_extract,ZgP _ (by lia) (by lia)]
   congr 1
   lia
  have hrl:r.toList.length=(na-k)+nb':=by
   rw[hr2.length_eq,List.length_take,List.length_drop,Array.length_toList];lia
  show wpS _ _ _ _ (pure (failedOf st2).isNone) Q _;rw[hf];refine wpS_pure (h _ ⟨?_,lk.kind.trans hB.kind,hf,?_⟩ ?_)
  ·show(List.foldl (fun(a:Array Keyed)(x:Keyed×Nat)=>a.setIfInBounds (sa+k+x.2) x.1) (arrOf st2) r.toList.zipIdx).toList.Perm a₀.toList;rw[lk.arr,ZeD _ _ _ (by show sa+k+r.toList.length<=(arrOf st).size;lia)];exact(Zdb hr2 hrl).trans hB.arr
  ·show Cov (pendingOf st2).toList 0 hi;rw[lk.pend];exact hB1.cov
  ·show(pendingOf st2).size+1=_;rw[lk.pend];exact hps
 ·rw[if_neg c3];refine wpS_bind (Zf6 (a:=(arrOf st).extract (sa+k) sb) (b:=(arrOf st).extract sb (sb+nb')) hc hB1.kind (fun p hp=>hok p (exm _ _ _ hp)) (fun p hp=>hok p (exm _ _ _ hp)) (by rw[xs];lia) (by rw[ys];lia) fun r st2 lk hr=>?_);refine wpS_bind (wpS_modify ?_);refine wpS_bind (wpS_get ?_);have hf:failedOf st2=none:=lk.fail.trans hB.fail;have hr2:r.toList.Perm (((arrOf st).toList.drop (sa+k)).take ((na-k)+nb')):=by
   refine hr.trans (List.Perm.of_eq ?_);rw[Array.toList_extract,Array.toList_extract,ZgP _ (by lia) (by lia)]
   congr 1
   lia
  have hrl:r.toList.length=(na-k)+nb':=by
   rw[hr2.length_eq,List.length_take,List.length_drop,Array.length_toList];lia
  show wpS _ _ _ _ (pure (failedOf st2).isNone) Q _;rw[hf];refine wpS_pure (h _ ⟨?_,lk.kind.trans hB.kind,hf,?_⟩ ?_)
  ·show(List.foldl (fun(a:Array Keyed)(x:Keyed×Nat)=>a.setIfInBounds (sa+k+x.2) x.1) (arrOf st2) r.toList.zipIdx).toList.Perm a₀.toList;rw[lk.arr,ZeD _ _ _ (by show sa+k+r.toList.length<=(arrOf st).size;lia)];exact(Zdb hr2 hrl).trans hB.arr
  ·show Cov (pendingOf st2).toList 0 hi;rw[lk.pend];exact hB1.cov
  ·show(pendingOf st2).size+1=_;rw[lk.pend];exact hps
end
section
variable{prog:Program}{w:World}{A:Around}{E:Value->Shared->Prop}{s:Shared}{κ : SortKind}{Ok:Keyed->Prop}{st:SortSt}
set_option maxHeartbeats 1000000 in
theorem ZjP{a₀ : Array Keyed}{Q:Unit->SortSt->Prop}(hc:Cmp prog w A s κ Ok)(h0:∀p∈a₀.toList,Ok p)(hB:SB a₀ κ 0 st)(h:∀st',(arrOf st').toList.Perm a₀.toList->failedOf st'=none->Q () st'):wpS (model prog w) A E s sortRuns' Q st:=by
 refine wpS_bind (wpS_get ?_);have hsz:=hB.size;show wpS _ _ _ _ (forIn [:(arrOf st).size] _ _ >>= _) Q st;rw[hsz];refine wpS_bind (wpS_mono (wpS_forRange (I:=fun _ c st'=>∃lo,c=(none,lo)/\lo<=a₀.size/\SB a₀ κ lo st') (Q:=fun c st'=>∃lo,c=(none,lo)/\lo<=a₀.size/\SB a₀ κ lo st') ?_ (fun _ _ z=>z) ⟨0,rfl,Nat.zero_le _,hB⟩) ?_)
 ·rintro x c st1 _ hx ⟨lo,rfl,hlo,hB1⟩
  try dsimp only
  by_cases c1:lo>=a₀.size
  ·rw[if_pos c1];exact wpS_pure ⟨lo,rfl,hlo,hB1⟩
  rw[if_neg c1];have hs1:=hB1.size;refine wpS_bind (Zik hc hB1.kind (hB1.ok h0) (by lia) (by lia) fun n st2 n1 n2 p2=>?_);have hB2:=hB1.pm p2;have hs2:=hB2.size
  try dsimp only
  show wpS _ _ _ _ (if n<minRun' a₀.size a₀.size 0 then _ else _) _ st2
  by_cases c2:n<minRun' a₀.size a₀.size 0
  ·rw[if_pos c2];refine wpS_bind (wpS_lift (wpAny_rule ⟨rfl,?_⟩));refine wpS_bind (ZhG hc hB2.kind (hB2.ok h0) (by show lo+min (a₀.size-lo) (minRun' a₀.size a₀.size 0)<=_;lia) fun st3 p3=>?_);rw[if_neg (by decide)];have hB3:=hB2.pm p3;have hN:1<=min (a₀.size-lo) (minRun' a₀.size a₀.size 0):=by lia
   refine wpS_bind (wpS_get ?_);cases hb:(pendingOf st3).back? with
   | none =>
    dsimp only;refine wpS_bind (wpS_modify ?_);refine wpS_pure ⟨lo+min (a₀.size-lo) (minRun' a₀.size a₀.size 0),rfl,by lia,⟨hB3.arr,hB3.kind,hB3.fail,?_⟩⟩;show Cov ((pendingOf st3).push (lo,min (a₀.size-lo) (minRun' a₀.size a₀.size 0),0)).toList 0 (lo+min (a₀.size-lo) (minRun' a₀.size a₀.size 0));rw[Array.toList_push];exact hB3.cov.push hN
   | some t =>
    obtain⟨s1,n1,q⟩:=t;dsimp only;refine wpS_bind (wpS_mono (wpS_forRange (I:=fun _ c st'=>c=(none,())/\SB a₀ κ lo st') (Q:=fun c st'=>c=(none,())/\SB a₀ κ lo st') ?_ (fun _ _ z=>z) ⟨rfl,hB3⟩) ?_)
    ·rintro y c st4 _ _ ⟨rfl,hB4⟩;refine wpS_bind (wpS_get ?_);by_cases g1:(pendingOf st4).size > 1
     ·rw[if_pos g1];obtain⟨⟨a1,a2,older⟩,e⟩:∃x,(pendingOf st4)[(pendingOf st4).size-2]?= some x:=⟨_,getElem?_pos _ _ (by lia)⟩;rw[e];dsimp only
      split
      ·exact wpS_pure ⟨rfl,hB4⟩
      ·refine wpS_bind (Zcg hc h0 hB4 hlo (by show(pendingOf st4).size-2+1<(pendingOf st4).size;lia) fun st5 hB5 _=>?_);rw[if_neg (by decide)];exact wpS_pure ⟨rfl,hB5⟩
     ·rw[if_neg g1];exact wpS_pure ⟨rfl,hB4⟩
    ·rintro c st4 ⟨rfl,hB4⟩;dsimp only;refine wpS_bind (wpS_modify ?_);refine wpS_bind (wpS_modify ?_);refine wpS_pure ⟨lo+min (a₀.size-lo) (minRun' a₀.size a₀.size 0),rfl,by lia,⟨hB4.arr,hB4.kind,hB4.fail,?_⟩⟩;show Cov (Array.push ((pendingOf st4).modify _ _) (lo,min (a₀.size-lo) (minRun' a₀.size a₀.size 0),0)).toList 0 (lo+min (a₀.size-lo) (minRun' a₀.size a₀.size 0));rw[Array.toList_push,Array.toList_modify];refine Cov.push ?_ hN;refine Cov.last _ (fun x=>?_) _ hB4.cov;exact⟨rfl,rfl⟩
  ·rw[if_neg c2];have hB3:=hB2;have hN:=n1;refine wpS_bind (wpS_get ?_);cases hb:(pendingOf st2).back? with
   | none =>
    dsimp only;refine wpS_bind (wpS_modify ?_);refine wpS_pure ⟨lo+n,rfl,by lia,⟨hB3.arr,hB3.kind,hB3.fail,?_⟩⟩;show Cov ((pendingOf st2).push (lo,n,0)).toList 0 (lo+n);rw[Array.toList_push];exact hB3.cov.push hN
   | some t =>
    obtain⟨s1,n1,q⟩:=t;dsimp only;refine wpS_bind (wpS_mono (wpS_forRange (I:=fun _ c st'=>c=(none,())/\SB a₀ κ lo st') (Q:=fun c st'=>c=(none,())/\SB a₀ κ lo st') ?_ (fun _ _ z=>z) ⟨rfl,hB3⟩) ?_)
    ·rintro y c st4 _ _ ⟨rfl,hB4⟩;refine wpS_bind (wpS_get ?_);by_cases g1:(pendingOf st4).size > 1
     ·rw[if_pos g1];obtain⟨⟨a1,a2,older⟩,e⟩:∃x,(pendingOf st4)[(pendingOf st4).size-2]?= some x:=⟨_,getElem?_pos _ _ (by lia)⟩;rw[e];dsimp only
      split
      ·exact wpS_pure ⟨rfl,hB4⟩
      ·refine wpS_bind (Zcg hc h0 hB4 hlo (by show(pendingOf st4).size-2+1<(pendingOf st4).size;lia) fun st5 hB5 _=>?_);rw[if_neg (by decide)];exact wpS_pure ⟨rfl,hB5⟩
     ·rw[if_neg g1];exact wpS_pure ⟨rfl,hB4⟩
    ·rintro c st4 ⟨rfl,hB4⟩;dsimp only;refine wpS_bind (wpS_modify ?_);refine wpS_bind (wpS_modify ?_);refine wpS_pure ⟨lo+n,rfl,by lia,⟨hB4.arr,hB4.kind,hB4.fail,?_⟩⟩;show Cov (Array.push ((pendingOf st4).modify _ _) (lo,n,0)).toList 0 (lo+n);rw[Array.toList_push,Array.toList_modify];refine Cov.push ?_ hN;refine Cov.last _ (fun x=>?_) _ hB4.cov;exact⟨rfl,rfl⟩
 ·rintro c st1 ⟨lo,rfl,hlo,hB1⟩
  try dsimp only
  refine wpS_bind (wpS_mono (wpS_forRange (I:=fun _ c st'=>c=(none,())/\SB a₀ κ lo st') (Q:=fun c st'=>c=(none,())/\SB a₀ κ lo st') ?_ (fun _ _ z=>z) ⟨rfl,hB1⟩) ?_)
  ·rintro x c st2 _ _ ⟨rfl,hB2⟩
   try dsimp only
   refine wpS_bind (wpS_get ?_)
   try dsimp only
   by_cases c2:(pendingOf st2).size<=1
   ·rw[if_pos c2];exact wpS_pure ⟨rfl,hB2⟩
   ·rw[if_neg c2];have hx:∀b:Bool,(if b=true then(pendingOf st2).size-2-1 else(pendingOf st2).size-2)+1<(pendingOf st2).size:=fun b=>by
     cases b
     ·rw[if_neg Bool.false_ne_true];lia
     ·rw[if_pos rfl];lia
    refine wpS_bind (Zcg hc h0 hB2 hlo (hx _) fun st3 hB3 _=>?_);rw[if_neg (by decide)];exact wpS_pure ⟨rfl,hB3⟩
  ·rintro c st2 ⟨rfl,hB2⟩;exact wpS_pure (h st2 hB2.arr hB2.fail)
end
section
variable{prog:Program}{w:World}{A:Around}{E:Value->Shared->Prop}{s:Shared}
def ZeR(prog:Program)(w:World)(A:Around)(vs:List Value)(s:Shared):Prop :=
 ∃ κ,(∀(Q:SortKind->Shared->Prop)(E:Value->Shared->Prop),Q κ s->wpAny (model prog w) A (keyKind' vs.toArray) Q E s)/\Cmp prog w A s κ fun p=>p∈(pairsOf vs).toList
theorem Zdv{vs:List Value}{xs:Array Keyed}(h:xs.toList.Perm (pairsOf vs).toList):(xs.map (·.2)).toList.Perm vs:=by
 rw[Array.toList_map];refine(h.map (·.2)).trans (List.Perm.of_eq ?_);rw[pairsOf_toList,show(fun p:Keyed=>p.2)=Prod.snd from rfl,List.map_snd_zip (Nat.le_refl _)]
theorem Zgi{a:Addr}{vs:List Value}{n:Nat}{P:Fin->Shared->Prop}(ho:s.heap.get? a=some (seqObj "list" vs.toArray n)) (hlen:vs.length<=90000)
  (hc:∀h6:Heap,(∀b o,b≠a->s.heap.get? b=some o->h6.get? b=some o)->2<=vs.length->ZeR prog w A vs { s with heap:=h6 })
  (h:∀out:Array Value,out.toList.Perm vs->P (.done (.ret .none)) { s with heap:=sortedHeap s.heap a vs out }):wpAny (model prog w) A (Builtin.«list.sort» ⟨[.ref a],[]⟩) P E s:=by
 have hv:vs.toArray.size<=sizeLine:=by rw[List.size_toArray,sizeLine_eq];lia
 have ha:a<s.heap.objs.size:=Heap.lt_size ho;obtain⟨e1,ho1⟩:∃e1,(s.heap.update a (Obj.mapSeq fun _=>#[])).get? a=some (seqObj "list" #[] e1):=⟨_,get?_update_seq ho (fun _=>#[])⟩;rw[list_sort_plain];refine wpAny_bind (listItems_at ho rfl (wpAny_bind (listUpdate_at ho rfl (wpAny_bind (seqEpoch_at ho1 rfl (wpAny_bind (wpAny_newTuple (wpAny_bind (wpAny_newList (wpAny_holding ?_)))))))  hv (Nat.zero_le _))));have nT:a≠(s.heap.update a (Obj.mapSeq fun _=>#[])).objs.size:=by rw[Heap.size_update];exact Nat.ne_of_lt ha
 have nL:a≠((s.heap.update a (Obj.mapSeq fun _=>#[])).push (seqObj "tuple" vs.toArray 0)).objs.size:=by rw[size_push',Heap.size_update];exact Nat.ne_of_lt (Nat.lt_succ_of_lt ha)
 have ho6:(((s.heap.update a (Obj.mapSeq fun _=>#[])).push (seqObj "tuple" vs.toArray 0)).push (seqObj "list" #[] 0)).get? a=some (seqObj "list" #[] e1):=by
  rw[Heap.get?_push_ne _ _ _ nL,Heap.get?_push_ne _ _ _ nT];exact ho1
 have hkeep:∀b o,b≠a->s.heap.get? b=some o->(((s.heap.update a (Obj.mapSeq fun _=>#[])).push (seqObj "tuple" vs.toArray 0)).push (seqObj "list" #[] 0)).get? b=some o:=fun b o hb e=>by
  refine Heap.get?_push_of_some _ (Heap.get?_push_of_some _ ?_);rw[Heap.get?_update_other _ _ hb.symm];exact e
 show wpAny (model prog w) A _ P E { s with heap:=((s.heap.update a (Obj.mapSeq fun _=>#[])).push (seqObj "tuple" vs.toArray 0)).push (seqObj "list" #[] 0) };dsimp only;by_cases h2:vs.toArray.size<2
 ·rw[if_pos h2,if_pos h2];refine wpAny_bind (wpAny_pure ?_);rw[StateT.run_pure];refine wpAny_bind (wpAny_pure (wpAny_bind (seqEpoch_at ho6 rfl (wpAny_bind (listUpdate_at ho6 rfl ?_ (Nat.zero_le _) ?_)))))
  ·simp only[bne_self_eq_false,Bool.false_eq_true,if_false];exact wpAny_pure (h _ (Zdv (xs:=pairsOf vs) (List.Perm.refl _)))
  ·show((pairsOf vs).map (·.2)).size<=_;rw[Array.size_map,pairsOf_size,sizeLine_eq];lia
 ·rw[if_neg h2,if_neg h2];rw[List.size_toArray] at h2;obtain⟨κ,hkk,hcm⟩:=hc _ hkeep (by lia);refine wpAny_bind (hkk _ _ ?_);refine wpAny_bind (wpAny_mono (ZjP (a₀ := pairsOf vs) (Q:=fun _ st'=>(arrOf st').toList.Perm (pairsOf vs).toList/\failedOf st'=none) hcm (fun p hp=>hp) ⟨List.Perm.refl _,rfl,rfl,rfl⟩ fun st' a1 a2=>⟨a1,a2⟩) ?_ fun _ _ e=>e);rintro⟨⟨⟩,st'⟩ s' ⟨rfl,hp,hf⟩;dsimp only;refine wpAny_bind (seqEpoch_at ho6 rfl (wpAny_bind (listUpdate_at ho6 rfl ?_ (Nat.zero_le _) ?_)))
  ·rw[hf];simp only[bne_self_eq_false,Bool.false_eq_true,if_false];exact wpAny_pure (h _ (Zdv hp))
  ·have hp':(arrOf st').toList.Perm (pairsOf vs).toList:=hp;have:=hp'.length_eq;rw[Array.length_toList,Array.length_toList,pairsOf_size] at this;show((arrOf st').map (·.2)).size<=_;rw[Array.size_map,sizeLine_eq];lia
theorem ZjL{l:Addr}{vs:List Value}{Q:Value->Shared->Prop}(hl:s.heap.IsList l vs.toArray)(hlen:vs.length<=90000)
  (hc:∀h6:Heap,(∀b o,s.heap.get? b=some o->h6.get? b=some o)->2<=vs.length->ZeR prog w A.in1.in1 vs { s with heap:=h6 })
  (h:∀(out:Array Value)(h':Heap)(c:Nat),out.toList.Perm vs->(∀b o,s.heap.get? b=some o->h'.get? b=some o)->h'.get? (s.heap.objs.size+1)=some (seqObj "list" out c)->s.heap.objs.size+1<h'.objs.size->Q (.ref (s.heap.objs.size+1)) { s with heap:=h' }) :
  wpAny (model prog w) A (call (.builtin "sorted") [.ref l]) Q E s:=by
 have hv:vs.length<=sizeLine:=by rw[sizeLine_eq];lia
 refine Calls.call_function_entry kind_sorted plain_sorted entry_sorted (args_sorted1 _) ?_;unfold Builtin.«sorted»;refine wpAny_bind (m:=checkCount "sorted" 1 1 _) (wpAny_pure (wpAny_bind (collect_list hl (wpAny_bind (wpAny_newList ?_)) hv)));have hsz:((s.heap.push (seqObj "list" #[] 0)).update s.heap.objs.size (Obj.mapSeq (· ++ vs.toArray))).objs.size=s.heap.objs.size+1:=by rw[Heap.size_update,size_push']
 have hoL:(((s.heap.push (seqObj "list" #[] 0)).update s.heap.objs.size (Obj.mapSeq (· ++ vs.toArray))).push (seqObj "list" vs.toArray 0)).get? (s.heap.objs.size+1)=some (seqObj "list" vs.toArray 0):=by
  rw[<- hsz];exact Heap.get?_push_size _ rfl
 have keep:∀b o,s.heap.get? b=some o->(((s.heap.push (seqObj "list" #[] 0)).update s.heap.objs.size (Obj.mapSeq (· ++ vs.toArray))).push (seqObj "list" vs.toArray 0)).get? b=some o:=fun b o e=>by
  refine Heap.get?_push_of_some _ ?_;rw[Heap.get?_update_other _ _ (Nat.ne_of_gt (Heap.lt_size e))];exact Heap.get?_push_of_some _ e
 show wpAny _ _ _ _ _ { s with heap:=((s.heap.push (seqObj "list" #[] 0)).update s.heap.objs.size (Obj.mapSeq (· ++ vs.toArray))).push (seqObj "list" vs.toArray 0) };rw[hsz];refine wpAny_bind (wpAny_holding (wpAny_call_entry slot_list_sort ⟨_,hoL,rfl⟩ entry_list_sort (Zgi hoL hlen (fun h6 k6 h2=>hc h6 (fun b o e=>k6 b o (fun z=>Nat.lt_irrefl _ (Nat.lt_of_succ_lt (z ▸ Heap.lt_size e))) (keep b o e)) h2) fun out hp=>⟨_,rfl,?_⟩) (args_list_sort _)));generalize ((s.heap.push (seqObj "list" #[] 0)).update s.heap.objs.size (Obj.mapSeq (· ++ vs.toArray))).push (seqObj "list" vs.toArray 0)=h5 at hoL keep;have hlt:=Heap.lt_size hoL;obtain⟨e1,ho1⟩:∃e1,(h5.update (s.heap.objs.size+1) (Obj.mapSeq fun _=>#[])).get? (s.heap.objs.size+1)=some (seqObj "list" #[] e1):=⟨_,get?_update_seq hoL (fun _=>#[])⟩;have ho6:=Heap.get?_push_of_some (seqObj "list" #[] 0) (Heap.get?_push_of_some (seqObj "tuple" vs.toArray 0) ho1);refine wpAny_pure ⟨_,rfl,h out (sortedHeap h5 (s.heap.objs.size+1) vs out) _ hp (fun b o e=>?_) (get?_update_seq ho6 (fun _=>out)) ?_⟩
 ·have hb:s.heap.objs.size+1≠b:=fun z=>Nat.lt_irrefl _ (Nat.lt_of_succ_lt (z.symm ▸ Heap.lt_size e));unfold sortedHeap;rw[Heap.get?_update_other _ _ hb];refine Heap.get?_push_of_some _ (Heap.get?_push_of_some _ ?_);rw[Heap.get?_update_other _ _ hb];exact keep b o e
 ·unfold sortedHeap;rw[Heap.size_update,size_push',size_push',Heap.size_update];exact Nat.lt_succ_of_lt (Nat.lt_succ_of_lt hlt)
end
end Srt
namespace L2
open PySem PySem.Spec PyProof.Rows
theorem Ze0{us us':List Value}(h:us'.Perm us):∀{vs:List V},Vals vs us->∃vs',vs'.Perm vs/\Vals vs' us':=by
 induction h with
 | nil=>exact fun r=>⟨_,List.Perm.refl _,r⟩
 | cons x _ ih =>
  intro vs r;cases r with
  | cons a t =>
   obtain⟨ws,p,r'⟩:=ih t;exact⟨_::ws,p.cons _,.cons a r'⟩
 | swap x y l =>
  intro vs r;cases r with
  | cons a t =>
   cases t with
   | cons b t=>exact⟨_,List.Perm.swap ..,.cons b (.cons a t)⟩
 | trans _ _ ih1 ih2 =>
  intro vs r;obtain⟨ws,p,r1⟩:=ih2 r;obtain⟨ws',p',r2⟩:=ih1 r1;exact⟨ws',p'.trans p,r2⟩
theorem ZeH:∀{vs:List V}{us:List Value},Vals vs us->∀u∈us,∃v∈vs,RelV v u
 | _,_,.cons a t,u,hu=>by
  rcases List.mem_cons.mp hu with rfl|hu
  ·exact⟨_,List.mem_cons_self ..,a⟩
  ·obtain⟨v,hv,r⟩:=ZeH t u hu;exact⟨v,List.mem_cons_of_mem _ hv,r⟩
end L2
namespace L2
open PySem PySem.Spec PyProof.Rows PySem.W
def ZhK(h:Heap)(d:Addr)(es:Array DictEntry)(ep:Nat):Prop := ∃o,h.get? d=some o/\o.ExactDict/\o.data=.dict es ep
theorem ZhK.tyIs{s:Shared}{d:Addr}{es:Array DictEntry}{ep:Nat}(x:ZhK s.heap d es ep):s.TypeIs (.ref d) "dict" := let ⟨o,ho,hc,_⟩:=x;⟨o,ho,hc.1⟩
theorem ZhK.to{h h':Heap}{d:Addr}{es:Array DictEntry}{ep:Nat}(x:ZhK h d es ep)(e:∀o,h.get? d=some o->h'.get? d=some o):ZhK h' d es ep:=let ⟨o,ho,r⟩:=x;⟨o,e _ ho,r⟩
section
variable{prog:Program}{w:World}{A:Around}{E:Value->Shared->Prop}{s:Shared}{it d:Addr}{es:Array DictEntry}{i ep:Nat}
theorem Zju{Q:Value->Shared->Prop}(lo:(d == sysModules)=false)(x:ZhK s.heap d es ep)
  (q:Q (.ref s.heap.objs.size) { s with heap:=s.heap.push { cls:=.type "dict_keyiterator",data:=.fields #[.ref d,.int 0 0,.int es.size 0,.int ep 0] } }):wpAny (model prog w) A (pyIter (.ref d)) Q E s:=by
 obtain⟨o,ho,hx,hdat⟩:=id x;have hT:=x.tyIs;refine wpAny_pyIter_slot hT PySem.F.slot_dict_iter (wpAny_call_entry PySem.F.slot_dict_iter hT PySem.F.entry_dict_iter ?_ (PySem.F.args_dict_iter_1 _));unfold Builtin.«dict.__iter__»;refine wpAny_bind ?_;unfold Builtin.Dict.dictSlotNone;refine wpAny_bind (wpAny_notOrdered_dict hT ?_);refine wpAny_pure (?_:wpAny _ _ (Builtin.Dict.showsAll d >>= _) _ _ s);unfold Builtin.Dict.showsAll;rw[if_neg (by rw[lo];exact Bool.false_ne_true)];refine wpAny_bind (wpAny_pure (wpAny_bind (wpAny_dictEntries ho hdat (wpAny_bind (wpAny_dictEpoch ho hdat ?_)))));exact wpAny_bind (wpAny_newObj_type (wpAny_pure ⟨_,rfl,"dict_keyiterator",_,⟨_,Heap.get?_push_size _ rfl,rfl⟩,PySem.F.slot_dict_keyiterator_next.lookup,q⟩))
theorem ZjF{Q:Option Value->Shared->Prop}(st:s.heap.IsKeyIter it d i es.size ep)(x:ZhK s.heap d es ep)(hi:i<es.size)
  (q:∀h',h'.IsKeyIter it d (i+1) es.size ep->Heap.SameBut it s.heap h'->Q (some es[i].key) { s with heap:=h' }):wpAny (model prog w) A (pyNext (.ref it)) Q E s:=by
 obtain⟨o,ho,hc,hd⟩:=id st;obtain⟨od,hod,hxd,hdd⟩:=id x;unfold pyNext;refine wpAny_bind (wpAny_attempt (wpAny_callSpecial?_slot (name:=Str.ofString "__next__") st.typeIs PySem.F.slot_dict_keyiterator_next (wpAny_call_entry PySem.F.slot_dict_keyiterator_next st.typeIs PySem.F.entry_dict_keyiterator_next ?_ (PySem.F.args_dict_keyiterator_next_1 _))));refine wpAny_bind (wpAny_pure (wpAny_bind (wpAny_bind ?_)))
 first|refine wpAny_bind (wpAny_typeNameOfWhole_keyiter st.typeIs (wpAny_pure (wpAny_bind (wpAny_fieldsOf ho hd ?_))))|refine wpAny_bind (wpAny_typeNameOf_keyiter st.typeIs (wpAny_pure (wpAny_bind (wpAny_fieldsOf ho hd ?_))))
 have own:Builtin.Dict_items.ownsTuple "dict_keyiterator" = false:=by decide
 simp only[own,Bool.false_eq_true,if_false];change wpAny _ _ (if(Value.ref d == Value.none)=true then _ else _) _ _ s
 rw[if_neg (fun z:(Value.ref d == Value.none)=true=>Bool.false_ne_true z)];refine wpAny_bind (wpAny_pure (wpAny_bind (wpAny_dictEntries hod hdd ?_)));rw[if_neg (by simp)];refine wpAny_bind (wpAny_pure (wpAny_bind (wpAny_dictEpoch hod hdd ?_)));rw[if_neg (by simp)];refine wpAny_pure ?_;simp only[show ¬ ((i:Int)<0) by lia,if_false,Int.toNat_natCast,Array.getElem?_eq_getElem hi];refine wpAny_bind ?_;first|refine wpAny_bind (wpAny_typeNameOfWhole_keyiter st.typeIs (wpAny_pure (wpAny_bind (wpAny_isOneOf_keyiter st.typeIs ?_))))|refine wpAny_bind (wpAny_typeNameOf_keyiter st.typeIs (wpAny_pure (wpAny_bind (wpAny_isOneOf_keyiter st.typeIs ?_))))
 change wpAny _ _ (setField (.ref it) 1 (rawInt ((i:Int)+1)) >>= _) _ _ s;refine wpAny_bind (wpAny_setField ho hd (by simp) ?_);have st2:(s.heap.update it (Obj.mapFields (·.setIfInBounds 1 (rawInt ((i:Int)+1))))).IsKeyIter it d (i+1) es.size ep:=⟨_,Heap.get?_update_self _ ho (Obj.isFreed_of_fields (Obj.data_mapFields hd _)),(Obj.cls_mapFields ..).trans hc,by rw[Obj.data_mapFields hd];simp[rawInt]⟩;refine wpAny_bind (wpAny_holding (wpAny_bind (wpAny_isOneOf_keyiter (s:={ s with heap:=s.heap.update it (Obj.mapFields (·.setIfInBounds 1 (rawInt ((i:Int)+1)))) }) st2.typeIs ?_)));change wpAny _ _ (pure es[i].key) _ _ _;exact wpAny_pure (wpAny_pure ⟨_,rfl,wpAny_pure (q _ st2 (Heap.SameBut.update ..))⟩)
theorem Zkw{Q:Option Value->Shared->Prop}(hh:A.handled=none)(st:s.heap.IsKeyIter it d i es.size ep)(x:ZhK s.heap d es ep)(hi:es.size<=i)
  (q:∀h',Heap.ExtBut it s.heap h'->Q none { s with heap:=h' }):wpAny (model prog w) A (pyNext (.ref it)) Q E s:=by
 obtain⟨o,ho,hc,hd⟩:=id st;obtain⟨od,hod,hxd,hdd⟩:=id x;unfold pyNext;refine wpAny_bind (wpAny_attempt (wpAny_callSpecial?_slot (name:=Str.ofString "__next__") st.typeIs PySem.F.slot_dict_keyiterator_next (wpAny_call_entry PySem.F.slot_dict_keyiterator_next st.typeIs PySem.F.entry_dict_keyiterator_next ?_ (PySem.F.args_dict_keyiterator_next_1 _))));refine wpAny_bind (wpAny_pure (wpAny_bind (wpAny_bind ?_)))
 first|refine wpAny_bind (wpAny_typeNameOfWhole_keyiter st.typeIs (wpAny_pure (wpAny_bind (wpAny_fieldsOf ho hd ?_))))|refine wpAny_bind (wpAny_typeNameOf_keyiter st.typeIs (wpAny_pure (wpAny_bind (wpAny_fieldsOf ho hd ?_))))
 have own:Builtin.Dict_items.ownsTuple "dict_keyiterator" = false:=by decide
 simp only[own,Bool.false_eq_true,if_false];change wpAny _ _ (if(Value.ref d == Value.none)=true then _ else _) _ _ s
 rw[if_neg (fun z:(Value.ref d == Value.none)=true=>Bool.false_ne_true z)];refine wpAny_bind (wpAny_pure (wpAny_bind (wpAny_dictEntries hod hdd ?_)));rw[if_neg (by simp)];refine wpAny_bind (wpAny_pure (wpAny_bind (wpAny_dictEpoch hod hdd ?_)));rw[if_neg (by simp)];refine wpAny_pure ?_;simp only[show ¬ ((i:Int)<0) by lia,if_false,Int.toNat_natCast,Array.getElem?_eq_none hi];refine wpAny_bind ?_;first|refine wpAny_bind (wpAny_typeNameOfWhole_keyiter st.typeIs (wpAny_pure ?_))|refine wpAny_bind (wpAny_typeNameOf_keyiter st.typeIs (wpAny_pure ?_))
 change wpAny _ _ (setField (.ref it) 0 .none >>= _) _ _ s;refine wpAny_bind (wpAny_setField ho hd (by simp) ?_);change wpAny _ _ (newExc (.type "StopIteration") [] >>= _) _ _ _;refine wpAny_bind ?_;simp only[newExc,newTuple];refine wpAny_bind (wpAny_newObj_type (wpAny_bind (m:=firstArgMember _ _) (wpAny_of_eq (a:=Value.none) (by first|rfl|(simp only[firstArgMember];rfl)) (wpAny_newObj_type ?_ (by size_fits)))) (by size_fits))
 simp only[raiseNew];refine wpAny_bind (wpAny_handled ?_);rw[show A.in1.handled=none from hh];refine wpAny_bind (wpAny_pure (wpAny_throw ?_));refine wpAny_bind (wpAny_isInstance (T := "StopIteration") (b:=true) (v:=.ref _) (by exact⟨_,Heap.get?_push_size _ rfl,rfl⟩) isSubtype_stop ?_);exact wpAny_pure (q _ (((Heap.SameBut.update ..).extBut.push _).push _))
theorem Zji(hh:A.handled=none)(hne:d≠it):Walks prog w A it [it,d] [it] es.size (fun i v=>∃e,es[i]?= some e/\v=e.key) (fun i h=>h.IsKeyIter it d i es.size ep/\ZhK h d es ep) where
 sub:=fun b hb=>List.mem_cons.mpr (.inl (List.mem_singleton.mp hb))
 frame:=fun _ _ _ st hk=>⟨st.1.at fun o e=>hk it (List.mem_cons_self ..) o e,st.2.to fun o e=>hk d (List.mem_cons_of_mem _ (List.mem_cons_self ..)) o e⟩
 item:=fun j s Q E hj st hQ=>ZjF st.1 st.2 hj fun h' st' sb=>hQ _ h' s.toks ⟨_,Array.getElem?_eq_getElem hj,rfl⟩ ⟨st',st.2.to fun o e=>sb.extBut d o hne e⟩ fun b o hb e=>sb.extBut b o (fun z=>hb (List.mem_singleton.mpr z)) e
 done:=fun s Q E st hQ=>Zkw hh st.1 st.2 (Nat.le_refl _) fun h' he=>hQ h' s.toks fun b o hb e=>he b o (fun z=>hb (List.mem_singleton.mpr z)) e
 self:=fun _ _ _ _ st hQ=>wpAny_pyIter_keyiter st.1 hQ
theorem ZiQ(lo:(d == sysModules)=false):KdlSrc prog w "dict" d d es.size (fun i v=>∃e,es[i]?= some e/\v=e.key) (fun h=>ZhK h d es ep) where
 type:=fun _ x=>x.tyIs
 there:=fun _ ⟨o,ho,_⟩=>⟨Heap.lt_size ho,Heap.lt_size ho⟩
 keep:=fun _ _ x hk=>x.to fun o e=>hk d (.inl rfl) o e
 notList:=by decide
 notTuple:=by decide
 hint:=fun _ _ _ _ x hq=>kdl_hint_dict x.tyIs hq
 iter:=fun _ _ hh x=>⟨_,_,(fun _ _ hq=>Zju lo x hq),Zji hh (let ⟨o,ho,_⟩:=x;Nat.ne_of_lt (Heap.lt_size ho)),⟨⟨_,Heap.get?_push_size _ rfl,rfl,rfl⟩,x.to fun _ e=>Heap.get?_push_of_some _ e⟩⟩
end
def Zga(H:Hp)(kvs:List (List Key×V))(ys:List V):Prop:=Paired (fun(p:List Key×V)(y:V)=>∃a,y=.ref a/\H a=some (.tup (p.1.map kV))) kvs ys
theorem ZeZ:∀ps:List Addr,Vals (ps.map V.ref) (ps.map Value.ref)
 | []=>.nil
 | p::ps=>.cons (show RelV (.ref p) (.ref p) from rfl) (ZeZ ps)
theorem Zd9{H:Hp}:∀{kvs:List (List Key×V)}{xs:List (List Key×Addr×Value)},Paired (fun(p:List Key×V)(q:List Key×Addr×Value)=>p.1=q.1/\H q.2.1=some (.tup (p.1.map kV))/\RelV p.2 q.2.2) kvs xs->Zga H kvs ((xs.map fun q=>q.2.1).map V.ref)
 | _,_,.nil=>.nil
 | _,_,.cons r t=>.cons ⟨_,rfl,r.2.1⟩ (Zd9 t)
section
variable{X:Cx}
theorem Zfh(hc:X.calm=true):ZcR X (.type "list") (fun xs H Q=>∃d kvs,xs=[.ref d]/\H d=some (.dT kvs)/\∀l ys,H l=none->Zga H kvs ys->Q (.ref l) (upd H l (.lst ys))):=by
 intro pins s σ H xs us Q I r h;obtain⟨d,kvs,rfl,hd,q⟩:=h;obtain⟨u,rfl,rx⟩:=vals1 r;obtain rfl:u=.ref d:=rx;obtain⟨hl,lo,xs,pr,o,es,ep,ho,hx,hdat,he,_⟩:=(show Zar X.prog X.w H s.heap d (.dT kvs) from I.hok d _ hd);have hlen:kvs.length=xs.length:=Paired.length pr;have hes:es.size=xs.length:=by
  rw[<- Array.length_toList,he,List.length_map]
 refine kdl_call (ZiQ lo) (I.ok.hd hc) (⟨o,ho,hx,hdat⟩:ZhK s.heap d es ep) (by lia) fun h' tk acc c kp hS hit=>?_;have hacc:acc=((xs.map fun q=>q.2.1).map Value.ref).toArray:=by
  suffices hL:acc.toList=(xs.map fun q=>q.2.1).map Value.ref by rw[<- hL]
  refine List.ext_getElem? fun j=>?_;rw[Array.getElem?_toList,List.getElem?_map,List.getElem?_map];cases hj:acc[j]? with
  | none =>
   have:acc.size<=j:=Array.getElem?_eq_none_iff.mp hj;rw[hit.1] at this;rw[List.getElem?_eq_none (by lia)];rfl
  | some v =>
   obtain⟨e,h1,rfl⟩:=hit.2 j v hj;rw[<- Array.getElem?_toList,he,List.getElem?_map] at h1;obtain⟨x,hx1,rfl⟩:=Option.map_eq_some_iff.mp h1;rw[hx1];rfl
 subst hacc;have hz:((xs.map fun q=>q.2.1).map V.ref).length<=sizeLine:=by
  rw[List.length_map,List.length_map];lia
 exact⟨.ref _,_,I.laid (t':=tk) (fun b o e=>kp b o e) (Nat.le_refl _) (show Zar X.prog X.w _ h' _ (.lst _) from⟨hz,_,c,ZeZ _,hS⟩),rfl,q _ _ (I.hok.fresh (Nat.le_refl _)) (Zd9 pr)⟩
end
end L2
namespace Srt
open PySem PyProof.Rows PySem.W
section
variable{prog:Program}{w:World}{A:Around}{s:Shared}
def Zmu(h:Heap)(v:Value):Prop := ∃a o i x t u n,v=.ref a/\h.get? a=some o/\o.cls=.type "tuple" /\ o.data=.seq #[.int i t,.str x u] n
theorem ZgC{h:Heap}:∀{vs:List Value},(∀v∈vs,Zmu h v)->∃fs,KatTups h vs fs/\fs.length=vs.length/\∀f∈fs,∃i t,f=.int i t
 | [],_=>⟨[],trivial,rfl,fun _ h=>nomatch h⟩
 | v::vs,hv=>by
  obtain⟨a,o,i,x,t,u,n,rfl,ho,hc,hd⟩:=hv v (List.mem_cons_self ..);obtain⟨fs,k,hl,hf⟩:=ZgC (vs:=vs) fun x hx=>hv x (List.mem_cons_of_mem _ hx);refine⟨.int i t::fs,KatTups.cons ho hc hd rfl k,by simp[hl],fun f hm=>?_⟩;rcases List.mem_cons.mp hm with rfl|hm
  ·exact⟨i,t,rfl⟩
  ·exact hf f hm
theorem Zfx{vs:List Value}(hv:∀v∈vs,Zmu s.heap v)(h2:2<=vs.length):ZeR prog w A vs s:=by
 obtain⟨fs,k,hl,hf⟩:=ZgC hv;refine⟨tuples' true,fun Q E hq=>?_,?_⟩
 ·refine kat_kind (T:=.type "int") k (by lia) (fun v hm=>?_) rfl hq;obtain⟨i,t,rfl⟩:=hf v hm;exact Looks.of_pure rfl
 ·intro x y hx hy E;rw[pairsOf_toList] at hx hy;obtain⟨a,o,i,j,t,u,n,e,ho,hc,hd⟩:=hv _ (mem_zip_self hx).2;obtain⟨a',o',i',j',t',u',n',e',ho',hc',hd'⟩:=hv _ (mem_zip_self hy).2;rw[e,e'];refine kat_lt ho hd ho' hd' ?_;refine kat_cons (wpAny_eqBool_int (kat_go (fun _=>kat_yes ?_) (fun _=>kat_no ?_)))
  ·refine kat_cons (wpAny_eqBool_str (kat_go (fun _=>kat_yes (kat_nil rfl)) (fun _=>kat_no ?_)));refine kat_one _ _ ?_;exact PyProof.Rows.lt_str rfl
  ·exact oneLt_int rfl
end
end Srt
namespace L2
open PySem PySem.Spec PyProof.Rows
section
variable{X:Cx}
theorem ZdQ:ZcR X (.builtin "sorted") (fun xs H Q=>∃l ys,xs=[.ref l]/\SqL X.K H l ys/\ys.length<=90000/\(∀y∈ys,∃t i x,y=.ref t/\H t=some (.tup [.int i,.str x]))/\∀p zs,H p=none->zs.Perm ys->Q (.ref p) (upd H p (.lst zs))):=by
 intro pins s σ H xs us Q I r h;obtain⟨l,ys,rfl,hq,hlen,hp,q⟩:=h;obtain⟨u,rfl,ru⟩:=vals1 r;cases ru;obtain⟨its,rv,pl,hz⟩:=I.list hq;have hl:=rv.length;refine Srt.ZjL (vs:=its) pl.isList (by lia) (fun h6 k6 h2=>Srt.Zfx (fun v hv=>?_) h2) fun out h' c hperm kp e hlt=>?_
 ·obtain⟨y,hy,ry⟩:=ZeH rv v hv;obtain⟨t,i,j,rfl,ht⟩:=hp y hy;obtain rfl:v=Value.ref t:=ry;obtain⟨_,us,rus,o,ho,hc,n,hd⟩:=I.hok t _ ht;obtain⟨u1,u2,rfl,r1,r2⟩:=Vals.two rus;obtain⟨t1,rfl⟩:=r1;obtain⟨t2,rfl⟩:=r2;exact⟨t,o,i,j,t1,t2,n,rfl,k6 _ _ ho,hc,hd⟩
 ·obtain⟨zs,pz,rz⟩:=Ze0 hperm rv;have hzl:=pz.length_eq;exact⟨.ref _,_,I.laid (t':=s.toks) (fun b o eb=>kp b o eb) (Nat.le_succ _) (show Zar X.prog X.w _ h' _ (.lst zs) from⟨by lia,out.toList,c,rz,e⟩),rfl,q _ zs (I.hok.fresh (Nat.le_succ _)) pz⟩
end
end L2
namespace Sts
open PySem PyProof.Rows PySem.W Srt
end Sts
namespace L2
open PySem PySem.Spec PyProof.Rows PySem.W
section
variable{X:Cx}{e:Expr}{te:TE}{p p' pos pos':Pos}
theorem Zhq:bootBuiltins "sorted" = some (.builtin "sorted"):=by decide +kernel
theorem Zg1{ns:List Int}:∀zs:List V,(∀z∈zs,z∈ns.map V.int)->∃ms:List Int,zs=ms.map V.int/\∀m∈ms,m∈ns
 | [],_=>⟨[],rfl,fun _ h=>nomatch h⟩
 | z::zs,h=>by
  obtain⟨m,hm,rfl⟩:=List.mem_map.mp (h z (List.mem_cons_self ..));obtain⟨ms,rfl,hms⟩:=Zg1 zs fun x hx=>h x (List.mem_cons_of_mem _ hx);refine⟨m::ms,rfl,fun x hx=>?_⟩;rcases List.mem_cons.mp hx with rfl|hx
  ·exact hm
  ·exact hms x hx
end
end L2
namespace Srd
open PySem PyProof.Rows Srt
structure Swo(lt:Keyed->Keyed->Bool):Prop where
 asym:∀x y,lt x y=true->lt y x=false
 neg:∀x y z,lt x y=false->lt y z=false->lt x z=false
def Le(lt:Keyed->Keyed->Bool)(x y:Keyed):Prop:=lt y x=false
section
variable{lt:Keyed->Keyed->Bool}(o:Swo lt){x y z:Keyed}
include o
theorem Swo.le_trans(h1:Le lt x y)(h2:Le lt y z):Le lt x z:=o.neg z y x h2 h1
theorem Swo.le_of(h:lt x y=true):Le lt x y:=o.asym x y h
theorem Swo.lt_le(h1:lt x y=true)(h2:Le lt y z):lt x z=true:=by
 cases h:lt x z with
 | true=>rfl
 | false=>rw[o.neg x z y h h2] at h1;cases h1
theorem Swo.le_lt(h1:Le lt x y)(h2:lt y z=true):lt x z=true:=by
 cases h:lt x z with
 | true=>rfl
 | false=>rw[o.neg y x z h1 h] at h2;cases h2
theorem Swo.le_refl(x:Keyed):Le lt x x:=by
 show lt x x=false;cases h:lt x x with
 | false=>rfl
 | true=>have:=o.asym x x h;rw[h] at this;exact this
end
def Zhp(prog:Program)(w:World)(A:Around)(s:Shared)(κ : SortKind)(Ok:Keyed->Prop)(lt:Keyed->Keyed->Bool):Prop :=
 ∀x y,Ok x->Ok y->∀E:Value->Shared->Prop,wpAny (model prog w) A (keyLt' κ x.1 y.1) (fun b s'=>s'=s/\b=lt x y) E s
def Up(lt:Keyed->Keyed->Bool)(arr:Array Keyed)(i j:Nat):Prop := ∀x y p q,i<=x->x<y->y<j->arr[x]?= some p->arr[y]?= some q->Le lt p q
def bv(lt:Keyed->Keyed->Bool)(l:Bool)(key p:Keyed):Bool:=if l=true then lt p key else !lt key p
def BV(lt:Keyed->Keyed->Bool)(l:Bool)(key:Keyed)(a:Array Keyed)(base i:Nat):Bool:=match a[base+i]? with|some p=>bv lt l key p|none=>false
theorem BV.anti{lt:Keyed->Keyed->Bool}(o:Swo lt){l:Bool}{key:Keyed}{a:Array Keyed}{base n:Nat}(hb:base+n<=a.size)(hu:Up lt a base (base+n)){i j:Nat}(hij:i<=j)(hj:j<n)(h:BV lt l key a base j=true):BV lt l key a base i=true:=by
 rcases Nat.eq_or_lt_of_le hij with rfl|hlt
 ·exact h
 have ei:a[base+i]?= some a[base+i]:=getElem?_pos a _ (by lia);have ej:a[base+j]?= some a[base+j]:=getElem?_pos a _ (by lia);have hle:=hu (base+i) (base+j) _ _ (by lia) (by lia) (by lia) ei ej;unfold BV at h ⊢;rw[ej] at h;rw[ei];dsimp only at h ⊢;unfold bv at h ⊢;cases l with
 | true =>
  rw[if_pos rfl] at h ⊢;exact o.le_lt hle h
 | false =>
  rw[if_neg (by decide)] at h ⊢;have h1:lt key a[base+j]=false:=by simpa using h
  have:lt key a[base+i]=false:=o.le_trans (lt:=lt) hle h1;rw[this];rfl
section
variable{prog:Program}{w:World}{A:Around}{E:Value->Shared->Prop}{s:Shared}{κ : SortKind}{Ok:Keyed->Prop}{st:SortSt}{lt:Keyed->Keyed->Bool}
theorem Zdw{x y:Keyed}{Q:Option Bool->SortSt->Prop}(hc:Zhp prog w A s κ Ok lt)(hk:kindOf st= κ)(hx:Ok x)(hy:Ok y)(h:Q (some (lt x y)) st):wpS (model prog w) A E s (lt' x y) Q st:=by
 rw[lt'_eq];refine wpS_bind (wpS_get ?_);rw[hk];refine wpS_bind (wpS_lift (wpAny_attempt (wpAny_mono (hc x y hx hy _) (fun b s' e=>⟨e.1,?_⟩) fun _ _ z=>z)));rw[e.2];exact wpS_pure h
theorem ZmR{l:Bool}{key:Keyed}{a:Array Keyed}{base n i:Nat}{Q:Option Bool->SortSt->Prop}(hc:Zhp prog w A s κ Ok lt)(hk:kindOf st= κ)(hkey:Ok key)(ha:∀p∈a.toList,Ok p)(hb:base+n<=a.size)(hi:i<n)(h:Q (some (BV lt l key a base i)) st) :
  wpS (model prog w) A E s (elem' a (base+i) >>= fun x=>if l=true then lt' x key else(lt' key x >>= fun r=>pure (Option.map (fun z=>!z) r))) Q st:=by
 refine wpS_bind (Zi (by lia) fun p hp e=>?_);unfold BV at h;rw[e] at h;dsimp only at h;unfold bv at h;cases l with
 | true =>
  rw[if_pos rfl] at h ⊢;exact Zdw hc hk (ha p hp) hkey h
 | false =>
  rw[if_neg Bool.false_ne_true] at h ⊢;exact wpS_bind (Zdw hc hk hkey (ha p hp) (wpS_pure h))
set_option maxHeartbeats 1000000 in
theorem Zaz{l:Bool}{key:Keyed}{a:Array Keyed}{base n hint:Nat}{Q:Option Nat->SortSt->Prop}(o:Swo lt)(hc:Zhp prog w A s κ Ok lt)(hk:kindOf st= κ)(hkey:Ok key)(ha:∀p∈a.toList,Ok p)(hb:base+n<=a.size)(hh:hint<n)(hu:Up lt a base (base+n))
  (h:∀k,k<=n->(∀i,i<k->BV lt l key a base i=true)->(∀i,k<=i->i<n->BV lt l key a base i=false)->Q (some k) st):wpS (model prog w) A E s (ZeI l key a base n hint) Q st:=by
 have up:∀{i j},i<=j->j<n->BV lt l key a base j=true->BV lt l key a base i=true:=fun hij hj h=>BV.anti o hb hu hij hj h;have dn:∀{i j},i<=j->j<n->BV lt l key a base i=false->BV lt l key a base j=false:=fun{i j} hij hj h=>by
  cases e:BV lt l key a base j with
  | false=>rfl
  | true=>rw[up hij hj e] at h;cases h
 generalize hBB:BV lt l key a base=BB at up dn h;have bey:∀{st':SortSt}{i:Nat}{Q':Option Bool->SortSt->Prop},st'=st->i<n->Q' (some (BB i)) st'->wpS (model prog w) A E s (elem' a (base+i) >>= fun x=>if l=true then lt' x key else(lt' key x >>= fun r=>pure (Option.map (fun z=>!z) r))) Q' st':=fun{st' i Q'} e hi hq=>by
  subst e;exact ZmR hc hk hkey ha hb hi (by rw[hBB];exact hq)
 refine wpS_bind (bey rfl hh ?_);cases hright:BB hint with
 | true =>
  dsimp only;rw[if_pos rfl];refine wpS_bind (wpS_mono (wpS_forRange (I:=fun x c st'=>st'=st/\∃lo of,c=(none,lo,of)/\lo<n-hint/\lo<of/\BB (hint+lo)=true/\x+1<=of) (Q:=fun c st'=>st'=st/\∃lo of,c=(none,lo,of)/\lo<n-hint/\lo<of/\BB (hint+lo)=true/\(n-hint<=of\/BB (hint+of)=false)) ?_ ?_ ⟨rfl,0,1,rfl,by lia,by lia,hright,by lia⟩) ?_)
  ·rintro i c st' _ _ ⟨rfl,lo,of,rfl,h1,h2,h3,h4⟩;dsimp only;by_cases hlt:of>=n-hint
   ·rw[if_pos hlt];exact wpS_pure ⟨rfl,lo,of,rfl,h1,h2,h3,.inl hlt⟩
   ·rw[if_neg hlt];refine wpS_bind (bey rfl (by lia) ?_);cases hb2:BB (hint+of) with
    | true=>exact wpS_pure ⟨rfl,_,_,rfl,by lia,by lia,hb2,by lia⟩
    | false=>exact wpS_pure ⟨rfl,lo,of,rfl,h1,h2,h3,.inr hb2⟩
  ·rintro c st' ⟨rfl,lo,of,rfl,h1,h2,h3,h4⟩;exact⟨rfl,lo,of,rfl,h1,h2,h3,.inl (by lia)⟩
  ·rintro c st'' ⟨rfl,lo,of,rfl,h1,h2,h3,h4⟩;dsimp only;have g1:hint+lo+1<=hint+min of (n-hint):=by lia
   have g2:hint+min of (n-hint)<=n:=by lia
   have g3:∀i,i<hint+lo+1->BB i=true:=fun i hi=>up (show i<=hint+lo by lia) (by lia) h3;have g4:∀i,hint+min of (n-hint)<=i->i<n->BB i=false:=fun i hi hin=>by
    rcases h4 with h4|h4
    ·lia
    ·exact dn (show hint+of<=i by lia) hin h4
   generalize hint+lo+1=lo1 at g1 g3;generalize hint+min of (n-hint)=hi1 at g1 g2 g4;refine wpS_bind (wpS_mono (wpS_forRange (I:=fun x c st'=>st'=st''/\∃lo hi,c=(none,lo,hi)/\lo<=hi/\hi<=n/\(∀i,i<lo->BB i=true)/\(∀i,hi<=i->i<n->BB i=false)/\hi-lo+x<=n) (Q:=fun c st'=>st'=st''/\∃lo hi,c=(none,lo,hi)/\lo=hi/\hi<=n/\(∀i,i<lo->BB i=true)/\(∀i,hi<=i->i<n->BB i=false)) ?_ ?_ ⟨rfl,lo1,hi1,rfl,g1,g2,g3,g4,by lia⟩) ?_)
   ·rintro i c st' _ _ ⟨rfl,lo,hi,rfl,h1,h2,h3,h4,h5⟩;dsimp only;by_cases hlt:lo>=hi
    ·rw[if_pos hlt];exact wpS_pure ⟨rfl,lo,hi,rfl,by lia,h2,h3,h4⟩
    ·rw[if_neg hlt];refine wpS_bind (bey rfl (by lia) ?_);cases hb2:BB (lo+(hi-lo) / 2) with
     | true=>exact wpS_pure ⟨rfl,_,_,rfl,by lia,by lia,fun i hi'=>up (show i<=lo+(hi-lo) / 2 by lia) (by lia) hb2,h4,by lia⟩
     | false=>exact wpS_pure ⟨rfl,_,_,rfl,by lia,by lia,h3,fun i hi' hin=>dn hi' hin hb2,by lia⟩
   ·rintro c st' ⟨rfl,lo,hi,rfl,h1,h2,h3,h4,h5⟩;exact⟨rfl,lo,hi,rfl,by lia,h2,h3,h4⟩
   ·rintro c st' ⟨rfl,lo,hi,rfl,h1,h2,h3,h4⟩;exact wpS_pure (h hi h2 (fun i hi'=>h3 i (by lia)) h4)
 | false =>
  dsimp only;rw[if_neg Bool.false_ne_true];refine wpS_bind (wpS_mono (wpS_forRange (I:=fun x c st'=>st'=st/\∃lo of,c=(none,lo,of)/\lo<hint+1/\lo<of/\BB (hint-lo)=false/\x+1<=of) (Q:=fun c st'=>st'=st/\∃lo of,c=(none,lo,of)/\lo<hint+1/\lo<of/\BB (hint-lo)=false/\(hint+1<=of\/BB (hint-of)=true)) ?_ ?_ ⟨rfl,0,1,rfl,by lia,by lia,hright,by lia⟩) ?_)
  ·rintro i c st' _ _ ⟨rfl,lo,of,rfl,h1,h2,h3,h4⟩;dsimp only;by_cases hlt:of>=hint+1
   ·rw[if_pos hlt];exact wpS_pure ⟨rfl,lo,of,rfl,h1,h2,h3,.inl hlt⟩
   ·rw[if_neg hlt];refine wpS_bind (bey rfl (by lia) ?_);cases hb2:BB (hint-of) with
    | true=>exact wpS_pure ⟨rfl,lo,of,rfl,h1,h2,h3,.inr hb2⟩
    | false=>exact wpS_pure ⟨rfl,_,_,rfl,by lia,by lia,hb2,by lia⟩
  ·rintro c st' ⟨rfl,lo,of,rfl,h1,h2,h3,h4⟩;exact⟨rfl,lo,of,rfl,h1,h2,h3,.inl (by lia)⟩
  ·rintro c st'' ⟨rfl,lo,of,rfl,h1,h2,h3,h4⟩;dsimp only;have g1:hint+1-min of (hint+1)<=hint-lo:=by lia
   have g2:hint-lo<=n:=by lia
   have g3:∀i,i<hint+1-min of (hint+1)->BB i=true:=fun i hi=>by
    rcases h4 with h4|h4
    ·lia
    ·exact up (show i<=hint-of by lia) (by lia) h4
   have g4:∀i,hint-lo<=i->i<n->BB i=false:=fun i hi hin=>dn hi hin h3;generalize hint+1-min of (hint+1)=lo1 at g1 g3;generalize hint-lo=hi1 at g1 g2 g4;refine wpS_bind (wpS_mono (wpS_forRange (I:=fun x c st'=>st'=st''/\∃lo hi,c=(none,lo,hi)/\lo<=hi/\hi<=n/\(∀i,i<lo->BB i=true)/\(∀i,hi<=i->i<n->BB i=false)/\hi-lo+x<=n) (Q:=fun c st'=>st'=st''/\∃lo hi,c=(none,lo,hi)/\lo=hi/\hi<=n/\(∀i,i<lo->BB i=true)/\(∀i,hi<=i->i<n->BB i=false)) ?_ ?_ ⟨rfl,lo1,hi1,rfl,g1,g2,g3,g4,by lia⟩) ?_)
   ·rintro i c st' _ _ ⟨rfl,lo,hi,rfl,h1,h2,h3,h4,h5⟩;dsimp only;by_cases hlt:lo>=hi
    ·rw[if_pos hlt];exact wpS_pure ⟨rfl,lo,hi,rfl,by lia,h2,h3,h4⟩
    ·rw[if_neg hlt];refine wpS_bind (bey rfl (by lia) ?_);cases hb2:BB (lo+(hi-lo) / 2) with
     | true=>exact wpS_pure ⟨rfl,_,_,rfl,by lia,by lia,fun i hi'=>up (show i<=lo+(hi-lo) / 2 by lia) (by lia) hb2,h4,by lia⟩
     | false=>exact wpS_pure ⟨rfl,_,_,rfl,by lia,by lia,h3,fun i hi' hin=>dn hi' hin hb2,by lia⟩
   ·rintro c st' ⟨rfl,lo,hi,rfl,h1,h2,h3,h4,h5⟩;exact⟨rfl,lo,hi,rfl,by lia,h2,h3,h4⟩
   ·rintro c st' ⟨rfl,lo,hi,rfl,h1,h2,h3,h4⟩;exact wpS_pure (h hi h2 (fun i hi'=>h3 i (by lia)) h4)
end
section
variable{lt:Keyed->Keyed->Bool}{a b out:Array Keyed}{ia ib k:Nat}{p q:Keyed}
abbrev So(lt:Keyed->Keyed->Bool)(l:List Keyed):Prop:=l.Pairwise (Le lt)
theorem Zjy(h:a[ia]?= some p):a.toList[ia]?= some p:=by rw[<- h];simp
theorem Zai{i:Nat}{x y:Keyed}(h1:a[i]?= some x)(h2:a[i]?= some y):x=y:=by
 rw[h1] at h2;exact Option.some.inj h2
theorem Zcw(h:a[ia]?= some p):a.toList.drop ia=p::a.toList.drop (ia+1):=by
 obtain⟨hi,e⟩:=List.getElem?_eq_some_iff.mp (Zjy h);rw[List.drop_eq_getElem_cons hi,e]
theorem So.drop{l:List Keyed}(h:So lt l)(n:Nat):So lt (l.drop n):=List.Pairwise.sublist (List.drop_sublist n l) h
theorem So.head(h:So lt a.toList)(hp:a[ia]?= some p):∀y∈a.toList.drop (ia+1),Le lt p y:=by
 have:=h.drop ia;rw[Zcw hp] at this;exact(List.pairwise_cons.mp this).1
theorem ZfC(o:Swo lt)(h:So lt a.toList)(hp:a[ia]?= some p){x:Keyed}(hx:Le lt x p):∀y∈a.toList.drop ia,Le lt x y:=fun y hy=>by
 rw[Zcw hp] at hy;rcases List.mem_cons.mp hy with rfl|hy
 ·exact hx
 ·exact o.le_trans hx (h.head hp y hy)
theorem ZfQ(h:So lt a.toList)(i j:Nat):Up lt a i j:=fun x y p q _ hxy _ ex ey=>by
 obtain⟨hx,rfl⟩:=List.getElem?_eq_some_iff.mp (Zjy ex);obtain⟨hy,rfl⟩:=List.getElem?_eq_some_iff.mp (Zjy ey);exact(List.pairwise_iff_getElem.mp h) x y hx hy hxy
theorem Zlv{n:Nat}(h:Up lt a 0 n)(hn:a.size<=n):So lt a.toList:=by
 refine List.pairwise_iff_getElem.mpr fun i j hi hj hij=>?_;have hi':i<a.size:=by rw[<- Array.length_toList];exact hi
 have hj':j<a.size:=by rw[<- Array.length_toList];exact hj
 exact h i j _ _ (Nat.zero_le _) hij (by lia) (by rw[<- Array.getElem?_toList];exact List.getElem?_eq_getElem hi) (by rw[<- Array.getElem?_toList];exact List.getElem?_eq_getElem hj)
theorem Zdi{l:List Keyed}{n:Nat}{y:Keyed}(h:y∈l.drop n):∃i,l[n+i]?= some y:=by
 obtain⟨i,hi⟩:=List.mem_iff_getElem?.mp h;rw[List.getElem?_drop] at hi;exact⟨i,hi⟩
theorem ZlW(F:∀i,k<=i->i<a.size-ia->BV lt false p a ia i=false)(o:Swo lt):∀y∈a.toList.drop (ia+k),Le lt p y:=fun y hy=>by
 obtain⟨i,hi⟩:=Zdi hy;obtain⟨hl,_⟩:=List.getElem?_eq_some_iff.mp hi;rw[Array.length_toList] at hl;have h1:=F (k+i) (by lia) (by lia);unfold BV at h1;rw[show ia+(k+i)=ia+k+i by lia,<- Array.getElem?_toList,hi] at h1;have h2:(!lt p y)=false:=h1;exact o.le_of (by simpa using h2)
theorem Zk6(F:∀i,i<k->BV lt false p a ia i=true):∀x∈(a.toList.drop ia).take k,Le lt x p:=fun x hx=>by
 obtain⟨i,hi⟩:=List.mem_iff_getElem?.mp hx;have hik:i<k:=by
  have:=(List.getElem?_eq_some_iff.mp hi).1;rw[List.length_take] at this;lia
 rw[List.getElem?_take_of_lt hik,List.getElem?_drop] at hi;have h1:=F i hik;unfold BV at h1;rw[<- Array.getElem?_toList,hi] at h1;have h2:(!lt p x)=true:=h1;show lt p x=false
 simpa using h2
theorem Zmx(F:∀i,k<=i->i<b.size-ib->BV lt true q b ib i=false):∀y∈b.toList.drop (ib+k),Le lt q y:=fun y hy=>by
 obtain⟨i,hi⟩:=Zdi hy;obtain⟨hl,_⟩:=List.getElem?_eq_some_iff.mp hi;rw[Array.length_toList] at hl;have h1:=F (k+i) (by lia) (by lia);unfold BV at h1;rw[show ib+(k+i)=ib+k+i by lia,<- Array.getElem?_toList,hi] at h1;exact h1
theorem Zmm(F:∀i,i<k->BV lt true q b ib i=true)(o:Swo lt):∀x∈(b.toList.drop ib).take k,Le lt x q:=fun x hx=>by
 obtain⟨i,hi⟩:=List.mem_iff_getElem?.mp hx;have hik:i<k:=by
  have:=(List.getElem?_eq_some_iff.mp hi).1;rw[List.length_take] at this;lia
 rw[List.getElem?_take_of_lt hik,List.getElem?_drop] at hi;have h1:=F i hik;unfold BV at h1;rw[<- Array.getElem?_toList,hi] at h1;exact o.le_of h1
structure OutL(lt:Keyed->Keyed->Bool)(a b out:Array Keyed)(ia ib:Nat):Prop where
 perm:Out a b out ia ib
 sort:So lt out.toList
 lowA:∀x∈out.toList,∀y∈a.toList.drop ia,Le lt x y
 lowB:∀x∈out.toList,∀y∈b.toList.drop ib,Le lt x y
structure Rs(lt:Keyed->Keyed->Bool)(a b r:Array Keyed):Prop where
 perm:r.toList.Perm (a.toList++b.toList)
 sort:So lt r.toList
theorem mem_push{x:Keyed}(h:x∈(out.push p).toList):x∈out.toList\/x=p:=by
 rw[Array.toList_push] at h;rcases List.mem_append.mp h with h|h
 ·exact .inl h
 ·exact .inr (List.mem_singleton.mp h)
theorem Zje(h:So lt out.toList)(hp:∀x∈out.toList,Le lt x p):So lt (out.push p).toList:=by
 rw[Array.toList_push];refine List.pairwise_append.mpr ⟨h,List.pairwise_singleton _ _,fun x hx y hy=>?_⟩;rw[List.mem_singleton.mp hy];exact hp x hx
theorem Zev{l:List Keyed}{i j:Nat}(h:i<=j){y:Keyed}(hy:y∈l.drop j):y∈l.drop i:=by
 rw[show j=i+(j-i) by lia,<- List.drop_drop] at hy;exact List.mem_of_mem_drop hy
theorem OutL.pushA(h:OutL lt a b out ia ib)(SA:So lt a.toList)(hp:a[ia]?= some p)(hb:∀y∈b.toList.drop ib,Le lt p y):OutL lt a b (out.push p) (ia+1) ib:=by
 have hm:p∈a.toList.drop ia:=by rw[Zcw hp];exact List.mem_cons_self ..
 refine⟨h.perm.pushA hp,Zje h.sort fun x hx=>h.lowA x hx p hm,fun x hx y hy=>?_,fun x hx y hy=>?_⟩
 ·rcases mem_push hx with hx|rfl
  ·exact h.lowA x hx y (Zev (by lia) hy)
  ·exact SA.head hp y hy
 ·rcases mem_push hx with hx|rfl
  ·exact h.lowB x hx y hy
  ·exact hb y hy
theorem OutL.pushB(h:OutL lt a b out ia ib)(SB:So lt b.toList)(hp:b[ib]?= some p)(ha:∀y∈a.toList.drop ia,Le lt p y):OutL lt a b (out.push p) ia (ib+1):=by
 have hm:p∈b.toList.drop ib:=by rw[Zcw hp];exact List.mem_cons_self ..
 refine⟨h.perm.pushB hp,Zje h.sort fun x hx=>h.lowB x hx p hm,fun x hx y hy=>?_,fun x hx y hy=>?_⟩
 ·rcases mem_push hx with hx|rfl
  ·exact h.lowA x hx y hy
  ·exact ha y hy
 ·rcases mem_push hx with hx|rfl
  ·exact h.lowB x hx y (Zev (by lia) hy)
  ·exact SB.head hp y hy
theorem Zdc(a:Array Keyed)(i k:Nat):(a.extract i (i+k)).toList=(a.toList.drop i).take k:=by
 rw[Array.toList_extract,List.extract_eq_drop_take,show i+k-i=k by lia]
theorem ZcJ(a:Array Keyed)(i:Nat):(a.extract i a.size).toList=a.toList.drop i:=by
 rw[Array.toList_extract,List.extract_eq_drop_take];apply List.take_of_length_le;rw[List.length_drop,Array.length_toList];exact Nat.le_refl _
theorem ZcO{l:List Keyed}{i k:Nat}(h:So lt l){x y:Keyed}(hx:x∈(l.drop i).take k)(hy:y∈l.drop (i+k)):Le lt x y:=by
 have h1:=h.drop i;rw[<- List.take_append_drop k (l.drop i),List.drop_drop] at h1;exact(List.pairwise_append.mp h1).2.2 x hx y hy
theorem OutL.extA(h:OutL lt a b out ia ib)(SA:So lt a.toList)(hk:ia+k<=a.size)(hb:∀x∈(a.toList.drop ia).take k,∀y∈b.toList.drop ib,Le lt x y):OutL lt a b (out++a.extract ia (ia+k)) (ia+k) ib:=by
 have hm:∀x,x∈(out++a.extract ia (ia+k)).toList->x∈out.toList\/x∈(a.toList.drop ia).take k:=fun x hx=>by
  rw[Array.toList_append,Zdc] at hx;exact List.mem_append.mp hx
 refine⟨h.perm.extA hk,?_,fun x hx y hy=>?_,fun x hx y hy=>?_⟩
 ·rw[Array.toList_append,Zdc];exact List.pairwise_append.mpr ⟨h.sort,List.Pairwise.sublist (List.take_sublist _ _) (SA.drop ia),fun x hx y hy=>h.lowA x hx y (List.mem_of_mem_take hy)⟩
 ·rcases hm x hx with hx|hx
  ·exact h.lowA x hx y (Zev (by lia) hy)
  ·exact ZcO SA hx hy
 ·rcases hm x hx with hx|hx
  ·exact h.lowB x hx y hy
  ·exact hb x hx y hy
theorem OutL.extB(h:OutL lt a b out ia ib)(SB:So lt b.toList)(hk:ib+k<=b.size)(ha:∀x∈(b.toList.drop ib).take k,∀y∈a.toList.drop ia,Le lt x y):OutL lt a b (out++b.extract ib (ib+k)) ia (ib+k):=by
 have hm:∀x,x∈(out++b.extract ib (ib+k)).toList->x∈out.toList\/x∈(b.toList.drop ib).take k:=fun x hx=>by
  rw[Array.toList_append,Zdc] at hx;exact List.mem_append.mp hx
 refine⟨h.perm.extB hk,?_,fun x hx y hy=>?_,fun x hx y hy=>?_⟩
 ·rw[Array.toList_append,Zdc];exact List.pairwise_append.mpr ⟨h.sort,List.Pairwise.sublist (List.take_sublist _ _) (SB.drop ib),fun x hx y hy=>h.lowB x hx y (List.mem_of_mem_take hy)⟩
 ·rcases hm x hx with hx|hx
  ·exact h.lowA x hx y hy
  ·exact ha x hx y hy
 ·rcases hm x hx with hx|hx
  ·exact h.lowB x hx y (Zev (by lia) hy)
  ·exact ZcO SB hx hy
theorem OutL.doneB(h:OutL lt a b out ia ib)(SA:So lt a.toList)(e:(ib == b.size)=true):Rs lt a b (out++a.extract ia a.size++b.extract ib b.size):=by
 refine⟨h.perm.done,?_⟩;have e':b.toList.drop ib=[]:=List.drop_eq_nil_of_le (by rw[Array.length_toList,eq_of_beq e];exact Nat.le_refl _);rw[Array.toList_append,Array.toList_append,ZcJ,ZcJ,e',List.append_nil];exact List.pairwise_append.mpr ⟨h.sort,SA.drop ia,fun x hx y hy=>h.lowA x hx y hy⟩
theorem OutL.doneA(h:OutL lt a b out ia ib)(SB:So lt b.toList)(e:(ia == a.size)=true):Rs lt a b (out++a.extract ia a.size++b.extract ib b.size):=by
 refine⟨h.perm.done,?_⟩;have e':a.toList.drop ia=[]:=List.drop_eq_nil_of_le (by rw[Array.length_toList,eq_of_beq e];exact Nat.le_refl _);rw[Array.toList_append,Array.toList_append,ZcJ,ZcJ,e',List.append_nil];exact List.pairwise_append.mpr ⟨h.sort,SB.drop ib,fun x hx y hy=>h.lowB x hx y hy⟩
theorem OutL.lastL(h:OutL lt a b out ia ib)(SA:So lt a.toList)(SB:So lt b.toList)(LA:∀x∈b.toList,∀q,a[a.size-1]?= some q->Le lt x q)(e:(ia+1 == a.size)=true):Rs lt a b (out++b.extract ib b.size++a.extract ia a.size):=by
 refine⟨h.perm.last,?_⟩;have e1:=eq_of_beq e;rw[Array.toList_append,Array.toList_append,ZcJ,ZcJ];refine List.pairwise_append.mpr ⟨List.pairwise_append.mpr ⟨h.sort,SB.drop ib,fun x hx y hy=>h.lowB x hx y hy⟩,SA.drop ia,fun x hx y hy=>?_⟩;rcases List.mem_append.mp hx with hx|hx
 ·exact h.lowA x hx y hy
 ·refine LA x (List.mem_of_mem_drop hx) y ?_;obtain⟨i,hi⟩:=Zdi hy;have hl:=(List.getElem?_eq_some_iff.mp hi).1;rw[Array.length_toList] at hl;rw[show a.size-1=ia+i by lia,<- Array.getElem?_toList];exact hi
theorem Zl1(SB:So lt b.toList)(hp:b[0]?= some p)(hb0:∀p,b[0]?= some p->∀y∈a.toList,Le lt p y):OutL lt a b #[p] 0 1:=by
 refine⟨ZmF hp,List.pairwise_singleton _ _,fun x hx y hy=>?_,fun x hx y hy=>?_⟩
 ·obtain rfl:x=p:=by simpa using hx
  exact hb0 x hp y hy
 ·obtain rfl:x=p:=by simpa using hx
  exact SB.head hp y hy
end
section
variable{prog:Program}{w:World}{A:Around}{E:Value->Shared->Prop}{s:Shared}{κ : SortKind}{Ok:Keyed->Prop}{st:SortSt}{lt:Keyed->Keyed->Bool}
abbrev LoT:=Option (Array Keyed)×Array Keyed×Nat×Nat×Nat×Nat×Nat
def lo3(a b out:Array Keyed)(ia ib g ac bc:Nat):StateT SortSt Sem (ForInStep LoT) :=
 elem' a ia >>= fun p=>if(ia+1+1 == a.size)=true then pure (.done (some (out.push p++b.extract ib b.size++a.extract (ia+1) a.size),out.push p,ia+1,ib,g,ac,bc))
  else if(decide (ac<7)&&decide (bc<7))=true then pure (.done (none,out.push p,ia+1,ib,g,ac,bc)) else pure (.yield (none,out.push p,ia+1,ib,g,ac,bc))
def LoP(lt:Keyed->Keyed->Bool)(a b:Array Keyed)(st:SortSt)(x:Nat):ForInStep LoT->SortSt->Prop:=fun r st'=>match r with
 | .done c=>Like st st'/\((∃r out ia ib g ac bc,c=(some r,out,ia,ib,g,ac,bc)/\Rs lt a b r)\/∃out ia ib g ac bc,c=(none,out,ia,ib,g,ac,bc)/\OutL lt a b out ia ib/\ia+1<a.size/\ib<b.size/\x+2<=ia+ib)
 | .yield c=>Like st st'/\∃out ia ib g ac bc,c=(none,out,ia,ib,g,ac,bc)/\OutL lt a b out ia ib/\ia+1<a.size/\ib<b.size/\x+2<=ia+ib
structure LoQ(lt:Keyed->Keyed->Bool)(a b:Array Keyed)(st:SortSt)(N:Nat)(Q:ForInStep LoT->SortSt->Prop):Prop where
 R:∀r out ia ib g ac bc,Rs lt a b r->Q (.done (some r,out,ia,ib,g,ac,bc)) st
 N:∀out ia ib g ac bc,OutL lt a b out ia ib->ia+1<a.size->ib<b.size->N<=ia+ib->Q (.done (none,out,ia,ib,g,ac,bc)) st/\Q (.yield (none,out,ia,ib,g,ac,bc)) st
section
variable{a b out:Array Keyed}{ia ib g ac bc N:Nat}{Q:ForInStep LoT->SortSt->Prop}
theorem Zkf(SA:So lt a.toList)(SB:So lt b.toList)(LA:∀x∈b.toList,∀q,a[a.size-1]?= some q->Le lt x q)(q:LoQ lt a b st N Q)(ho:OutL lt a b out ia ib)(h1:ia+1<a.size)(h2:ib<b.size)(hN:N<=ia+ib)(hp:∀p,a[ia]?= some p->∀y∈b.toList.drop ib,Le lt p y) :
  wpS (model prog w) A E s (lo3 a b out ia ib g ac bc) Q st:=by
 unfold lo3;refine wpS_bind (Zi (by lia) fun p4 h4 e4=>?_);have o4:=ho.pushA SA e4 (hp p4 e4);by_cases f1:(ia+1+1 == a.size)=true
 ·rw[if_pos f1];exact wpS_pure (q.R _ _ _ _ _ _ _ (o4.lastL SA SB LA f1))
 rw[if_neg f1];have n4:ia+1+1<a.size:=by
  have : ¬ ia+1+1=a.size:=fun e=>f1 (by simp[<- e]);lia
 have z:=q.N _ _ _ g ac bc o4 n4 h2 (by lia);by_cases f2:(decide (ac<7)&&decide (bc<7))=true
 ·rw[if_pos f2];exact wpS_pure z.1
 ·rw[if_neg f2];exact wpS_pure z.2
theorem ZgR(o:Swo lt)(hc:Zhp prog w A s κ Ok lt)(hk:kindOf st= κ)(ha:∀p∈a.toList,Ok p)(hb:∀p∈b.toList,Ok p)(SA:So lt a.toList)(SB:So lt b.toList)(LA:∀x∈b.toList,∀q,a[a.size-1]?= some q->Le lt x q)(q:LoQ lt a b st N Q)(ho:OutL lt a b out ia ib)(h1:ia+1<a.size)(h2:ib<b.size)(hN:N<=ia+ib)(hp:∀p,b[ib]?= some p->∀y∈a.toList.drop ia,Le lt p y)
  {T:Keyed->Option Nat->StateT SortSt Sem (ForInStep LoT)} (hT:∀p k,T p (some k)=if k > 0 then(if(ib+1+k == b.size)=true then pure (.done (some (out.push p++b.extract (ib+1) (ib+1+k)++a.extract ia a.size++b.extract (ib+1+k) b.size),out.push p++b.extract (ib+1) (ib+1+k),ia,ib+1+k,g,ac,k))
     else lo3 a b (out.push p++b.extract (ib+1) (ib+1+k)) ia (ib+1+k) g ac k)
    else lo3 a b (out.push p) ia (ib+1) g ac k) :
  wpS (model prog w) A E s (elem' b ib >>= fun p=>if(ib+1 == b.size)=true then pure (.done (some (out.push p++a.extract ia a.size++b.extract (ib+1) b.size),out.push p,ia,ib+1,g,ac,bc))
   else elem' a ia >>= fun q=>ZeI true q b (ib+1) (b.size-(ib+1)) 0 >>= T p) Q st:=by
 refine wpS_bind (Zi (by lia) fun p3 h3 e3=>?_);have o2:=ho.pushB SB e3 (hp p3 e3);by_cases c3:(ib+1 == b.size)=true
 ·rw[if_pos c3];exact wpS_pure (q.R _ _ _ _ _ _ _ (o2.doneB SA c3))
 rw[if_neg c3];have n3:ib+1<b.size:=by
  have : ¬ ib+1=b.size:=fun e=>c3 (by simp[<- e]);lia
 refine wpS_bind (Zi (by lia) fun q3 g3 u3=>?_);refine wpS_bind (Zaz o hc hk (ha q3 g3) hb (by lia) (by lia) (ZfQ SB _ _) fun k2 hk2 G1 G2=>?_);rw[hT];by_cases k20:k2 > 0
 ·rw[if_pos k20];have o3:=o2.extB SB (k:=k2) (by lia) (fun x hx=>ZfC o SA u3 (Zmm G1 o x hx));by_cases c4:(ib+1+k2 == b.size)=true
  ·rw[if_pos c4];exact wpS_pure (q.R _ _ _ _ _ _ _ (o3.doneB SA c4))
  rw[if_neg c4];have n5:ib+1+k2<b.size:=by
   have : ¬ ib+1+k2=b.size:=fun e=>c4 (by simp[<- e]);lia
  exact Zkf SA SB LA q o3 h1 n5 (by lia) fun p e=>by rw[Zai e u3];exact Zmx G2
 ·rw[if_neg k20];exact Zkf SA SB LA q o2 h1 n3 (by lia) fun p e=>by rw[Zai e u3];exact Zmx (k:=0) (fun i _ hi=>G2 i (by lia) hi)
end
set_option maxHeartbeats 2000000 in
theorem Zfz{a b:Array Keyed}{Q:Array Keyed->SortSt->Prop}(o:Swo lt)(hc:Zhp prog w A s κ Ok lt)(hk:kindOf st= κ)(ha:∀p∈a.toList,Ok p)(hb:∀p∈b.toList,Ok p)(ha1:1<=a.size)(hb1:1<=b.size)(SA:So lt a.toList)(SB:So lt b.toList)(hb0:∀p,b[0]?= some p->∀y∈a.toList,Le lt p y)(LA:∀x∈b.toList,∀q,a[a.size-1]?= some q->Le lt x q)
  (h:∀r st',Like st st'->Rs lt a b r->Q r st'):wpS (model prog w) A E s (ZgD a b) Q st:=by
 refine wpS_bind (wpS_lift (wpAny_rule ⟨rfl,?_⟩));refine wpS_bind (Zi (by lia) fun p hp he=>?_)
 try dsimp -zeta only
 have o0:OutL lt a b #[p] 0 1:=Zl1 SB he hb0;by_cases c1:(1 == b.size)=true
 ·rw[if_pos c1];exact wpS_pure (h _ _ (Like.refl _) (o0.doneB SA c1))
 rw[if_neg c1];by_cases c2:(0+1 == a.size)=true
 ·rw[if_pos c2];exact wpS_pure (h _ _ (Like.refl _) (o0.lastL SA SB LA c2))
 rw[if_neg c2];have n1:1<b.size:=by
  have : ¬ 1=b.size:=fun e=>c1 (by simp[<- e]);lia
 have n2:1<a.size:=by
  have : ¬ 1=a.size:=fun e=>c2 (by simp[<- e]);lia
 refine wpS_bind (wpS_get ?_);refine wpS_bind (wpS_mono (wpS_forRange (I:=fun x c st'=>Like st st'/\∃out ia ib g,c=(none,out,ia,ib,g)/\OutL lt a b out ia ib/\ia+1<a.size/\ib<b.size/\x+1<=ia+ib)
  (Q:=fun c st'=>Like st st'/\∃r out ia ib g,c=(some r,out,ia,ib,g)/\Rs lt a b r) ?_ ?_ ⟨Like.refl _,_,0,1,_,rfl,o0,by lia,by lia,by lia⟩) ?_)
 ·rintro x c st1 _ hx ⟨lk,out,ia,ib,g,rfl,ho,hia,hib,hxx⟩
  try dsimp -zeta only
  refine wpS_bind (wpS_mono (wpS_forRange (I:=fun y c st'=>Like st st'/\∃out ia ib ac bc,c=(none,out,ia,ib,ac,bc)/\OutL lt a b out ia ib/\ia+1<a.size/\ib<b.size/\x+1+(if y=0 then 0 else 1)<=ia+ib)
   (Q:=fun c st'=>Like st st'/\((∃r out ia ib ac bc,c=(some r,out,ia,ib,ac,bc)/\Rs lt a b r)\/∃out ia ib ac bc,c=(none,out,ia,ib,ac,bc)/\OutL lt a b out ia ib/\ia+1<a.size/\ib<b.size/\x+2<=ia+ib)) ?_ ?_ ⟨lk,out,ia,ib,0,0,rfl,ho,hia,hib,by simp;lia⟩) ?_)
  ·rintro y c st2 _ hy ⟨lk2,out,ia,ib,ac,bc,rfl,ho,hia,hib,hxx⟩;dsimp only;have hxx2:x+1<=ia+ib:=by split at hxx <;> lia
   refine wpS_bind (Zi (by lia) fun p hp ep=>?_);refine wpS_bind (Zi (by lia) fun q hq eq=>?_);refine wpS_bind (Zdw hc (lk2.kind.trans hk) (hb p hp) (ha q hq) ?_);cases hbw:lt p q with
   | true =>
    try dsimp -zeta only
    rw[if_pos rfl];refine wpS_bind (Zi (by lia) fun p2 hp2 ep2=>?_);have o1:=ho.pushB SB ep2 (by rw[Zai ep2 ep];exact ZfC o SA eq (o.le_of hbw));by_cases d1:(ib+1 == b.size)=true
    ·rw[if_pos d1];exact wpS_pure ⟨lk2,.inl ⟨_,_,_,_,_,_,rfl,(o1.doneB SA d1)⟩⟩
    rw[if_neg d1];have m1:ib+1<b.size:=by
     have : ¬ ib+1=b.size:=fun e=>d1 (by simp[<- e]);lia
    by_cases d2:bc+1>=g
    ·rw[if_pos d2];exact wpS_pure ⟨lk2,.inr ⟨_,_,_,_,_,rfl,o1,hia,m1,by lia⟩⟩
    ·rw[if_neg d2];exact wpS_pure ⟨lk2,_,_,_,_,_,rfl,o1,hia,m1,by rw[if_neg (by lia)];lia⟩
   | false =>
    try dsimp -zeta only
    rw[if_neg Bool.false_ne_true];refine wpS_bind (Zi (by lia) fun p2 hp2 ep2=>?_);have o1:=ho.pushA SA ep2 (by rw[Zai ep2 eq];exact ZfC o SB ep hbw);by_cases d1:(ia+1+1 == a.size)=true
    ·rw[if_pos d1];exact wpS_pure ⟨lk2,.inl ⟨_,_,_,_,_,_,rfl,(o1.lastL SA SB LA d1)⟩⟩
    rw[if_neg d1];have m1:ia+1+1<a.size:=by
     have : ¬ ia+1+1=a.size:=fun e=>d1 (by simp[<- e]);lia
    by_cases d2:ac+1>=g
    ·rw[if_pos d2];exact wpS_pure ⟨lk2,.inr ⟨_,_,_,_,_,rfl,o1,m1,hib,by lia⟩⟩
    ·rw[if_neg d2];exact wpS_pure ⟨lk2,_,_,_,_,_,rfl,o1,m1,hib,by rw[if_neg (by lia)];lia⟩
  ·rintro c st2 ⟨lk2,out,ia,ib,ac,bc,rfl,ho,hia,hib,hxx⟩;refine⟨lk2,.inr ⟨_,_,_,_,_,rfl,ho,hia,hib,?_⟩⟩;rw[if_neg (by lia)] at hxx;lia
  ·rintro c st2 ⟨lk2,⟨r,out,ia,ib,ac,bc,rfl,hr⟩|⟨out,ia,ib,ac,bc,rfl,ho,hia,hib,hxx⟩⟩
   ·exact wpS_pure ⟨lk2,_,_,_,_,_,rfl,hr⟩
   try dsimp -zeta only
   refine wpS_bind (wpS_lift (wpAny_rule ⟨rfl,?_⟩))
   try dsimp -zeta only
   refine wpS_bind (wpS_mono (wpS_forRange (I:=fun y c st'=>Like st st'/\∃out ia ib g ac bc,c=(none,out,ia,ib,g,ac,bc)/\OutL lt a b out ia ib/\ia+1<a.size/\ib<b.size/\x+2<=ia+ib)
    (Q:=fun c st'=>Like st st'/\((∃r out ia ib g ac bc,c=(some r,out,ia,ib,g,ac,bc)/\Rs lt a b r)\/∃out ia ib g ac bc,c=(none,out,ia,ib,g,ac,bc)/\OutL lt a b out ia ib/\ia+1<a.size/\ib<b.size/\x+2<=ia+ib)) ?_ ?_ ⟨lk2,out,ia,ib,_,_,_,rfl,ho,hia,hib,hxx⟩) ?_)
   ·rintro y c st3 _ hy ⟨lk3,out,ia,ib,g3,ac,bc,rfl,ho,hia,hib,hxx⟩;dsimp only;refine wpS_mono (Q:=LoP lt a b st x) ?_ (fun r st' h=>by cases r <;> exact h)
    have loq:∀{st4},Like st st4->LoQ lt a b st4 (ia+ib) (LoP lt a b st x):=fun lk4=>⟨fun r out ia ib g ac bc hr=>⟨lk4,.inl ⟨r,out,ia,ib,g,ac,bc,rfl,hr⟩⟩,fun out ia ib g ac bc ho h1 h2 hN=>⟨⟨lk4,.inr ⟨out,ia,ib,g,ac,bc,rfl,ho,h1,h2,by lia⟩⟩,⟨lk4,out,ia,ib,g,ac,bc,rfl,ho,h1,h2,by lia⟩⟩⟩;by_cases g1:g3 > 1
    ·rw[if_pos g1];refine wpS_bind (wpS_modify ?_);have lk4:=lk3.trans (Z1 st3 (g3-1));refine wpS_bind (Zi (by lia) fun p0 h0 e0=>?_);refine wpS_bind (Zaz o hc (lk4.kind.trans hk) (hb p0 h0) ha (by lia) (by lia) (ZfQ SA _ _) fun k hk1 F1 F2=>?_)
     try dsimp -zeta only
     by_cases k0:k > 0
     ·rw[if_pos k0];have o1:=ho.extA SA (k:=k) (by lia) (fun x hx=>ZfC o SB e0 (Zk6 F1 x hx));by_cases c1:(ia+k+1 == a.size)=true
      ·rw[if_pos c1];exact wpS_pure ⟨lk4,.inl ⟨_,_,_,_,_,_,_,rfl,(o1.lastL SA SB LA c1)⟩⟩
      rw[if_neg c1];by_cases c2:(ia+k == a.size)=true
      ·rw[if_pos c2];exact wpS_pure ⟨lk4,.inl ⟨_,_,_,_,_,_,_,rfl,(o1.doneA SB c2)⟩⟩
      rw[if_neg c2];have n1:ia+k+1<a.size:=by
       have h1 : ¬ ia+k+1=a.size:=fun e=>c1 (by simp[<- e]);have h2 : ¬ ia+k=a.size:=fun e=>c2 (by simp[<- e]);lia
      refine ZgR o hc (lk4.kind.trans hk) ha hb SA SB LA (N:=ia+ib) (loq lk4) o1 n1 hib (by lia) (fun p e=>by rw[Zai e e0];exact ZlW F2 o) ?_;exact fun _ _=>rfl
     ·rw[if_neg k0];refine ZgR o hc (lk4.kind.trans hk) ha hb SA SB LA (N:=ia+ib) (loq lk4) ho hia hib (Nat.le_refl _) (fun p e=>by rw[Zai e e0];exact ZlW (k:=0) (fun i _ hi=>F2 i (by lia) hi) o) ?_;exact fun _ _=>rfl
    ·rw[if_neg g1];refine wpS_bind (wpS_modify ?_);have lk4:=lk3.trans (Z1 st3 g3);refine wpS_bind (Zi (by lia) fun p0 h0 e0=>?_);refine wpS_bind (Zaz o hc (lk4.kind.trans hk) (hb p0 h0) ha (by lia) (by lia) (ZfQ SA _ _) fun k hk1 F1 F2=>?_)
     try dsimp -zeta only
     by_cases k0:k > 0
     ·rw[if_pos k0];have o1:=ho.extA SA (k:=k) (by lia) (fun x hx=>ZfC o SB e0 (Zk6 F1 x hx));by_cases c1:(ia+k+1 == a.size)=true
      ·rw[if_pos c1];exact wpS_pure ⟨lk4,.inl ⟨_,_,_,_,_,_,_,rfl,(o1.lastL SA SB LA c1)⟩⟩
      rw[if_neg c1];by_cases c2:(ia+k == a.size)=true
      ·rw[if_pos c2];exact wpS_pure ⟨lk4,.inl ⟨_,_,_,_,_,_,_,rfl,(o1.doneA SB c2)⟩⟩
      rw[if_neg c2];have n1:ia+k+1<a.size:=by
       have h1 : ¬ ia+k+1=a.size:=fun e=>c1 (by simp[<- e]);have h2 : ¬ ia+k=a.size:=fun e=>c2 (by simp[<- e]);lia
      refine ZgR o hc (lk4.kind.trans hk) ha hb SA SB LA (N:=ia+ib) (loq lk4) o1 n1 hib (by lia) (fun p e=>by rw[Zai e e0];exact ZlW F2 o) ?_;exact fun _ _=>rfl
     ·rw[if_neg k0];refine ZgR o hc (lk4.kind.trans hk) ha hb SA SB LA (N:=ia+ib) (loq lk4) ho hia hib (Nat.le_refl _) (fun p e=>by rw[Zai e e0];exact ZlW (k:=0) (fun i _ hi=>F2 i (by lia) hi) o) ?_;exact fun _ _=>rfl
   ·rintro c st3 ⟨lk3,out,ia,ib,g3,ac,bc,rfl,ho,hia,hib,hxx⟩;exact⟨lk3,.inr ⟨_,_,_,_,_,_,rfl,ho,hia,hib,hxx⟩⟩
   ·rintro c st3 ⟨lk3,⟨r,out,ia,ib,g3,ac,bc,rfl,hr⟩|⟨out,ia,ib,g3,ac,bc,rfl,ho,hia,hib,hxx⟩⟩
    ·exact wpS_pure ⟨lk3,_,_,_,_,_,rfl,hr⟩
    ·try dsimp -zeta only
     refine wpS_bind (wpS_modify ?_);exact wpS_pure ⟨lk3.trans (Z1 _ _),_,_,_,_,rfl,ho,hia,hib,by lia⟩
 ·rintro c st1 ⟨lk,out,ia,ib,g,rfl,ho,hia,hib,hx⟩;exfalso;lia
 ·rintro c st1 ⟨lk,r,out,ia,ib,g,rfl,hr⟩;exact wpS_pure (h r st1 lk hr)
end
section
variable{lt:Keyed->Keyed->Bool}{a b out:Array Keyed}{na nb k:Nat}{p q:Keyed}
structure OutHL(lt:Keyed->Keyed->Bool)(a b out:Array Keyed)(na nb:Nat):Prop where
 perm:Zck a b out na nb
 sort:So lt out.toList.reverse
 hiA:∀x∈out.toList,∀y∈a.toList.take na,Le lt y x
 hiB:∀x∈out.toList,∀y∈b.toList.take nb,Le lt y x
theorem Zct(h1:1<=na)(hp:a[na-1]?= some p):a.toList.take na=a.toList.take (na-1) ++ [p]:=by
 have:=ZeW (Zjy hp);rw[Nat.sub_add_cancel h1] at this;exact this
theorem So.take{l:List Keyed}(h:So lt l)(n:Nat):So lt (l.take n):=List.Pairwise.sublist (List.take_sublist n l) h
theorem So.last(h:So lt a.toList)(h1:1<=na)(hp:a[na-1]?= some p):∀y∈a.toList.take (na-1),Le lt y p:=fun y hy=>by
 have:=h.take na;rw[Zct h1 hp] at this;exact(List.pairwise_append.mp this).2.2 y hy p (List.mem_singleton.mpr rfl)
theorem Zff(o:Swo lt)(h:So lt a.toList)(h1:1<=na)(hp:a[na-1]?= some p){x:Keyed}(hx:Le lt p x):∀y∈a.toList.take na,Le lt y x:=fun y hy=>by
 rw[Zct h1 hp] at hy;rcases List.mem_append.mp hy with hy|hy
 ·exact o.le_trans (h.last h1 hp y hy) hx
 ·rw[List.mem_singleton.mp hy];exact hx
theorem Zes{l:List Keyed}{i j:Nat}(h:i<=j){y:Keyed}(hy:y∈l.take i):y∈l.take j:=by
 rw[show i=min i j by lia,<- List.take_take] at hy;exact List.mem_of_mem_take hy
theorem Zb5{l:List Keyed}{n:Nat}{y:Keyed}(h:y∈l.take n):∃i,i<n/\l[i]?= some y:=by
 obtain⟨i,hi⟩:=List.mem_iff_getElem?.mp h;have hik:i<n:=by
  have:=(List.getElem?_eq_some_iff.mp hi).1;rw[List.length_take] at this;lia
 rw[List.getElem?_take_of_lt hik] at hi;exact⟨i,hik,hi⟩
theorem Zb2{i j:Nat}{x:Keyed}(h:x∈(a.extract i j).toList):∃m,i<=m/\m<j/\a[m]?= some x:=by
 rw[Array.toList_extract,List.extract_eq_drop_take] at h;obtain⟨m,hm,e⟩:=Zb5 h;rw[List.getElem?_drop] at e;exact⟨i+m,by lia,by lia,by rw[<- Array.getElem?_toList];exact e⟩
theorem ZlC(F:∀i,k<=i->i<na->BV lt false p a 0 i=false)(o:Swo lt):∀x∈(a.extract k na).toList,Le lt p x:=fun x hx=>by
 obtain⟨m,h1,h2,e⟩:=Zb2 hx;have h3:=F m h1 h2;unfold BV at h3;rw[Nat.zero_add,e] at h3;have h4:(!lt p x)=false:=h3;exact o.le_of (by simpa using h4)
theorem ZgQ(F:∀i,i<k->BV lt false p a 0 i=true):∀y∈a.toList.take k,Le lt y p:=fun y hy=>by
 obtain⟨i,hi,e⟩:=Zb5 hy;have h3:=F i hi;unfold BV at h3;rw[Nat.zero_add,<- Array.getElem?_toList,e] at h3;have h4:(!lt p y)=true:=h3;show lt p y=false
 simpa using h4
theorem Zms(F:∀i,k<=i->i<nb->BV lt true q b 0 i=false):∀x∈(b.extract k nb).toList,Le lt q x:=fun x hx=>by
 obtain⟨m,h1,h2,e⟩:=Zb2 hx;have h3:=F m h1 h2;unfold BV at h3;rw[Nat.zero_add,e] at h3;exact h3
theorem Zkj(F:∀i,i<k->BV lt true q b 0 i=true)(o:Swo lt):∀y∈b.toList.take k,Le lt y q:=fun y hy=>by
 obtain⟨i,hi,e⟩:=Zb5 hy;have h3:=F i hi;unfold BV at h3;rw[Nat.zero_add,<- Array.getElem?_toList,e] at h3;exact o.le_of h3
theorem ZgK(h:So lt out.toList.reverse)(hp:∀x∈out.toList,Le lt p x):So lt (out.push p).toList.reverse:=by
 rw[Array.toList_push,List.reverse_append];exact List.pairwise_cons.mpr ⟨fun x hx=>hp x (List.mem_reverse.mp hx),h⟩
theorem OutHL.pushA(h:OutHL lt a b out na nb)(SA:So lt a.toList)(h1:1<=na)(hp:a[na-1]?= some p)(hb:∀y∈b.toList.take nb,Le lt y p):OutHL lt a b (out.push p) (na-1) nb:=by
 have hm:p∈a.toList.take na:=by rw[Zct h1 hp];exact List.mem_append_right _ (List.mem_singleton.mpr rfl)
 refine⟨h.perm.pushA h1 hp,ZgK h.sort fun x hx=>h.hiA x hx p hm,fun x hx y hy=>?_,fun x hx y hy=>?_⟩
 ·rcases mem_push hx with hx|rfl
  ·exact h.hiA x hx y (Zes (by lia) hy)
  ·exact SA.last h1 hp y hy
 ·rcases mem_push hx with hx|rfl
  ·exact h.hiB x hx y hy
  ·exact hb y hy
theorem OutHL.pushB(h:OutHL lt a b out na nb)(SB:So lt b.toList)(h1:1<=nb)(hp:b[nb-1]?= some p)(ha:∀y∈a.toList.take na,Le lt y p):OutHL lt a b (out.push p) na (nb-1):=by
 have hm:p∈b.toList.take nb:=by rw[Zct h1 hp];exact List.mem_append_right _ (List.mem_singleton.mpr rfl)
 refine⟨h.perm.pushB h1 hp,ZgK h.sort fun x hx=>h.hiB x hx p hm,fun x hx y hy=>?_,fun x hx y hy=>?_⟩
 ·rcases mem_push hx with hx|rfl
  ·exact h.hiA x hx y hy
  ·exact ha y hy
 ·rcases mem_push hx with hx|rfl
  ·exact h.hiB x hx y (Zes (by lia) hy)
  ·exact SB.last h1 hp y hy
theorem Zkg(h:So lt a.toList)(i j:Nat):So lt (a.extract i j).toList:=by
 rw[Array.toList_extract,List.extract_eq_drop_take];exact(h.drop i).take _
theorem Zip{i j:Nat}{x:Keyed}(h:x∈(a.extract i j).toList):x∈a.toList.take j:=by
 obtain⟨m,h1,h2,e⟩:=Zb2 h;rw[<- Array.getElem?_toList] at e;refine List.mem_iff_getElem?.mpr ⟨m,?_⟩;rw[List.getElem?_take_of_lt h2];exact e
theorem Zd5(h:So lt a.toList){i j:Nat}{x y:Keyed}(hy:y∈a.toList.take i)(hx:x∈(a.extract i j).toList):Le lt y x:=by
 obtain⟨m,h1,h2,e⟩:=Zb2 hx;obtain⟨l,hl,e2⟩:=Zb5 hy;rw[Array.getElem?_toList] at e2;exact ZfQ h 0 (m+1) l m _ _ (Nat.zero_le _) (by lia) (by lia) e2 e
theorem OutHL.extA(h:OutHL lt a b out na nb)(SA:So lt a.toList)(hk:k<=na)(hb:∀x∈(a.extract k na).toList,∀y∈b.toList.take nb,Le lt y x):OutHL lt a b (out++(a.extract k na).reverse) k nb:=by
 have hm:∀x,x∈(out++(a.extract k na).reverse).toList->x∈out.toList\/x∈(a.extract k na).toList:=fun x hx=>by
  rw[Array.toList_append,Array.toList_reverse] at hx;rcases List.mem_append.mp hx with hx|hx
  ·exact .inl hx
  ·exact .inr (List.mem_reverse.mp hx)
 refine⟨h.perm.extA hk,?_,fun x hx y hy=>?_,fun x hx y hy=>?_⟩
 ·rw[Array.toList_append,Array.toList_reverse,List.reverse_append,List.reverse_reverse];exact List.pairwise_append.mpr ⟨Zkg SA _ _,h.sort,fun x hx y hy=>h.hiA y (List.mem_reverse.mp hy) x (Zip hx)⟩
 ·rcases hm x hx with hx|hx
  ·exact h.hiA x hx y (Zes (by lia) hy)
  ·exact Zd5 SA hy hx
 ·rcases hm x hx with hx|hx
  ·exact h.hiB x hx y hy
  ·exact hb x hx y hy
theorem OutHL.extB(h:OutHL lt a b out na nb)(SB:So lt b.toList)(hk:k<=nb)(ha:∀x∈(b.extract k nb).toList,∀y∈a.toList.take na,Le lt y x):OutHL lt a b (out++(b.extract k nb).reverse) na k:=by
 have hm:∀x,x∈(out++(b.extract k nb).reverse).toList->x∈out.toList\/x∈(b.extract k nb).toList:=fun x hx=>by
  rw[Array.toList_append,Array.toList_reverse] at hx;rcases List.mem_append.mp hx with hx|hx
  ·exact .inl hx
  ·exact .inr (List.mem_reverse.mp hx)
 refine⟨h.perm.extB hk,?_,fun x hx y hy=>?_,fun x hx y hy=>?_⟩
 ·rw[Array.toList_append,Array.toList_reverse,List.reverse_append,List.reverse_reverse];exact List.pairwise_append.mpr ⟨Zkg SB _ _,h.sort,fun x hx y hy=>h.hiB y (List.mem_reverse.mp hy) x (Zip hx)⟩
 ·rcases hm x hx with hx|hx
  ·exact h.hiA x hx y hy
  ·exact ha x hx y hy
 ·rcases hm x hx with hx|hx
  ·exact h.hiB x hx y (Zes (by lia) hy)
  ·exact Zd5 SB hy hx
theorem OutHL.doneA(h:OutHL lt a b out na nb)(SB:So lt b.toList)(e:(na == 0)=true):Rs lt a b (a.extract 0 na++b.extract 0 nb++out.reverse):=by
 refine⟨h.perm.done,?_⟩;rw[Array.toList_append,Array.toList_append,ex0,ex0,Array.toList_reverse,eq_of_beq e,List.take_zero,List.nil_append];exact List.pairwise_append.mpr ⟨SB.take nb,h.sort,fun x hx y hy=>h.hiB y (List.mem_reverse.mp hy) x hx⟩
theorem OutHL.doneB(h:OutHL lt a b out na nb)(SA:So lt a.toList)(e:(nb == 0)=true):Rs lt a b (a.extract 0 na++b.extract 0 nb++out.reverse):=by
 refine⟨h.perm.done,?_⟩;rw[Array.toList_append,Array.toList_append,ex0,ex0,Array.toList_reverse,eq_of_beq e,List.take_zero,List.append_nil];exact List.pairwise_append.mpr ⟨SA.take na,h.sort,fun x hx y hy=>h.hiA y (List.mem_reverse.mp hy) x hx⟩
theorem OutHL.firstL(h:OutHL lt a b out na nb)(SA:So lt a.toList)(SB:So lt b.toList)(hb0:∀p,b[0]?= some p->∀y∈a.toList,Le lt p y)(e:(nb == 1)=true):Rs lt a b (b.extract 0 nb++a.extract 0 na++out.reverse):=by
 refine⟨h.perm.first,?_⟩
 rw[Array.toList_append,Array.toList_append,ex0,ex0,Array.toList_reverse];refine List.pairwise_append.mpr ⟨List.pairwise_append.mpr ⟨SB.take nb,SA.take na,fun x hx y hy=>?_⟩,h.sort,fun x hx y hy=>?_⟩
 ·obtain⟨i,hi,e2⟩:=Zb5 hx;rw[eq_of_beq e] at hi;obtain rfl:i=0:=by lia
  rw[Array.getElem?_toList] at e2;exact hb0 x e2 y (List.mem_of_mem_take hy)
 ·rcases List.mem_append.mp hx with hx|hx
  ·exact h.hiB y (List.mem_reverse.mp hy) x hx
  ·exact h.hiA y (List.mem_reverse.mp hy) x hx
theorem Zlp(SA:So lt a.toList)(h1:1<=a.size)(hp:a[a.size-1]?= some p)(LA:∀x∈b.toList,∀q,a[a.size-1]?= some q->Le lt x q):OutHL lt a b #[p] (a.size-1) b.size:=by
 refine⟨Zk5 h1 hp,List.pairwise_singleton _ _,fun x hx y hy=>?_,fun x hx y hy=>?_⟩
 ·obtain rfl:x=p:=by simpa using hx
  exact SA.last h1 hp y hy
 ·obtain rfl:x=p:=by simpa using hx
  exact LA y (List.mem_of_mem_take hy) x hp
end
section
variable{prog:Program}{w:World}{A:Around}{E:Value->Shared->Prop}{s:Shared}{κ : SortKind}{Ok:Keyed->Prop}{st:SortSt}{lt:Keyed->Keyed->Bool}
abbrev HiT:=Option (Array Keyed)×Nat×Nat×Array Keyed×Nat×Nat×Nat
def hi3(a b:Array Keyed)(na nb:Nat)(out:Array Keyed)(g ac bc:Nat):StateT SortSt Sem (ForInStep HiT) :=
 elem' a (na-1) >>= fun p=>if(na-1 == 0)=true then pure (.done (some (a.extract 0 (na-1)++b.extract 0 nb++(out.push p).reverse),na-1,nb,out.push p,g,ac,bc))
  else if(decide (ac<7)&&decide (bc<7))=true then pure (.done (none,na-1,nb,out.push p,g,ac,bc)) else pure (.yield (none,na-1,nb,out.push p,g,ac,bc))
structure HiQ(lt:Keyed->Keyed->Bool)(a b:Array Keyed)(st:SortSt)(N:Nat)(Q:ForInStep HiT->SortSt->Prop):Prop where
 R:∀r na nb out g ac bc,Rs lt a b r->Q (.done (some r,na,nb,out,g,ac,bc)) st
 N:∀na nb out g ac bc,OutHL lt a b out na nb->1<=na->na<=a.size->2<=nb->nb<=b.size->na+nb<=N->Q (.done (none,na,nb,out,g,ac,bc)) st/\Q (.yield (none,na,nb,out,g,ac,bc)) st
def HiP(lt:Keyed->Keyed->Bool)(a b:Array Keyed)(st:SortSt)(x:Nat):ForInStep HiT->SortSt->Prop:=fun r st'=>match r with
 | .done c=>Like st st'/\((∃r na nb out g ac bc,c=(some r,na,nb,out,g,ac,bc)/\Rs lt a b r)\/∃na nb out g ac bc,c=(none,na,nb,out,g,ac,bc)/\OutHL lt a b out na nb/\1<=na/\na<=a.size/\2<=nb/\nb<=b.size/\na+nb+x+2<=a.size+b.size)
 | .yield c=>Like st st'/\∃na nb out g ac bc,c=(none,na,nb,out,g,ac,bc)/\OutHL lt a b out na nb/\1<=na/\na<=a.size/\2<=nb/\nb<=b.size/\na+nb+x+2<=a.size+b.size
section
variable{a b out:Array Keyed}{na nb g ac bc N:Nat}{Q:ForInStep HiT->SortSt->Prop}
theorem Zke(SA:So lt a.toList)(SB:So lt b.toList)(q:HiQ lt a b st N Q)(ho:OutHL lt a b out na nb)(h1:1<=na)(h2:na<=a.size)(h3:2<=nb)(h4:nb<=b.size)(hN:na+nb<=N)(hp:∀p,a[na-1]?= some p->∀y∈b.toList.take nb,Le lt y p) :
  wpS (model prog w) A E s (hi3 a b na nb out g ac bc) Q st:=by
 unfold hi3;refine wpS_bind (Zi (by lia) fun p4 w4 e4=>?_);have o4:=ho.pushA SA h1 e4 (hp p4 e4);by_cases f1:(na-1 == 0)=true
 ·rw[if_pos f1];exact wpS_pure (q.R _ _ _ _ _ _ _ (o4.doneA SB f1))
 rw[if_neg f1];have n4 : ¬ na-1=0:=fun e=>f1 (by simp[e]);have z:=q.N _ _ _ g ac bc o4 (by lia) (by lia) h3 h4 (by lia);by_cases f2:(decide (ac<7)&&decide (bc<7))=true
 ·rw[if_pos f2];exact wpS_pure z.1
 ·rw[if_neg f2];exact wpS_pure z.2
theorem ZgV(o:Swo lt)(hc:Zhp prog w A s κ Ok lt)(hk:kindOf st= κ)(ha:∀p∈a.toList,Ok p)(hb:∀p∈b.toList,Ok p)(hb0:∀p,b[0]?= some p->∀y∈a.toList,Le lt p y)(SA:So lt a.toList)(SB:So lt b.toList)(q:HiQ lt a b st N Q)(ho:OutHL lt a b out na nb)(h1:1<=na)(h2:na<=a.size)(h3:2<=nb)(h4:nb<=b.size)(hN:na+nb<=N)(hp:∀p,b[nb-1]?= some p->∀y∈a.toList.take na,Le lt y p)
  {T:Keyed->Option Nat->StateT SortSt Sem (ForInStep HiT)} (hT:∀p k,T p (some k)=if nb-1-k > 0 then(if(k == 1)=true then pure (.done (some (b.extract 0 k++a.extract 0 na++(out.push p++(b.extract k (nb-1)).reverse).reverse),na,k,out.push p++(b.extract k (nb-1)).reverse,g,ac,nb-1-k))
     else if(k == 0)=true then pure (.done (some (a.extract 0 na++b.extract 0 k++(out.push p++(b.extract k (nb-1)).reverse).reverse),na,k,out.push p++(b.extract k (nb-1)).reverse,g,ac,nb-1-k))
     else hi3 a b na k (out.push p++(b.extract k (nb-1)).reverse) g ac (nb-1-k))
    else hi3 a b na (nb-1) (out.push p) g ac (nb-1-k)) :
  wpS (model prog w) A E s (elem' b (nb-1) >>= fun p=>if(nb-1 == 1)=true then pure (.done (some (b.extract 0 (nb-1)++a.extract 0 na++(out.push p).reverse),na,nb-1,out.push p,g,ac,bc))
   else elem' a (na-1) >>= fun q=>ZeI true q b 0 (nb-1) (nb-1-1) >>= T p) Q st:=by
 refine wpS_bind (Zi (by lia) fun p3 w3 e3=>?_);have o2:=ho.pushB SB (by lia) e3 (hp p3 e3);by_cases c3:(nb-1 == 1)=true
 ·rw[if_pos c3];exact wpS_pure (q.R _ _ _ _ _ _ _ (o2.firstL SA SB hb0 c3))
 rw[if_neg c3];have n3 : ¬ nb-1=1:=fun e=>c3 (by simp[e]);refine wpS_bind (Zi (by lia) fun q3 v3 u3=>?_);refine wpS_bind (Zaz o hc hk (ha q3 v3) hb (by lia) (by lia) (ZfQ SB _ _) fun k2 hk2 G1 G2=>?_);rw[hT];by_cases k20:nb-1-k2 > 0
 ·rw[if_pos k20];have o3:=o2.extB SB (k:=k2) (by lia) (fun x hx=>Zff o SA (by lia) u3 (Zms G2 x hx));by_cases c4:(k2 == 1)=true
  ·rw[if_pos c4];exact wpS_pure (q.R _ _ _ _ _ _ _ (o3.firstL SA SB hb0 c4))
  rw[if_neg c4];by_cases c5:(k2 == 0)=true
  ·rw[if_pos c5];exact wpS_pure (q.R _ _ _ _ _ _ _ (o3.doneB SA c5))
  rw[if_neg c5];have n5 : ¬ k2=1:=fun e=>c4 (by simp[e]);have n6 : ¬ k2=0:=fun e=>c5 (by simp[e]);exact Zke SA SB q o3 h1 h2 (by lia) (by lia) (by lia) fun p e=>by rw[Zai e u3];exact Zkj G1 o
 ·rw[if_neg k20];exact Zke SA SB q o2 h1 h2 (by lia) (by lia) (by lia) fun p e=>by rw[Zai e u3];exact Zkj (fun i hi=>G1 i (by lia)) o
end
set_option maxHeartbeats 2000000 in
theorem Zfe{a b:Array Keyed}{Q:Array Keyed->SortSt->Prop}(o:Swo lt)(hc:Zhp prog w A s κ Ok lt)(hk:kindOf st= κ)(ha:∀p∈a.toList,Ok p)(hb:∀p∈b.toList,Ok p)(ha1:1<=a.size)(hb1:1<=b.size)(SA:So lt a.toList)(SB:So lt b.toList)(hb0:∀p,b[0]?= some p->∀y∈a.toList,Le lt p y)(LA:∀x∈b.toList,∀q,a[a.size-1]?= some q->Le lt x q)
  (h:∀r st',Like st st'->Rs lt a b r->Q r st'):wpS (model prog w) A E s (ZgG a b) Q st:=by
 refine wpS_bind (wpS_lift (wpAny_rule ⟨rfl,?_⟩));refine wpS_bind (Zi (by lia) fun p hp he=>?_)
 try dsimp -zeta only
 have o0:OutHL lt a b #[p] (a.size-1) b.size:=Zlp SA ha1 he LA;by_cases c1:(a.size-1 == 0)=true
 ·rw[if_pos c1];exact wpS_pure (h _ _ (Like.refl _) (o0.doneA SB c1))
 rw[if_neg c1];by_cases c2:(b.size == 1)=true
 ·rw[if_pos c2];exact wpS_pure (h _ _ (Like.refl _) (o0.firstL SA SB hb0 c2))
 rw[if_neg c2];have n1:1<b.size:=by
  have : ¬ b.size=1:=fun e=>c2 (by simp[e]);lia
 have n2:1<a.size:=by
  have : ¬ a.size-1=0:=fun e=>c1 (by simp[e]);lia
 refine wpS_bind (wpS_get ?_);refine wpS_bind (wpS_mono (wpS_forRange (I:=fun x c st'=>Like st st'/\∃na nb out g,c=(none,na,nb,out,g)/\OutHL lt a b out na nb/\1<=na/\na<=a.size/\2<=nb/\nb<=b.size/\na+nb+x+1<=a.size+b.size)
  (Q:=fun c st'=>Like st st'/\∃r na nb out g,c=(some r,na,nb,out,g)/\Rs lt a b r) ?_ ?_ ⟨Like.refl _,_,_,_,_,rfl,o0,by lia,by lia,by lia,by lia,by lia⟩) ?_)
 ·rintro x c st1 _ hx ⟨lk,na,nb,out,g,rfl,ho,h1,h2,h3,h4,hxx⟩
  try dsimp -zeta only
  refine wpS_bind (wpS_mono (wpS_forRange (I:=fun y c st'=>Like st st'/\∃na nb out ac bc,c=(none,na,nb,out,ac,bc)/\OutHL lt a b out na nb/\1<=na/\na<=a.size/\2<=nb/\nb<=b.size/\na+nb+x+1+(if y=0 then 0 else 1)<=a.size+b.size)
   (Q:=fun c st'=>Like st st'/\((∃r na nb out ac bc,c=(some r,na,nb,out,ac,bc)/\Rs lt a b r)\/∃na nb out ac bc,c=(none,na,nb,out,ac,bc)/\OutHL lt a b out na nb/\1<=na/\na<=a.size/\2<=nb/\nb<=b.size/\na+nb+x+2<=a.size+b.size)) ?_ ?_ ⟨lk,na,nb,out,0,0,rfl,ho,h1,h2,h3,h4,by simp;lia⟩) ?_)
  ·rintro y c st2 _ hy ⟨lk2,na,nb,out,ac,bc,rfl,ho,h1,h2,h3,h4,hxx⟩;have hxx2:na+nb+x+1<=a.size+b.size:=by split at hxx <;> lia
   try dsimp only
   refine wpS_bind (Zi (by lia) fun p hp ep=>?_);refine wpS_bind (Zi (by lia) fun q hq eq=>?_);refine wpS_bind (Zdw hc (lk2.kind.trans hk) (hb p hp) (ha q hq) ?_);cases hbw:lt p q with
   | true =>
    try dsimp only
    rw[if_pos rfl];refine wpS_bind (Zi (by lia) fun p2 hp2 ep2=>?_);have o1:=ho.pushA SA h1 ep2 (by rw[Zai ep2 eq];exact Zff o SB (by lia) ep (o.le_of hbw));by_cases d1:(na-1 == 0)=true
    ·rw[if_pos d1];exact wpS_pure ⟨lk2,.inl ⟨_,_,_,_,_,_,rfl,(o1.doneA SB d1)⟩⟩
    rw[if_neg d1];have m1 : ¬ na-1=0:=fun e=>d1 (by simp[e]);by_cases d2:ac+1>=g
    ·rw[if_pos d2];exact wpS_pure ⟨lk2,.inr ⟨_,_,_,_,_,rfl,o1,by lia,by lia,h3,h4,by lia⟩⟩
    ·rw[if_neg d2];exact wpS_pure ⟨lk2,_,_,_,_,_,rfl,o1,by lia,by lia,h3,h4,by rw[if_neg (by lia)];lia⟩
   | false =>
    try dsimp only
    rw[if_neg Bool.false_ne_true];refine wpS_bind (Zi (by lia) fun p2 hp2 ep2=>?_);have o1:=ho.pushB SB (by lia) ep2 (by rw[Zai ep2 ep];exact Zff o SA h1 eq hbw);by_cases d1:(nb-1 == 1)=true
    ·rw[if_pos d1];exact wpS_pure ⟨lk2,.inl ⟨_,_,_,_,_,_,rfl,(o1.firstL SA SB hb0 d1)⟩⟩
    rw[if_neg d1];have m1 : ¬ nb-1=1:=fun e=>d1 (by simp[e]);by_cases d2:bc+1>=g
    ·rw[if_pos d2];exact wpS_pure ⟨lk2,.inr ⟨_,_,_,_,_,rfl,o1,h1,h2,by lia,by lia,by lia⟩⟩
    ·rw[if_neg d2];exact wpS_pure ⟨lk2,_,_,_,_,_,rfl,o1,h1,h2,by lia,by lia,by rw[if_neg (by lia)];lia⟩
  ·rintro c st2 ⟨lk2,na,nb,out,ac,bc,rfl,ho,h1,h2,h3,h4,hxx⟩;refine⟨lk2,.inr ⟨_,_,_,_,_,rfl,ho,h1,h2,h3,h4,?_⟩⟩;rw[if_neg (by lia)] at hxx;lia
  ·rintro c st2 ⟨lk2,⟨r,na,nb,out,ac,bc,rfl,hr⟩|⟨na,nb,out,ac,bc,rfl,ho,h1,h2,h3,h4,hxx⟩⟩
   ·exact wpS_pure ⟨lk2,_,_,_,_,_,rfl,hr⟩
   try dsimp -zeta only
   refine wpS_bind (wpS_lift (wpAny_rule ⟨rfl,?_⟩))
   try dsimp -zeta only
   refine wpS_bind (wpS_mono (wpS_forRange (I:=fun y c st'=>Like st st'/\∃na nb out g ac bc,c=(none,na,nb,out,g,ac,bc)/\OutHL lt a b out na nb/\1<=na/\na<=a.size/\2<=nb/\nb<=b.size/\na+nb+x+2<=a.size+b.size)
    (Q:=fun c st'=>Like st st'/\((∃r na nb out g ac bc,c=(some r,na,nb,out,g,ac,bc)/\Rs lt a b r)\/∃na nb out g ac bc,c=(none,na,nb,out,g,ac,bc)/\OutHL lt a b out na nb/\1<=na/\na<=a.size/\2<=nb/\nb<=b.size/\na+nb+x+2<=a.size+b.size)) ?_ ?_ ⟨lk2,na,nb,out,_,_,_,rfl,ho,h1,h2,h3,h4,hxx⟩) ?_)
   ·rintro y c st3 _ hy ⟨lk3,na,nb,out,g3,ac,bc,rfl,ho,h1,h2,h3,h4,hxx⟩
    try dsimp only
    refine wpS_mono (Q:=HiP lt a b st x) ?_ (fun r st' h=>by cases r <;> exact h)
    have hiq:∀{st4},Like st st4->HiQ lt a b st4 (na+nb) (HiP lt a b st x):=fun lk4=>⟨fun r na nb out g ac bc hr=>⟨lk4,.inl ⟨r,na,nb,out,g,ac,bc,rfl,hr⟩⟩,fun na nb out g ac bc ho h1 h2 h3 h4 hN=>⟨⟨lk4,.inr ⟨na,nb,out,g,ac,bc,rfl,ho,h1,h2,h3,h4,by lia⟩⟩,⟨lk4,na,nb,out,g,ac,bc,rfl,ho,h1,h2,h3,h4,by lia⟩⟩⟩;by_cases g1:g3 > 1
    ·rw[if_pos g1];refine wpS_bind (wpS_modify ?_);have lk4:=lk3.trans (Z1 st3 (g3-1));refine wpS_bind (Zi (by lia) fun p0 w0 e0=>?_);refine wpS_bind (Zaz o hc (lk4.kind.trans hk) (hb p0 w0) ha (by lia) (by lia) (ZfQ SA _ _) fun k hk1 F1 F2=>?_);dsimp only;by_cases k0:na-k > 0
     ·rw[if_pos k0];have o1:=ho.extA SA (k:=k) (by lia) (fun x hx=>Zff o SB (by lia) e0 (ZlC F2 o x hx));by_cases c1:(k == 0)=true
      ·rw[if_pos c1];exact wpS_pure ⟨lk4,.inl ⟨_,_,_,_,_,_,_,rfl,(o1.doneA SB c1)⟩⟩
      rw[if_neg c1];have n1 : ¬ k=0:=fun e=>c1 (by simp[e]);refine ZgV o hc (lk4.kind.trans hk) ha hb hb0 SA SB (N:=na+nb) (hiq lk4) o1 (by lia) (by lia) h3 h4 (by lia) (fun p e=>by rw[Zai e e0];exact ZgQ F1) ?_;exact fun _ _=>rfl
     ·rw[if_neg k0];refine ZgV o hc (lk4.kind.trans hk) ha hb hb0 SA SB (N:=na+nb) (hiq lk4) ho h1 h2 h3 h4 (Nat.le_refl _) (fun p e=>by rw[Zai e e0];exact ZgQ fun i hi=>F1 i (by lia)) ?_;exact fun _ _=>rfl
    ·rw[if_neg g1];refine wpS_bind (wpS_modify ?_);have lk4:=lk3.trans (Z1 st3 g3);refine wpS_bind (Zi (by lia) fun p0 w0 e0=>?_);refine wpS_bind (Zaz o hc (lk4.kind.trans hk) (hb p0 w0) ha (by lia) (by lia) (ZfQ SA _ _) fun k hk1 F1 F2=>?_);dsimp only;by_cases k0:na-k > 0
     ·rw[if_pos k0];have o1:=ho.extA SA (k:=k) (by lia) (fun x hx=>Zff o SB (by lia) e0 (ZlC F2 o x hx));by_cases c1:(k == 0)=true
      ·rw[if_pos c1];exact wpS_pure ⟨lk4,.inl ⟨_,_,_,_,_,_,_,rfl,(o1.doneA SB c1)⟩⟩
      rw[if_neg c1];have n1 : ¬ k=0:=fun e=>c1 (by simp[e]);refine ZgV o hc (lk4.kind.trans hk) ha hb hb0 SA SB (N:=na+nb) (hiq lk4) o1 (by lia) (by lia) h3 h4 (by lia) (fun p e=>by rw[Zai e e0];exact ZgQ F1) ?_;exact fun _ _=>rfl
     ·rw[if_neg k0];refine ZgV o hc (lk4.kind.trans hk) ha hb hb0 SA SB (N:=na+nb) (hiq lk4) ho h1 h2 h3 h4 (Nat.le_refl _) (fun p e=>by rw[Zai e e0];exact ZgQ fun i hi=>F1 i (by lia)) ?_;exact fun _ _=>rfl
   ·rintro c st3 ⟨lk3,na,nb,out,g3,ac,bc,rfl,ho,h1,h2,h3,h4,hxx⟩;exact⟨lk3,.inr ⟨_,_,_,_,_,_,rfl,ho,h1,h2,h3,h4,hxx⟩⟩
   ·rintro c st3 ⟨lk3,⟨r,na,nb,out,g3,ac,bc,rfl,hr⟩|⟨na,nb,out,g3,ac,bc,rfl,ho,h1,h2,h3,h4,hxx⟩⟩
    ·exact wpS_pure ⟨lk3,_,_,_,_,_,rfl,hr⟩
    ·try dsimp only
     refine wpS_bind (wpS_modify ?_);exact wpS_pure ⟨lk3.trans (Z1 _ _),_,_,_,_,rfl,ho,h1,h2,h3,h4,by lia⟩
 ·rintro c st1 ⟨lk,na,nb,out,g,rfl,ho,h1,h2,h3,h4,hx⟩;exfalso;lia
 ·rintro c st1 ⟨lk,r,na,nb,out,g,rfl,hr⟩;exact wpS_pure (h r st1 lk hr)
end
structure Pl(lo hi:Nat)(st st':SortSt):Prop where
 pm:Pm st st'
 out:∀i,i<lo\/hi<=i->(arrOf st')[i]?= (arrOf st)[i]?
theorem Pl.refl(lo hi:Nat)(st:SortSt):Pl lo hi st st:=⟨Pm.refl _,fun _ _=>rfl⟩
theorem Pl.trans{lo hi:Nat}{a b c:SortSt}(x:Pl lo hi a b)(y:Pl lo hi b c):Pl lo hi a c:=⟨x.pm.trans y.pm,fun i h=>(y.out i h).trans (x.out i h)⟩
theorem Pl.mirror{lo hi i j:Nat}(st:SortSt)(h1:lo<=i)(h2:j<=hi)(hj:j<=(arrOf st).size):Pl lo hi st (setArr st (mirror (arrOf st) i j ((j-i) / 2))):=⟨Pm.mirror st i j,fun k hk=>by
 show(PyProof.Rows.mirror (arrOf st) i j ((j-i) / 2))[k]?= _;rw[getElem?_mirror_all hj,if_neg (by lia)]⟩
theorem Pl.bubble{lo hi src dst:Nat}(st:SortSt)(h1:lo<=dst)(h2:dst<=src)(h3:src<hi)(hs:src<(arrOf st).size):Pl lo hi st (setArr st (bubble (arrOf st) src (src-dst))):=⟨Pm.bubble st src dst,fun k hk=>by
 show(PyProof.Rows.bubble (arrOf st) src (src-dst))[k]?= _;rw[getElem?_bubble hs _ (by lia),if_neg (by lia),if_neg (by lia)]⟩
section
variable{lt:Keyed->Keyed->Bool}{arr:Array Keyed}{lo hi m:Nat}{p q:Keyed}
def Dn(lt:Keyed->Keyed->Bool)(arr:Array Keyed)(i j:Nat):Prop := ∀x y p q,i<=x->x<y->y<j->arr[x]?= some p->arr[y]?= some q->Le lt q p
def Eqv(lt:Keyed->Keyed->Bool)(arr:Array Keyed)(i j:Nat):Prop := ∀x y p q,i<=x->x<j->i<=y->y<j->arr[x]?= some p->arr[y]?= some q->Le lt p q
theorem Zj1:Up lt arr lo (lo+1):=fun x y _ _ h1 h2 h3=>by lia
theorem Zk9:Dn lt arr lo (lo+1):=fun x y _ _ h1 h2 h3=>by lia
theorem Up.ext(o:Swo lt)(h:Up lt arr lo m)(hm:lo<m)(hp:arr[m-1]?= some p)(hq:arr[m]?= some q)(hle:Le lt p q):Up lt arr lo (m+1):=fun x y u v h1 h2 h3 eu ev=>by
 by_cases hy:y<m
 ·exact h x y u v h1 h2 hy eu ev
 obtain rfl:y=m:=by lia
 rw[hq] at ev;cases ev;by_cases hx:x=y-1
 ·rw[hx,hp] at eu;cases eu;exact hle
 ·exact o.le_trans (h x (y-1) u p h1 (by lia) (by lia) eu hp) hle
theorem Dn.ext(o:Swo lt)(h:Dn lt arr lo m)(hm:lo<m)(hp:arr[m-1]?= some p)(hq:arr[m]?= some q)(hle:Le lt q p):Dn lt arr lo (m+1):=fun x y u v h1 h2 h3 eu ev=>by
 by_cases hy:y<m
 ·exact h x y u v h1 h2 hy eu ev
 obtain rfl:y=m:=by lia
 rw[hq] at ev;cases ev;by_cases hx:x=y-1
 ·rw[hx,hp] at eu;cases eu;exact hle
 ·exact o.le_trans hle (h x (y-1) u p h1 (by lia) (by lia) eu hp)
theorem Dn.mirror(h:Dn lt arr lo hi)(hs:hi<=arr.size):Up lt (mirror arr lo hi ((hi-lo) / 2)) lo hi:=fun x y u v h1 h2 h3 eu ev=>by
 rw[getElem?_mirror_all hs,if_pos (by lia)] at eu ev;exact h (lo+hi-1-y) (lo+hi-1-x) v u (by lia) (by lia) (by lia) ev eu
theorem Up.mirror(h:Up lt arr lo hi)(hs:hi<=arr.size):Dn lt (mirror arr lo hi ((hi-lo) / 2)) lo hi:=fun x y u v h1 h2 h3 eu ev=>by
 rw[getElem?_mirror_all hs,if_pos (by lia)] at eu ev;exact h (lo+hi-1-y) (lo+hi-1-x) v u (by lia) (by lia) (by lia) ev eu
theorem Dn.turn(h:Dn lt arr lo hi)(he:Eqv lt arr m hi)(hm:lo<=m)(hs:hi<=arr.size):Dn lt (PyProof.Rows.mirror arr m hi ((hi-m) / 2)) lo hi:=fun x y u v h1 h2 h3 eu ev=>by
 rw[getElem?_mirror_all hs] at eu ev;by_cases hy:m<=y/\y<hi
 ·rw[if_pos hy] at ev;by_cases hx:m<=x/\x<hi
  ·rw[if_pos hx] at eu;exact he _ _ _ _ (by lia) (by lia) (by lia) (by lia) ev eu
  ·rw[if_neg hx] at eu;exact h x (m+hi-1-y) u v h1 (by lia) (by lia) eu ev
 ·rw[if_neg hy] at ev;rw[if_neg (by lia)] at eu;exact h x y u v h1 h2 h3 eu ev
end
section
variable{prog:Program}{w:World}{A:Around}{E:Value->Shared->Prop}{s:Shared}{κ : SortKind}{Ok:Keyed->Prop}{st:SortSt}{lt:Keyed->Keyed->Bool}
theorem Zay{i j:Nat}{Q:Option Bool->SortSt->Prop}(hc:Zhp prog w A s κ Ok lt)(hk:kindOf st= κ)(ho:∀p∈(arrOf st).toList,Ok p)(hi:i<(arrOf st).size)(hj:j<(arrOf st).size)(h:∀p q,(arrOf st)[i]?= some p->(arrOf st)[j]?= some q->Q (some (lt p q)) st):wpS (model prog w) A E s (ltAt' i j) Q st:=by
 rw[ltAt'_eq];refine wpS_bind (wpS_get ?_);refine wpS_bind (Zi hi fun p hp e1=>wpS_bind (Zi hj fun q hq e2=>?_));exact Zdw hc hk (ho p hp) (ho q hq) (h p q e1 e2)
theorem Zbj{i j:Nat}{Q:PUnit->SortSt->Prop}(h:Q ⟨⟩ (setArr st (mirror (arrOf st) i j ((j-i) / 2)))):wpS (model prog w) A E s (reverseSlice' i j) Q st:=by
 rw[reverseSlice'_eq];exact wpS_modify h
theorem Ziq{i j:Nat}{Q:PUnit->SortSt->Prop}(h:Q ⟨⟩ (setArr st (bubble (arrOf st) i (i-j)))):wpS (model prog w) A E s (moveDown' i j) Q st:=by
 rw[moveDown'_eq];exact wpS_modify h
theorem Zk7(o:Swo lt){arr:Array Keyed}{lo k l:Nat}{pv:Keyed}(h:Up lt arr lo (lo+k))(hs:lo+k<arr.size)(hl:l<=k)(ep:arr[lo+k]?= some pv)(h1:∀i p,i<l->arr[lo+i]?= some p->Le lt p pv)(h2:∀i p,l<=i->i<k->arr[lo+i]?= some p->lt pv p=true) :
  Up lt (bubble arr (lo+k) (lo+k-(lo+l))) lo (lo+k+1):=fun x y u v a1 a2 a3 eu ev=>by
 rw[getElem?_bubble hs _ (by lia)] at eu ev;rw[show lo+k-(lo+k-(lo+l))=lo+l by lia] at eu ev;by_cases hy:y=lo+l
 ·rw[if_pos hy,ep] at ev;cases ev;rw[if_neg (by lia),if_neg (by lia)] at eu;exact h1 (x-lo) u (by lia) (by rw[show lo+(x-lo)=x by lia];exact eu)
 rw[if_neg hy] at ev;by_cases hx:x=lo+l
 ·rw[if_pos hx,ep] at eu;cases eu;rw[if_pos (by lia)] at ev;exact o.le_of (h2 (y-1-lo) v (by lia) (by lia) (by rw[show lo+(y-1-lo)=y-1 by lia];exact ev))
 rw[if_neg hx] at eu;by_cases hy2:lo+l<y/\y<=lo+k
 ·rw[if_pos hy2] at ev;by_cases hx2:lo+l<x/\x<=lo+k
  ·rw[if_pos hx2] at eu;exact h (x-1) (y-1) u v (by lia) (by lia) (by lia) eu ev
  ·rw[if_neg hx2] at eu;exact h x (y-1) u v (by lia) (by lia) (by lia) eu ev
 ·rw[if_neg hy2] at ev;rw[if_neg (by lia)] at eu;exact h x y u v (by lia) (by lia) (by lia) eu ev
set_option maxHeartbeats 1000000 in
theorem Zf7{lo n ok:Nat}{Q:Bool->SortSt->Prop}(o:Swo lt)(hc:Zhp prog w A s κ Ok lt)(hk:kindOf st= κ)(ho:∀p∈(arrOf st).toList,Ok p)(hn:lo+n<=(arrOf st).size)(hok:ok<=n)(hn1:1<=n)(hu:Up lt (arrOf st) lo (lo+ok))(h:∀st',Pl lo (lo+n) st st'->Up lt (arrOf st') lo (lo+n)->Q true st'):wpS (model prog w) A E s (binarySort' lo n ok) Q st:=by
 have hu0:Up lt (arrOf st) lo (lo+max ok 1):=by
  by_cases h0:ok=0
  ·rw[h0];exact Zj1
  ·rw[show max ok 1=ok by lia];exact hu
 refine wpS_bind (wpS_mono (wpS_forRange (I:=fun x c st'=>c=(none,())/\Pl lo (lo+n) st st'/\Up lt (arrOf st') lo (lo+x)) (Q:=fun c st'=>c=(none,())/\Pl lo (lo+n) st st'/\Up lt (arrOf st') lo (lo+n)) ?_ ?_ ⟨rfl,Pl.refl _ _ _,hu0⟩) ?_)
 ·rintro k c st1 hk1 hkn ⟨rfl,pl,u1⟩
  try dsimp only
  have hsz:=pl.pm.size;obtain⟨pv,epv⟩:∃pv,(arrOf st1)[lo+k]?= some pv:=⟨_,getElem?_pos _ (lo+k) (by lia)⟩;refine wpS_bind (wpS_mono (wpS_forRange (I:=fun y c st'=>st'=st1/\∃l r,c=(none,l,r)/\l<=r/\r<=k/\(∀i p,i<l->(arrOf st1)[lo+i]?= some p->Le lt p pv)/\(∀i p,r<=i->i<k->(arrOf st1)[lo+i]?= some p->lt pv p=true)/\r-l+y<=k)
   (Q:=fun c st'=>st'=st1/\∃l r,c=(none,l,r)/\l=r/\r<=k/\(∀i p,i<l->(arrOf st1)[lo+i]?= some p->Le lt p pv)/\(∀i p,r<=i->i<k->(arrOf st1)[lo+i]?= some p->lt pv p=true)) ?_ ?_ ⟨rfl,0,k,rfl,by lia,by lia,fun i p hi=>by lia,fun i p h1 h2=>by lia,by lia⟩) ?_)
  ·rintro y c st2 _ _ ⟨rfl,l,r,rfl,h1,h2,h3,h4,h5⟩
   try dsimp only
   by_cases hlr:l>=r
   ·rw[if_pos hlr];exact wpS_pure ⟨rfl,l,r,rfl,by lia,h2,h3,h4⟩
   rw[if_neg hlr];refine wpS_bind (Zay hc (pl.pm.kind.trans hk) (pl.pm.ok ho) (by lia) (by lia) fun p q e1 e2=>?_);rw[epv] at e1;cases e1;cases hb:lt pv q with
   | true =>
    refine wpS_pure ⟨rfl,_,_,rfl,by lia,by lia,h3,fun i p hi1 hi2 ei=>?_,by lia⟩;by_cases e:i=(l+r) / 2
    ·rw[e,e2] at ei;cases ei;exact hb
    ·exact o.lt_le hb (u1 _ _ q p (by lia) (show lo+(l+r) / 2<lo+i by lia) (by lia) e2 ei)
   | false =>
    refine wpS_pure ⟨rfl,_,_,rfl,by lia,by lia,fun i p hi1 ei=>?_,h4,by lia⟩;by_cases e:i=(l+r) / 2
    ·rw[e,e2] at ei;cases ei;exact hb
    ·exact o.le_trans (u1 _ _ p q (by lia) (show lo+i<lo+(l+r) / 2 by lia) (by lia) ei e2) hb
  ·rintro c st2 ⟨rfl,l,r,rfl,h1,h2,h3,h4,h5⟩;exact⟨rfl,l,r,rfl,by lia,h2,h3,h4⟩
  ·rintro c st2 ⟨rfl,l,r,rfl,rfl,h2,h3,h4⟩
   try dsimp only
   refine wpS_bind (Ziq ?_);exact wpS_pure ⟨rfl,pl.trans (Pl.bubble st2 (by lia) (by lia) (by lia) (by lia)),Zk7 o u1 (by lia) h2 epv h3 h4⟩
 ·rintro c st1 ⟨rfl,pl,u1⟩;rw[show max (max ok 1) n=n by lia] at u1;exact⟨rfl,pl,u1⟩
 ·rintro c st1 ⟨rfl,pl,u1⟩;exact wpS_pure (h st1 pl u1)
set_option maxHeartbeats 4000000 in
theorem ZhD{lo nrem:Nat}{Q:Option Nat->SortSt->Prop}(o:Swo lt)(hc:Zhp prog w A s κ Ok lt)(hk:kindOf st= κ)(ho:∀p∈(arrOf st).toList,Ok p)(h1:1<=nrem)(hn:lo+nrem<=(arrOf st).size)(h:∀n st',1<=n->n<=nrem->Pl lo (lo+nrem) st st'->Up lt (arrOf st') lo (lo+n)->Q (some n) st'):wpS (model prog w) A E s (countRun' lo nrem) Q st:=by
 refine wpS_bind (wpS_mono (wpS_forRange (I:=fun x c st'=>st'=st/\∃n,c=(none,n)/\n=x/\Up lt (arrOf st) lo (lo+n)) (Q:=fun c st'=>st'=st/\∃n,c=(none,n)/\1<=n/\n<=nrem/\Up lt (arrOf st) lo (lo+n)/\(n=nrem\/∀p q,(arrOf st)[lo+n]?= some p->(arrOf st)[lo+n-1]?= some q->lt p q=true)) ?_ ?_ ⟨rfl,1,rfl,rfl,Zj1⟩) ?_)
 ·rintro x c st1 hx1 hx ⟨rfl,n,rfl,rfl,u1⟩
  try dsimp only
  refine wpS_bind (Zay hc hk ho (by lia) (by lia) fun p q e1 e2=>?_);cases hb:lt p q with
  | true=>exact wpS_pure ⟨rfl,n,rfl,by lia,by lia,u1,.inr fun p' q' f1 f2=>by rw[e1] at f1;rw[e2] at f2;cases f1;cases f2;exact hb⟩
  | false=>exact wpS_pure ⟨rfl,n+1,rfl,rfl,u1.ext (m:=lo+n) o (by lia) e2 e1 hb⟩
 ·rintro c st1 ⟨rfl,n,rfl,rfl,u1⟩;exact⟨rfl,_,rfl,by lia,by lia,u1,.inl (by lia)⟩
 ·rintro c st1 ⟨rfl,n,rfl,n1,n2,u1,hstop⟩
  try dsimp only
  by_cases e1:(n == nrem)=true
  ·rw[if_pos e1];exact wpS_pure (h n st1 n1 n2 (Pl.refl _ _ _) u1)
  rw[if_neg e1];have n3:n<nrem:=by
   have : ¬ n=nrem:=fun e=>e1 (by simp[e]);lia
  have hstop2:=hstop.resolve_left (by lia);obtain⟨pn,epn⟩:∃p,(arrOf st1)[lo+n]?= some p:=⟨_,getElem?_pos _ (lo+n) (by lia)⟩;obtain⟨pm,epm⟩:∃p,(arrOf st1)[lo+n-1]?= some p:=⟨_,getElem?_pos _ (lo+n-1) (by lia)⟩;have hless:=hstop2 pn pm epn epm;by_cases e2:n > 1
  ·rw[if_pos e2];refine wpS_bind (Zay hc hk ho (by lia) (by lia) fun p q f1 f2=>?_);cases hb:lt p q with
   | true =>
    try dsimp only
    rw[if_pos rfl];exact wpS_pure (h n st1 n1 n2 (Pl.refl _ _ _) u1)
   | false =>
    try dsimp only
    rw[if_neg Bool.false_ne_true];refine wpS_bind (Zbj ?_);have p2:=Pl.mirror (lo:=lo) (hi:=lo+nrem) (i:=lo) (j:=lo+n) st1 (by lia) (by lia) (by lia);have d2:Dn lt (arrOf (setArr st1 (mirror (arrOf st1) lo (lo+n) ((lo+n-lo) / 2)))) lo (lo+n):=u1.mirror (by lia);have d3:Dn lt (arrOf (setArr st1 (mirror (arrOf st1) lo (lo+n) ((lo+n-lo) / 2)))) lo (lo+(n+1)):=by
     refine d2.ext (m:=lo+n) o (by lia) (p:=p) (q:=pn) ?_ ?_ ?_
     ·show(mirror (arrOf st1) lo (lo+n) ((lo+n-lo) / 2))[lo+n-1]?= some p;rw[getElem?_mirror_all (by lia),if_pos (by lia),show lo+(lo+n)-1-(lo+n-1)=lo by lia];exact f1
     ·show(mirror (arrOf st1) lo (lo+n) ((lo+n-lo) / 2))[lo+n]?= some pn;rw[getElem?_mirror_all (by lia),if_neg (by lia)];exact epn
     ·rw[epm] at f2;cases f2;exact o.le_trans (o.le_of hless) hb
    generalize setArr st1 (mirror (arrOf st1) lo (lo+n) ((lo+n-lo) / 2))=st2 at p2 d3;refine wpS_bind (wpS_lift (wpAny_rule ⟨rfl,?_⟩));refine wpS_bind (wpS_mono (wpS_forRange (I:=fun x c st'=>Pl lo (lo+nrem) st1 st'/\∃n q,c=(none,n,q)/\n=x/\1<=n/\q+1<=n/\Dn lt (arrOf st') lo (lo+n)/\Eqv lt (arrOf st') (lo+n-(q+1)) (lo+n)) (Q:=fun c st'=>Pl lo (lo+nrem) st1 st'/\∃n q,c=(none,n,q)/\1<=n/\n<=nrem/\q+1<=n/\Dn lt (arrOf st') lo (lo+n)/\Eqv lt (arrOf st') (lo+n-(q+1)) (lo+n)) ?_ ?_ ⟨p2,n+1,0,rfl,rfl,by lia,by lia,d3,fun x y u v a1 a2 a3 a4 eu ev=>by obtain rfl:x=y:=(by lia);rw[eu] at ev;cases ev;exact o.le_refl _⟩) ?_)
    ·rintro x c st3 hx1 hx ⟨p3,n,q,rfl,rfl,m1,m2,d3,q3⟩;have z3:=p3.pm.size
     try dsimp only
     refine wpS_bind (Zay hc (p3.pm.kind.trans hk) (p3.pm.ok ho) (by lia) (by lia) fun p1 p0 e1 e0=>?_);cases hb:lt p1 p0 with
     | true =>
      try dsimp only
      rw[if_pos rfl];by_cases q0:q > 0
      ·rw[if_pos q0];refine wpS_bind (Zbj ?_);have p4:=Pl.mirror (lo:=lo) (hi:=lo+nrem) (i:=lo+n-(q+1)) (j:=lo+n) st3 (by lia) (by lia) (by lia);have d4:=d3.turn q3 (by lia) (by lia);refine wpS_pure ⟨p3.trans p4,n+1,0,rfl,rfl,by lia,by lia,?_,fun x y u v a1 a2 a3 a4 eu ev=>by obtain rfl:x=y:=(by lia);rw[eu] at ev;cases ev;exact o.le_refl _⟩;obtain⟨p5,e5⟩:∃p5,(arrOf (setArr st3 (mirror (arrOf st3) (lo+n-(q+1)) (lo+n) ((lo+n-(lo+n-(q+1))) / 2))))[lo+n-1]?= some p5:=⟨_,getElem?_pos _ (lo+n-1) (by show _<(mirror _ _ _ _).size;rw[mirror_size];lia)⟩;refine d4.ext (m:=lo+n) o (by lia) e5 (q:=p1) ?_ ?_
       ·show(mirror (arrOf st3) (lo+n-(q+1)) (lo+n) ((lo+n-(lo+n-(q+1))) / 2))[lo+n]?= some p1;rw[getElem?_mirror_all (by lia),if_neg (by lia)];exact e1
       ·have e6:(mirror (arrOf st3) (lo+n-(q+1)) (lo+n) ((lo+n-(lo+n-(q+1))) / 2))[lo+n-1]?= some p5:=e5;rw[getElem?_mirror_all (by lia),if_pos (by lia)] at e6;exact o.le_trans (o.le_of hb) (q3 _ _ p0 p5 (show lo+n-(q+1)<=lo+n-1 by lia) (by lia) (by lia) (by lia) e0 e6)
      ·rw[if_neg q0];exact wpS_pure ⟨p3,n+1,0,rfl,rfl,by lia,by lia,d3.ext (m:=lo+n) o (by lia) e0 e1 (o.le_of hb),fun x y u v a1 a2 a3 a4 eu ev=>by obtain rfl:x=y:=(by lia);rw[eu] at ev;cases ev;exact o.le_refl _⟩
     | false =>
      try dsimp only
      rw[if_neg Bool.false_ne_true];refine wpS_bind (Zay hc (p3.pm.kind.trans hk) (p3.pm.ok ho) (by lia) (by lia) fun p0' p1' e0' e1'=>?_);rw[e0] at e0';rw[e1] at e1';cases e0';cases e1';cases hb2:lt p0 p1 with
      | true=>exact wpS_pure ⟨p3,n,q,rfl,m1,by lia,m2,d3,q3⟩
      | false =>
       refine wpS_pure ⟨p3,n+1,q+1,rfl,rfl,by lia,by lia,d3.ext (m:=lo+n) o (by lia) e0 e1 hb2,fun x y u v a1 a2 a3 a4 eu ev=>?_⟩;have one:∀x u,lo+(n+1)-(q+1+1)<=x->x<lo+(n+1)->(arrOf st3)[x]?= some u->Le lt u p0/\Le lt p0 u:=fun x u a1 a2 eu=>by
        by_cases hx:x=lo+n
        ·rw[hx,e1] at eu;cases eu;exact⟨hb2,hb⟩
        ·exact⟨q3 x (lo+n-1) u p0 (by lia) (by lia) (by lia) (by lia) eu e0,q3 (lo+n-1) x p0 u (by lia) (by lia) (by lia) (by lia) e0 eu⟩
       exact o.le_trans (one x u a1 a2 eu).1 (one y v a3 a4 ev).2
    ·rintro c st3 ⟨p3,n',q,rfl,rfl,m1,m2,d3,q3⟩;exact⟨p3,_,q,rfl,m1,by lia,m2,d3,q3⟩
    ·rintro c st3 ⟨p3,n,q,rfl,m1,mn,m2,d3,q3⟩;have z3:=p3.pm.size
     try dsimp only
     by_cases q0:q > 0
     ·rw[if_pos q0];refine wpS_bind (Zbj ?_);have p4:=Pl.mirror (lo:=lo) (hi:=lo+nrem) (i:=lo+n-(q+1)) (j:=lo+n) st3 (by lia) (by lia) (by lia);have d4:=d3.turn q3 (by lia) (by lia);have z4:=p4.pm.size;generalize hst4:setArr st3 (mirror (arrOf st3) (lo+n-(q+1)) (lo+n) ((lo+n-(lo+n-(q+1))) / 2))=st4 at p4 z4;have d5:Dn lt (arrOf st4) lo (lo+n):=by rw[<- hst4];exact d4
      refine wpS_bind (Zbj ?_);have p6:=(p3.trans p4).trans (Pl.mirror (lo:=lo) (hi:=lo+nrem) (i:=lo) (j:=lo+n) st4 (by lia) (by lia) (by lia));have u6:Up lt (arrOf (setArr st4 (mirror (arrOf st4) lo (lo+n) ((lo+n-lo) / 2)))) lo (lo+n):=d5.mirror (by lia);have z6:=p6.pm.size;generalize setArr st4 (mirror (arrOf st4) lo (lo+n) ((lo+n-lo) / 2))=st5 at p6 u6 z6;refine wpS_bind (wpS_mono (wpS_forRange (I:=fun x c st'=>st'=st5/\∃k,c=(none,k)/\k=x/\Up lt (arrOf st5) lo (lo+k)) (Q:=fun c st'=>st'=st5/\∃k,c=(none,k)/\n<=k/\k<=nrem/\Up lt (arrOf st5) lo (lo+k)) ?_ ?_ ⟨rfl,n,rfl,rfl,u6⟩) ?_)
      ·rintro x c st7 hx1 hx2 ⟨rfl,k,rfl,rfl,u7⟩
       try dsimp only
       refine wpS_bind (Zay hc (p6.pm.kind.trans hk) (p6.pm.ok ho) (by lia) (by lia) fun p q e1 e2=>?_);cases hb:lt p q with
       | true=>exact wpS_pure ⟨rfl,k,rfl,by lia,by lia,u7⟩
       | false=>exact wpS_pure ⟨rfl,k+1,rfl,rfl,u7.ext (m:=lo+k) o (by lia) e2 e1 hb⟩
      ·rintro c st7 ⟨rfl,k,rfl,rfl,u7⟩;exact⟨rfl,max n nrem,rfl,by lia,by lia,u7⟩
      ·rintro c st7 ⟨rfl,k,rfl,k1,k2,u7⟩;exact wpS_pure (h k _ (by lia) k2 p6 u7)
     ·rw[if_neg q0];refine wpS_bind (Zbj ?_);have p6:=p3.trans (Pl.mirror (lo:=lo) (hi:=lo+nrem) (i:=lo) (j:=lo+n) st3 (by lia) (by lia) (by lia));have u6:Up lt (arrOf (setArr st3 (mirror (arrOf st3) lo (lo+n) ((lo+n-lo) / 2)))) lo (lo+n):=d3.mirror (by lia);have z6:=p6.pm.size;generalize setArr st3 (mirror (arrOf st3) lo (lo+n) ((lo+n-lo) / 2))=st5 at p6 u6 z6;refine wpS_bind (wpS_mono (wpS_forRange (I:=fun x c st'=>st'=st5/\∃k,c=(none,k)/\k=x/\Up lt (arrOf st5) lo (lo+k)) (Q:=fun c st'=>st'=st5/\∃k,c=(none,k)/\n<=k/\k<=nrem/\Up lt (arrOf st5) lo (lo+k)) ?_ ?_ ⟨rfl,n,rfl,rfl,u6⟩) ?_)
      ·rintro x c st7 hx1 hx2 ⟨rfl,k,rfl,rfl,u7⟩
       try dsimp only
       refine wpS_bind (Zay hc (p6.pm.kind.trans hk) (p6.pm.ok ho) (by lia) (by lia) fun p q e1 e2=>?_);cases hb:lt p q with
       | true=>exact wpS_pure ⟨rfl,k,rfl,by lia,by lia,u7⟩
       | false=>exact wpS_pure ⟨rfl,k+1,rfl,rfl,u7.ext (m:=lo+k) o (by lia) e2 e1 hb⟩
      ·rintro c st7 ⟨rfl,k,rfl,rfl,u7⟩;exact⟨rfl,max n nrem,rfl,by lia,by lia,u7⟩
      ·rintro c st7 ⟨rfl,k,rfl,k1,k2,u7⟩;exact wpS_pure (h k _ (by lia) k2 p6 u7)
  ·rw[if_neg e2];have p2:=Pl.refl lo (lo+nrem) st1;have d3:Dn lt (arrOf st1) lo (lo+(n+1)):=by
    obtain rfl:n=1:=by lia
    exact Zk9.ext (m:=lo+1) o (by lia) epm epn (o.le_of hless)
   refine wpS_bind (wpS_lift (wpAny_rule ⟨rfl,?_⟩));refine wpS_bind (wpS_mono (wpS_forRange (I:=fun x c st'=>Pl lo (lo+nrem) st1 st'/\∃n q,c=(none,n,q)/\n=x/\1<=n/\q+1<=n/\Dn lt (arrOf st') lo (lo+n)/\Eqv lt (arrOf st') (lo+n-(q+1)) (lo+n)) (Q:=fun c st'=>Pl lo (lo+nrem) st1 st'/\∃n q,c=(none,n,q)/\1<=n/\n<=nrem/\q+1<=n/\Dn lt (arrOf st') lo (lo+n)/\Eqv lt (arrOf st') (lo+n-(q+1)) (lo+n)) ?_ ?_ ⟨p2,n+1,0,rfl,rfl,by lia,by lia,d3,fun x y u v a1 a2 a3 a4 eu ev=>by obtain rfl:x=y:=(by lia);rw[eu] at ev;cases ev;exact o.le_refl _⟩) ?_)
   ·rintro x c st3 hx1 hx ⟨p3,n,q,rfl,rfl,m1,m2,d3,q3⟩;have z3:=p3.pm.size
    try dsimp only
    refine wpS_bind (Zay hc (p3.pm.kind.trans hk) (p3.pm.ok ho) (by lia) (by lia) fun p1 p0 e1 e0=>?_);cases hb:lt p1 p0 with
    | true =>
     try dsimp only
     rw[if_pos rfl];by_cases q0:q > 0
     ·rw[if_pos q0];refine wpS_bind (Zbj ?_);have p4:=Pl.mirror (lo:=lo) (hi:=lo+nrem) (i:=lo+n-(q+1)) (j:=lo+n) st3 (by lia) (by lia) (by lia);have d4:=d3.turn q3 (by lia) (by lia);refine wpS_pure ⟨p3.trans p4,n+1,0,rfl,rfl,by lia,by lia,?_,fun x y u v a1 a2 a3 a4 eu ev=>by obtain rfl:x=y:=(by lia);rw[eu] at ev;cases ev;exact o.le_refl _⟩;obtain⟨p5,e5⟩:∃p5,(arrOf (setArr st3 (mirror (arrOf st3) (lo+n-(q+1)) (lo+n) ((lo+n-(lo+n-(q+1))) / 2))))[lo+n-1]?= some p5:=⟨_,getElem?_pos _ (lo+n-1) (by show _<(mirror _ _ _ _).size;rw[mirror_size];lia)⟩;refine d4.ext (m:=lo+n) o (by lia) e5 (q:=p1) ?_ ?_
      ·show(mirror (arrOf st3) (lo+n-(q+1)) (lo+n) ((lo+n-(lo+n-(q+1))) / 2))[lo+n]?= some p1;rw[getElem?_mirror_all (by lia),if_neg (by lia)];exact e1
      ·have e6:(mirror (arrOf st3) (lo+n-(q+1)) (lo+n) ((lo+n-(lo+n-(q+1))) / 2))[lo+n-1]?= some p5:=e5;rw[getElem?_mirror_all (by lia),if_pos (by lia)] at e6;exact o.le_trans (o.le_of hb) (q3 _ _ p0 p5 (show lo+n-(q+1)<=lo+n-1 by lia) (by lia) (by lia) (by lia) e0 e6)
     ·rw[if_neg q0];exact wpS_pure ⟨p3,n+1,0,rfl,rfl,by lia,by lia,d3.ext (m:=lo+n) o (by lia) e0 e1 (o.le_of hb),fun x y u v a1 a2 a3 a4 eu ev=>by obtain rfl:x=y:=(by lia);rw[eu] at ev;cases ev;exact o.le_refl _⟩
    | false =>
     try dsimp only
     rw[if_neg Bool.false_ne_true];refine wpS_bind (Zay hc (p3.pm.kind.trans hk) (p3.pm.ok ho) (by lia) (by lia) fun p0' p1' e0' e1'=>?_);rw[e0] at e0';rw[e1] at e1';cases e0';cases e1';cases hb2:lt p0 p1 with
     | true=>exact wpS_pure ⟨p3,n,q,rfl,m1,by lia,m2,d3,q3⟩
     | false =>
      refine wpS_pure ⟨p3,n+1,q+1,rfl,rfl,by lia,by lia,d3.ext (m:=lo+n) o (by lia) e0 e1 hb2,fun x y u v a1 a2 a3 a4 eu ev=>?_⟩;have one:∀x u,lo+(n+1)-(q+1+1)<=x->x<lo+(n+1)->(arrOf st3)[x]?= some u->Le lt u p0/\Le lt p0 u:=fun x u a1 a2 eu=>by
       by_cases hx:x=lo+n
       ·rw[hx,e1] at eu;cases eu;exact⟨hb2,hb⟩
       ·exact⟨q3 x (lo+n-1) u p0 (by lia) (by lia) (by lia) (by lia) eu e0,q3 (lo+n-1) x p0 u (by lia) (by lia) (by lia) (by lia) e0 eu⟩
      exact o.le_trans (one x u a1 a2 eu).1 (one y v a3 a4 ev).2
   ·rintro c st3 ⟨p3,n',q,rfl,rfl,m1,m2,d3,q3⟩;exact⟨p3,_,q,rfl,m1,by lia,m2,d3,q3⟩
   ·rintro c st3 ⟨p3,n,q,rfl,m1,mn,m2,d3,q3⟩;have z3:=p3.pm.size
    try dsimp only
    by_cases q0:q > 0
    ·rw[if_pos q0];refine wpS_bind (Zbj ?_);have p4:=Pl.mirror (lo:=lo) (hi:=lo+nrem) (i:=lo+n-(q+1)) (j:=lo+n) st3 (by lia) (by lia) (by lia);have d4:=d3.turn q3 (by lia) (by lia);have z4:=p4.pm.size;generalize hst4:setArr st3 (mirror (arrOf st3) (lo+n-(q+1)) (lo+n) ((lo+n-(lo+n-(q+1))) / 2))=st4 at p4 z4;have d5:Dn lt (arrOf st4) lo (lo+n):=by rw[<- hst4];exact d4
     refine wpS_bind (Zbj ?_);have p6:=(p3.trans p4).trans (Pl.mirror (lo:=lo) (hi:=lo+nrem) (i:=lo) (j:=lo+n) st4 (by lia) (by lia) (by lia));have u6:Up lt (arrOf (setArr st4 (mirror (arrOf st4) lo (lo+n) ((lo+n-lo) / 2)))) lo (lo+n):=d5.mirror (by lia);have z6:=p6.pm.size;generalize setArr st4 (mirror (arrOf st4) lo (lo+n) ((lo+n-lo) / 2))=st5 at p6 u6 z6;refine wpS_bind (wpS_mono (wpS_forRange (I:=fun x c st'=>st'=st5/\∃k,c=(none,k)/\k=x/\Up lt (arrOf st5) lo (lo+k)) (Q:=fun c st'=>st'=st5/\∃k,c=(none,k)/\n<=k/\k<=nrem/\Up lt (arrOf st5) lo (lo+k)) ?_ ?_ ⟨rfl,n,rfl,rfl,u6⟩) ?_)
     ·rintro x c st7 hx1 hx2 ⟨rfl,k,rfl,rfl,u7⟩
      try dsimp only
      refine wpS_bind (Zay hc (p6.pm.kind.trans hk) (p6.pm.ok ho) (by lia) (by lia) fun p q e1 e2=>?_);cases hb:lt p q with
      | true=>exact wpS_pure ⟨rfl,k,rfl,by lia,by lia,u7⟩
      | false=>exact wpS_pure ⟨rfl,k+1,rfl,rfl,u7.ext (m:=lo+k) o (by lia) e2 e1 hb⟩
     ·rintro c st7 ⟨rfl,k,rfl,rfl,u7⟩;exact⟨rfl,max n nrem,rfl,by lia,by lia,u7⟩
     ·rintro c st7 ⟨rfl,k,rfl,k1,k2,u7⟩;exact wpS_pure (h k _ (by lia) k2 p6 u7)
    ·rw[if_neg q0];refine wpS_bind (Zbj ?_);have p6:=p3.trans (Pl.mirror (lo:=lo) (hi:=lo+nrem) (i:=lo) (j:=lo+n) st3 (by lia) (by lia) (by lia));have u6:Up lt (arrOf (setArr st3 (mirror (arrOf st3) lo (lo+n) ((lo+n-lo) / 2)))) lo (lo+n):=d3.mirror (by lia);have z6:=p6.pm.size;generalize setArr st3 (mirror (arrOf st3) lo (lo+n) ((lo+n-lo) / 2))=st5 at p6 u6 z6;refine wpS_bind (wpS_mono (wpS_forRange (I:=fun x c st'=>st'=st5/\∃k,c=(none,k)/\k=x/\Up lt (arrOf st5) lo (lo+k)) (Q:=fun c st'=>st'=st5/\∃k,c=(none,k)/\n<=k/\k<=nrem/\Up lt (arrOf st5) lo (lo+k)) ?_ ?_ ⟨rfl,n,rfl,rfl,u6⟩) ?_)
     ·rintro x c st7 hx1 hx2 ⟨rfl,k,rfl,rfl,u7⟩
      try dsimp only
      refine wpS_bind (Zay hc (p6.pm.kind.trans hk) (p6.pm.ok ho) (by lia) (by lia) fun p q e1 e2=>?_);cases hb:lt p q with
      | true=>exact wpS_pure ⟨rfl,k,rfl,by lia,by lia,u7⟩
      | false=>exact wpS_pure ⟨rfl,k+1,rfl,rfl,u7.ext (m:=lo+k) o (by lia) e2 e1 hb⟩
     ·rintro c st7 ⟨rfl,k,rfl,rfl,u7⟩;exact⟨rfl,max n nrem,rfl,by lia,by lia,u7⟩
     ·rintro c st7 ⟨rfl,k,rfl,k1,k2,u7⟩;exact wpS_pure (h k _ (by lia) k2 p6 u7)
end
theorem Zh8:∀{l:List (Nat×Nat×Nat)}{lo hi:Nat},Cov l lo hi->∀z∈l,lo<=z.1
 | [],_,_,_,z,hz=>(nomatch hz)
 | x::r,lo,hi,⟨a,b,c⟩,z,hz=>by
  rcases List.mem_cons.mp hz with rfl|hz
  ·lia
  ·have:=Zh8 c z hz;lia
theorem Zkk:∀{l:List (Nat×Nat×Nat)}{lo hi:Nat},Cov l lo hi->∀z∈l,z.1+z.2.1<=hi
 | [],_,_,_,z,hz=>(nomatch hz)
 | x::r,lo,hi,⟨a,b,c⟩,z,hz=>by
  rcases List.mem_cons.mp hz with rfl|hz
  ·have:=c.le;lia
  ·exact Zkk c z hz
theorem Zec:∀{l:List (Nat×Nat×Nat)}{i lo hi sa na p sb nb q:Nat},Cov l lo hi->l[i]?= some (sa,na,p)->l[i+1]?= some (sb,nb,q) ->
  ∀z∈(l.set i (sa,na+nb,p)).eraseIdx (i+1),z=(sa,na+nb,p)\/z∈l/\(z.1+z.2.1<=sa\/sb+nb<=z.1)
 | x::y::r,0,lo,hi,sa,na,p,sb,nb,q,⟨a,b,c1,c2,c3⟩,h1,h2,z,hz=>by
  have e1:x=(sa,na,p):=by simpa using h1
  have e2:y=(sb,nb,q):=by simpa using h2
  subst e1;subst e2;have hz':z∈(sa,na+nb,p)::r:=hz;rcases List.mem_cons.mp hz' with hz|hz
  ·exact .inl hz
  ·refine .inr ⟨List.mem_cons_of_mem _ (List.mem_cons_of_mem _ hz),.inr ?_⟩;have:=Zh8 c3 z hz;have c1':sb=lo+na:=c1;have this':lo+na+nb<=z.1:=this;lia
 | x::r,i+1,lo,hi,sa,na,p,sb,nb,q,⟨a,b,c⟩,h1,h2,z,hz=>by
  have h1':r[i]?= some (sa,na,p):=by simpa using h1
  have hz':z∈x::((r.set i (sa,na+nb,p)).eraseIdx (i+1)):=hz;rcases List.mem_cons.mp hz' with rfl|hz
  ·refine .inr ⟨List.mem_cons_self ..,.inl ?_⟩;have:=Zh8 c _ (List.mem_of_getElem? h1');have this':lo+z.2.1<=sa:=this;lia
  ·rcases Zec (l:=r) (i:=i) c h1' (by simpa using h2) z hz with h|⟨h,h'⟩
   ·exact .inl h
   ·exact .inr ⟨List.mem_cons_of_mem _ h,h'⟩
 | [x],0,_,_,_,_,_,_,_,_,_,_,h2,_,_=>by simp at h2
 | [],_,_,_,_,_,_,_,_,_,_,h1,_,_,_=>by simp at h1
theorem Zhu{L r:List Keyed}{m:Nat}(h:m+r.length<=L.length)(x:Nat):(L.take m++r++L.drop (m+r.length))[x]?= if x<m then L[x]? else if x<m+r.length then r[x-m]? else L[x]? := by
 have hm:(L.take m).length=m:=by rw[List.length_take];lia
 by_cases h1:x<m
 ·rw[if_pos h1,List.append_assoc,List.getElem?_append_left (by lia),List.getElem?_take_of_lt h1]
 rw[if_neg h1];by_cases h2:x<m+r.length
 ·rw[if_pos h2,List.getElem?_append_left (by rw[List.length_append];lia),List.getElem?_append_right (by lia),hm]
 ·rw[if_neg h2,List.getElem?_append_right (by rw[List.length_append];lia),List.getElem?_drop,List.length_append,hm]
  congr 1
  lia
section
variable{lt:Keyed->Keyed->Bool}{κ : SortKind}
structure SBL(lt:Keyed->Keyed->Bool)(a₀ : Array Keyed)(κ : SortKind)(hi:Nat)(st:SortSt):Prop where
 sb:SB a₀ κ hi st
 ups:∀z∈(pendingOf st).toList,Up lt (arrOf st) z.1 (z.1+z.2.1)
theorem Up.same{arr arr':Array Keyed}{i j:Nat}(h:Up lt arr i j)(e:∀x,i<=x->x<j->arr'[x]?= arr[x]?):Up lt arr' i j:=fun x y p q h1 h2 h3 ep eq=>by
 rw[e x (by lia) (by lia)] at ep;rw[e y (by lia) (by lia)] at eq;exact h x y p q h1 h2 h3 ep eq
theorem SBL.pl{a₀ : Array Keyed}{hi hi':Nat}{st st':SortSt}(x:SBL lt a₀ κ hi st)(p:Pl hi hi' st st'):SBL lt a₀ κ hi st':=⟨x.sb.pm p.pm,fun z hz=>by
 rw[p.pm.pend] at hz;have h1:=Zkk x.sb.cov z hz;exact(x.ups z hz).same fun i _ h=>p.out i (.inl (by lia))⟩
end
section
variable{prog:Program}{w:World}{A:Around}{E:Value->Shared->Prop}{s:Shared}{κ : SortKind}{Ok:Keyed->Prop}{st:SortSt}{lt:Keyed->Keyed->Bool}
set_option maxHeartbeats 4000000 in
theorem Zb6{a₀ : Array Keyed}{hi i:Nat}{Q:Bool->SortSt->Prop}(o:Swo lt)(hc:Zhp prog w A s κ Ok lt)(h0:∀p∈a₀.toList,Ok p)(hL:SBL lt a₀ κ hi st)(hh:hi<=a₀.size)(hi1:i+1<(pendingOf st).size)
  (h:∀st',SBL lt a₀ κ hi st'->(∀x,hi<=x->(arrOf st')[x]?= (arrOf st)[x]?)->(pendingOf st').size+1=(pendingOf st).size->Q true st'):wpS (model prog w) A E s (mergeAt' i) Q st:=by
 have hB:=hL.sb;refine wpS_bind (wpS_get ?_);obtain⟨⟨sa,na,p⟩,e1⟩:∃x,(pendingOf st)[i]?= some x:=⟨_,getElem?_pos _ i (by lia)⟩;obtain⟨⟨sb,nb,q⟩,e2⟩:∃x,(pendingOf st)[i+1]?= some x:=⟨_,getElem?_pos _ (i+1) hi1⟩;obtain⟨k1,k2,k3,k4,k5⟩:=hB.cov.at (i:=i) (by rw[<- e1];simp) (by rw[<- e2];simp);have e3:((pendingOf st)[i]?,(pendingOf st)[i+1]?)=(some (sa,na,p),some (sb,nb,q)):=by rw[e1,e2]
 have hsz:=hB.size;have l1:(pendingOf st).toList[i]?= some (sa,na,p):=by rw[<- e1];simp
 have l2:(pendingOf st).toList[i+1]?= some (sb,nb,q):=by rw[<- e2];simp
 have ua:Up lt (arrOf st) sa (sa+na):=hL.ups _ (List.mem_of_getElem? l1);have ub:Up lt (arrOf st) sb (sb+nb):=hL.ups _ (List.mem_of_getElem? l2);have oth:=Zec hB.cov l1 l2;show wpS _ _ _ _ (match ((pendingOf st)[i]?,(pendingOf st)[i+1]?) with|(some (sa,na,power),some (sb,nb,_))=>_|_=>_) Q st
 rw[e1,e2];dsimp only;have hpl:(((pendingOf st).setIfInBounds i (sa,na+nb,p)).eraseIdxIfInBounds (i+1)).toList=((pendingOf st).toList.set i (sa,na+nb,p)).eraseIdx (i+1):=by
  simp
 have hps:((((pendingOf st).setIfInBounds i (sa,na+nb,p)).eraseIdxIfInBounds (i+1)).size+1=(pendingOf st).size):=by
  have:=congrArg List.length hpl;rw[Array.length_toList,List.length_eraseIdx,List.length_set,Array.length_toList,if_pos hi1] at this;lia
 have hB1:SB a₀ κ hi (SortSt.mk' (kindOf st) (arrOf st) (((pendingOf st).setIfInBounds i (sa,na+nb,p)).eraseIdxIfInBounds (i+1)) (gallopOf st) (failedOf st)):=⟨hB.arr,hB.kind,hB.fail,by
  show Cov (((pendingOf st).setIfInBounds i (sa,na+nb,p)).eraseIdxIfInBounds (i+1)).toList 0 hi;rw[hpl];exact k5⟩
 have hok:=hB.ok h0;have fin:∀st':SortSt,SB a₀ κ hi st'->(pendingOf st').toList=((pendingOf st).toList.set i (sa,na+nb,p)).eraseIdx (i+1)->(∀x,x<sa\/sb+nb<=x->(arrOf st')[x]?= (arrOf st)[x]?)->Up lt (arrOf st') sa (sa+(na+nb))->SBL lt a₀ κ hi st':=fun st' hB' hp he hu=>⟨hB',fun z hz=>by
  rw[hp] at hz;rcases oth z hz with rfl|⟨hz,hd⟩
  ·exact hu
  ·exact(hL.ups z hz).same fun x h1 h2=>he x (by lia)⟩
 have exm:∀(arr:Array Keyed)(x y:Nat){p:Keyed},p∈(arr.extract x y).toList->p∈arr.toList:=fun arr x y p hp=>by
  rw[Array.toList_extract,List.extract_eq_drop_take] at hp;exact List.mem_of_mem_drop (List.mem_of_mem_take hp)
 refine wpS_bind (ZhX ?_);refine wpS_bind (Zi (arr:=arrOf st) (by lia) fun p1 m1 ep1=>?_);refine wpS_bind (Zaz (a:=arrOf st) o hc hB1.kind (hok p1 m1) hok (by lia) (by lia) ua fun k hk F1 F2=>?_);dsimp only;have low1:∀i u,i<k->(arrOf st)[sa+i]?= some u->Le lt u p1:=fun i u hi eu=>by
  have h3:=F1 i hi;unfold BV at h3;rw[eu] at h3;have h4:(!lt p1 u)=true:=h3;show lt p1 u=false
  simpa using h4
 have hig1:∀i u,k<=i->i<na->(arrOf st)[sa+i]?= some u->Le lt p1 u:=fun i u h1 h2 eu=>by
  have h3:=F2 i h1 h2;unfold BV at h3;rw[eu] at h3;have h4:(!lt p1 u)=false:=h3;exact o.le_of (by simpa using h4)
 have p1le:∀y v,sb<=y->y<sb+nb->(arrOf st)[y]?= some v->Le lt p1 v:=fun y v h1 h2 ev=>by
  by_cases e:y=sb
  ·rw[e,ep1] at ev;cases ev;exact o.le_refl _
  ·exact ub sb y p1 v (by lia) (by lia) h2 ep1 ev
 by_cases c1:(na-k == 0)=true
 ·rw[if_pos c1];have ek:k=na:=by
   have:=eq_of_beq c1;lia
  refine wpS_pure (h _ (fin _ hB1 hpl (fun _ _=>rfl) ?_) (fun _ _=>rfl) hps);intro x y u v a1 a2 a3 eu ev;have eu':(arrOf st)[x]?= some u:=eu;have ev':(arrOf st)[y]?= some v:=ev;by_cases hy:y<sb
  ·exact ua x y u v a1 a2 (by lia) eu' ev'
  by_cases hx:sb<=x
  ·exact ub x y u v hx a2 (by lia) eu' ev'
  exact o.le_trans (low1 (x-sa) u (by lia) (by rw[show sa+(x-sa)=x by lia];exact eu')) (p1le y v (by lia) (by lia) ev')
 rw[if_neg c1];have n1 : ¬ na-k=0:=fun e=>c1 (by simp[e]);refine wpS_bind (Zi (arr:=arrOf st) (by lia) fun p2 m2 ep2=>?_);refine wpS_bind (Zaz (a:=arrOf st) o hc hB1.kind (hok p2 m2) hok (by lia) (by lia) ub fun nb' hnb G1 G2=>?_);dsimp only;have ep2':(arrOf st)[sb-1]?= some p2:=by
  rw[<- ep2]
  congr 1
  lia
 have lep2:∀x u,sa<=x->x<sb->(arrOf st)[x]?= some u->Le lt u p2:=fun x u h1 h2 eu=>by
  by_cases e:x=sb-1
  ·rw[e,ep2'] at eu;cases eu;exact o.le_refl _
  ·exact ua x (sb-1) u p2 h1 (by lia) (by lia) eu ep2'
 have low2:∀i u,i<nb'->(arrOf st)[sb+i]?= some u->Le lt u p2:=fun i u hi eu=>by
  have h3:=G1 i hi;unfold BV at h3;rw[eu] at h3;exact o.le_of h3
 have hig2:∀i u,nb'<=i->i<nb->(arrOf st)[sb+i]?= some u->Le lt p2 u:=fun i u h1 h2 eu=>by
  have h3:=G2 i h1 h2;unfold BV at h3;rw[eu] at h3;exact h3
 by_cases c2:(nb' == 0)=true
 ·rw[if_pos c2];have ek:nb'=0:=eq_of_beq c2;refine wpS_pure (h _ (fin _ hB1 hpl (fun _ _=>rfl) ?_) (fun _ _=>rfl) hps);intro x y u v a1 a2 a3 eu ev;have eu':(arrOf st)[x]?= some u:=eu;have ev':(arrOf st)[y]?= some v:=ev;by_cases hy:y<sb
  ·exact ua x y u v a1 a2 (by lia) eu' ev'
  by_cases hx:sb<=x
  ·exact ub x y u v hx a2 (by lia) eu' ev'
  exact o.le_trans (lep2 x u a1 (by lia) eu') (hig2 (y-sb) v (by lia) (by lia) (by rw[show sb+(y-sb)=y by lia];exact ev'))
 rw[if_neg c2];have n2 : ¬ nb'=0:=fun e=>c2 (by simp[e]);have xs:((arrOf st).extract (sa+k) sb).size=na-k:=by
  rw[Array.size_extract];lia
 have ys:((arrOf st).extract sb (sb+nb')).size=nb':=by
  rw[Array.size_extract];lia
 have SX:So lt ((arrOf st).extract (sa+k) sb).toList:=List.pairwise_iff_getElem.mpr fun x y hx hy hxy=>by
  rw[Array.length_toList] at hx hy;have ex:((arrOf st).extract (sa+k) sb)[x]?= (arrOf st)[sa+k+x]? := by rw[Array.getElem?_extract,if_pos (by lia)]
  have ey:((arrOf st).extract (sa+k) sb)[y]?= (arrOf st)[sa+k+y]? := by rw[Array.getElem?_extract,if_pos (by lia)]
  rw[<- Array.getElem?_toList,List.getElem?_eq_getElem (by rw[Array.length_toList];exact hx)] at ex;rw[<- Array.getElem?_toList,List.getElem?_eq_getElem (by rw[Array.length_toList];exact hy)] at ey;exact ua _ _ _ _ (by lia) (show sa+k+x<sa+k+y by lia) (by lia) ex.symm ey.symm
 have SY:So lt ((arrOf st).extract sb (sb+nb')).toList:=List.pairwise_iff_getElem.mpr fun x y hx hy hxy=>by
  rw[Array.length_toList] at hx hy;have ex:((arrOf st).extract sb (sb+nb'))[x]?= (arrOf st)[sb+x]? := by rw[Array.getElem?_extract,if_pos (by lia)]
  have ey:((arrOf st).extract sb (sb+nb'))[y]?= (arrOf st)[sb+y]? := by rw[Array.getElem?_extract,if_pos (by lia)]
  rw[<- Array.getElem?_toList,List.getElem?_eq_getElem (by rw[Array.length_toList];exact hx)] at ex;rw[<- Array.getElem?_toList,List.getElem?_eq_getElem (by rw[Array.length_toList];exact hy)] at ey;exact ub _ _ _ _ (by lia) (show sb+x<sb+y by lia) (by lia) ex.symm ey.symm
 have HB0:∀p,((arrOf st).extract sb (sb+nb'))[0]?= some p->∀y∈((arrOf st).extract (sa+k) sb).toList,Le lt p y:=fun p ep y hy=>by
  rw[Array.getElem?_extract,if_pos (by lia),Nat.add_zero,ep1] at ep;cases ep;obtain⟨m,h1,h2,e⟩:=Zb2 hy;exact hig1 (m-sa) y (by lia) (by lia) (by rw[show sa+(m-sa)=m by lia];exact e)
 have HLA:∀x∈((arrOf st).extract sb (sb+nb')).toList,∀q,((arrOf st).extract (sa+k) sb)[((arrOf st).extract (sa+k) sb).size-1]?= some q->Le lt x q:=fun x hx q eq=>by
  rw[xs,Array.getElem?_extract,if_pos (by lia),show sa+k+(na-k-1)=sb-1 by lia,ep2'] at eq;cases eq;obtain⟨m,h1,h2,e⟩:=Zb2 hx;exact low2 (m-sb) x (by lia) (by rw[show sb+(m-sb)=m by lia];exact e)
 have whole:∀(r:Array Keyed)(arr':Array Keyed),Rs lt ((arrOf st).extract (sa+k) sb) ((arrOf st).extract sb (sb+nb')) r->r.toList.length=(na-k)+nb'->arr'.toList=(arrOf st).toList.take (sa+k)++r.toList++(arrOf st).toList.drop (sa+k+r.toList.length) ->
   (∀x,x<sa\/sb+nb<=x->arr'[x]?= (arrOf st)[x]?)/\Up lt arr' sa (sa+(na+nb)):=fun r arr' hr hrl ha=>by
  have get:∀x,arr'[x]?= if x<sa+k then(arrOf st)[x]? else if x<sa+k+r.toList.length then r.toList[x-(sa+k)]? else(arrOf st)[x]? := fun x=>by
   rw[<- Array.getElem?_toList,ha,Zhu (by have hll:(arrOf st).toList.length=(arrOf st).size:=Array.length_toList;lia),Array.getElem?_toList]
  have inr:∀u,u∈r.toList->(∃m,sa+k<=m/\m<sb/\(arrOf st)[m]?= some u)\/∃m,sb<=m/\m<sb+nb'/\(arrOf st)[m]?= some u:=fun u hu=>by
   rcases List.mem_append.mp (hr.perm.mem_iff.mp hu) with hu|hu
   ·exact .inl (Zb2 hu)
   ·exact .inr (Zb2 hu)
  refine⟨fun x hx=>?_,fun x y u v a1 a2 a3 eu ev=>?_⟩
  ·rw[get];by_cases h1:x<sa+k
   ·rw[if_pos h1]
   ·rw[if_neg h1,if_neg (by lia)]
  rw[get] at eu ev;by_cases hx1:x<sa+k
  ·rw[if_pos hx1] at eu;have hu1:=low1 (x-sa) u (by lia) (by rw[show sa+(x-sa)=x by lia];exact eu);by_cases hy1:y<sa+k
   ·rw[if_pos hy1] at ev;exact ua x y u v a1 a2 (by lia) eu ev
   rw[if_neg hy1] at ev;by_cases hy2:y<sa+k+r.toList.length
   ·rw[if_pos hy2] at ev;rcases inr v (List.mem_of_getElem? ev) with⟨m,b1,b2,e⟩|⟨m,b1,b2,e⟩
    ·exact ua x m u v a1 (by lia) (by lia) eu e
    ·exact o.le_trans hu1 (p1le m v b1 (by lia) e)
   ·rw[if_neg hy2] at ev;exact o.le_trans hu1 (p1le y v (by lia) (by lia) ev)
  rw[if_neg hx1] at eu;rw[if_neg (by lia)] at ev;by_cases hx2:x<sa+k+r.toList.length
  ·rw[if_pos hx2] at eu;by_cases hy2:y<sa+k+r.toList.length
   ·rw[if_pos hy2] at ev;obtain⟨hx3,rfl⟩:=List.getElem?_eq_some_iff.mp eu;obtain⟨hy3,rfl⟩:=List.getElem?_eq_some_iff.mp ev;exact(List.pairwise_iff_getElem.mp hr.sort) _ _ hx3 hy3 (by lia)
   ·rw[if_neg hy2] at ev;rcases inr u (List.mem_of_getElem? eu) with⟨m,b1,b2,e⟩|⟨m,b1,b2,e⟩
    ·exact o.le_trans (lep2 m u (by lia) b2 e) (hig2 (y-sb) v (by lia) (by lia) (by rw[show sb+(y-sb)=y by lia];exact ev))
    ·exact ub m y u v b1 (by lia) (by lia) e ev
  ·rw[if_neg hx2] at eu;rw[if_neg (by lia)] at ev;exact ub x y u v (by lia) a2 (by lia) eu ev
 by_cases c3:na-k<=nb'
 ·rw[if_pos c3];refine wpS_bind (Zfz (a:=(arrOf st).extract (sa+k) sb) (b:=(arrOf st).extract sb (sb+nb')) o hc hB1.kind (fun p hp=>hok p (exm _ _ _ hp)) (fun p hp=>hok p (exm _ _ _ hp)) (by rw[xs];lia) (by rw[ys];lia) SX SY HB0 HLA fun r st2 lk hr=>?_);refine wpS_bind (wpS_modify ?_);refine wpS_bind (wpS_get ?_);have hf:failedOf st2=none:=lk.fail.trans hB.fail;have hr2:r.toList.Perm (((arrOf st).toList.drop (sa+k)).take ((na-k)+nb')):=by
   refine hr.perm.trans (List.Perm.of_eq ?_);rw[Array.toList_extract,Array.toList_extract,ZgP _ (by lia) (by lia)]
   congr 1
   lia
  have hrl:r.toList.length=(na-k)+nb':=by
   rw[hr2.length_eq,List.length_take,List.length_drop,Array.length_toList];lia
  show wpS _ _ _ _ (pure (failedOf st2).isNone) Q _;rw[hf];have hnew:(List.foldl (fun(a:Array Keyed)(x:Keyed×Nat)=>a.setIfInBounds (sa+k+x.2) x.1) (arrOf st2) r.toList.zipIdx).toList=(arrOf st).toList.take (sa+k)++r.toList++(arrOf st).toList.drop (sa+k+r.toList.length):=by
   rw[lk.arr,ZeD _ _ _ (by show sa+k+r.toList.length<=(arrOf st).size;lia)]
  obtain⟨w1,w2⟩:=whole r _ hr hrl hnew;refine wpS_pure (h _ (fin _ ⟨?_,lk.kind.trans hB.kind,hf,?_⟩ (by show(pendingOf st2).toList=_;rw[lk.pend];exact hpl) w1 w2) (fun x hx=>w1 x (.inr (by lia))) ?_)
  ·show(List.foldl (fun(a:Array Keyed)(x:Keyed×Nat)=>a.setIfInBounds (sa+k+x.2) x.1) (arrOf st2) r.toList.zipIdx).toList.Perm a₀.toList;rw[hnew];exact(Zdb hr2 hrl).trans hB.arr
  ·show Cov (pendingOf st2).toList 0 hi;rw[lk.pend];exact hB1.cov
  ·show(pendingOf st2).size+1=_;rw[lk.pend];exact hps
 ·rw[if_neg c3];refine wpS_bind (Zfe (a:=(arrOf st).extract (sa+k) sb) (b:=(arrOf st).extract sb (sb+nb')) o hc hB1.kind (fun p hp=>hok p (exm _ _ _ hp)) (fun p hp=>hok p (exm _ _ _ hp)) (by rw[xs];lia) (by rw[ys];lia) SX SY HB0 HLA fun r st2 lk hr=>?_);refine wpS_bind (wpS_modify ?_);refine wpS_bind (wpS_get ?_);have hf:failedOf st2=none:=lk.fail.trans hB.fail;have hr2:r.toList.Perm (((arrOf st).toList.drop (sa+k)).take ((na-k)+nb')):=by
   refine hr.perm.trans (List.Perm.of_eq ?_);rw[Array.toList_extract,Array.toList_extract,ZgP _ (by lia) (by lia)]
   congr 1
   lia
  have hrl:r.toList.length=(na-k)+nb':=by
   rw[hr2.length_eq,List.length_take,List.length_drop,Array.length_toList];lia
  show wpS _ _ _ _ (pure (failedOf st2).isNone) Q _;rw[hf];have hnew:(List.foldl (fun(a:Array Keyed)(x:Keyed×Nat)=>a.setIfInBounds (sa+k+x.2) x.1) (arrOf st2) r.toList.zipIdx).toList=(arrOf st).toList.take (sa+k)++r.toList++(arrOf st).toList.drop (sa+k+r.toList.length):=by
   rw[lk.arr,ZeD _ _ _ (by show sa+k+r.toList.length<=(arrOf st).size;lia)]
  obtain⟨w1,w2⟩:=whole r _ hr hrl hnew;refine wpS_pure (h _ (fin _ ⟨?_,lk.kind.trans hB.kind,hf,?_⟩ (by show(pendingOf st2).toList=_;rw[lk.pend];exact hpl) w1 w2) (fun x hx=>w1 x (.inr (by lia))) ?_)
  ·show(List.foldl (fun(a:Array Keyed)(x:Keyed×Nat)=>a.setIfInBounds (sa+k+x.2) x.1) (arrOf st2) r.toList.zipIdx).toList.Perm a₀.toList;rw[hnew];exact(Zdb hr2 hrl).trans hB.arr
  ·show Cov (pendingOf st2).toList 0 hi;rw[lk.pend];exact hB1.cov
  ·show(pendingOf st2).size+1=_;rw[lk.pend];exact hps
end
section
variable{prog:Program}{w:World}{A:Around}{E:Value->Shared->Prop}{s:Shared}{κ : SortKind}{Ok:Keyed->Prop}{st:SortSt}{lt:Keyed->Keyed->Bool}
set_option maxHeartbeats 4000000 in
theorem ZiX{a₀ : Array Keyed}{Q:Unit->SortSt->Prop}(o:Swo lt)(hc:Zhp prog w A s κ Ok lt)(h0:∀p∈a₀.toList,Ok p)(hB:SBL lt a₀ κ 0 st)(h:∀st',(arrOf st').toList.Perm a₀.toList->So lt (arrOf st').toList->failedOf st'=none->Q () st'):wpS (model prog w) A E s sortRuns' Q st:=by
 refine wpS_bind (wpS_get ?_);have hsz:=hB.sb.size;show wpS _ _ _ _ (forIn [:(arrOf st).size] _ _ >>= _) Q st;rw[hsz];refine wpS_bind (wpS_mono (wpS_forRange (I:=fun x c st'=>∃lo,c=(none,lo)/\lo<=a₀.size/\SBL lt a₀ κ lo st'/\x<=lo) (Q:=fun c st'=>∃lo,c=(none,lo)/\lo=a₀.size/\SBL lt a₀ κ lo st') ?_ (fun c st' ⟨lo,z1,z2,z3,z4⟩=>⟨lo,z1,by lia,z3⟩) ⟨0,rfl,Nat.zero_le _,hB,Nat.le_refl _⟩) ?_)
 ·rintro x c st1 _ hx ⟨lo,rfl,hlo,hB1,hxl⟩
  try dsimp only
  by_cases c1:lo>=a₀.size
  ·rw[if_pos c1];exact wpS_pure ⟨lo,rfl,by lia,hB1⟩
  rw[if_neg c1];have hs1:=hB1.sb.size;refine wpS_bind (ZhD o hc hB1.sb.kind (hB1.sb.ok h0) (by lia) (by lia) fun n st2 n1 n2 p2 u2=>?_);have hB2:=hB1.pl p2;have hs2:=hB2.sb.size
  try dsimp only
  show wpS _ _ _ _ (if n<minRun' a₀.size a₀.size 0 then _ else _) _ st2
  by_cases c2:n<minRun' a₀.size a₀.size 0
  ·rw[if_pos c2];refine wpS_bind (wpS_lift (wpAny_rule ⟨rfl,?_⟩));refine wpS_bind (Zf7 o hc hB2.sb.kind (hB2.sb.ok h0) (by show lo+min (a₀.size-lo) (minRun' a₀.size a₀.size 0)<=_;lia) (by show n<=min (a₀.size-lo) (minRun' a₀.size a₀.size 0);lia) (by show 1<=min (a₀.size-lo) (minRun' a₀.size a₀.size 0);lia) u2 fun st3 p3 u3=>?_);rw[if_neg (by decide)];have hB3:=hB2.pl p3;have u3':Up lt (arrOf st3) lo (lo+min (a₀.size-lo) (minRun' a₀.size a₀.size 0)):=u3;have hN:1<=min (a₀.size-lo) (minRun' a₀.size a₀.size 0):=by lia
   refine wpS_bind (wpS_get ?_);cases hb:(pendingOf st3).back? with
   | none =>
    dsimp only;refine wpS_bind (wpS_modify ?_);refine wpS_pure ⟨lo+min (a₀.size-lo) (minRun' a₀.size a₀.size 0),rfl,by lia,⟨⟨hB3.sb.arr,hB3.sb.kind,hB3.sb.fail,?_⟩,fun z hz=>?_⟩,by lia⟩
    ·show Cov ((pendingOf st3).push (lo,min (a₀.size-lo) (minRun' a₀.size a₀.size 0),0)).toList 0 (lo+min (a₀.size-lo) (minRun' a₀.size a₀.size 0));rw[Array.toList_push];exact hB3.sb.cov.push hN
    ·have hz':z∈((pendingOf st3).push (lo,min (a₀.size-lo) (minRun' a₀.size a₀.size 0),0)).toList:=hz;rw[Array.toList_push] at hz';rcases List.mem_append.mp hz' with hz'|hz'
     ·exact hB3.ups z hz'
     ·rw[List.mem_singleton.mp hz'];exact u3'
   | some t =>
    obtain⟨s1,n1,q⟩:=t;dsimp only;refine wpS_bind (wpS_mono (wpS_forRange (I:=fun _ c st'=>c=(none,())/\SBL lt a₀ κ lo st'/\∀x,lo<=x->(arrOf st')[x]?= (arrOf st3)[x]?) (Q:=fun c st'=>c=(none,())/\SBL lt a₀ κ lo st'/\∀x,lo<=x->(arrOf st')[x]?= (arrOf st3)[x]?) ?_ (fun _ _ z=>z) ⟨rfl,hB3,fun _ _=>rfl⟩) ?_)
    ·rintro y c st4 _ _ ⟨rfl,hB4,hO4⟩;refine wpS_bind (wpS_get ?_);by_cases g1:(pendingOf st4).size > 1
     ·rw[if_pos g1];obtain⟨⟨a1,a2,older⟩,e⟩:∃x,(pendingOf st4)[(pendingOf st4).size-2]?= some x:=⟨_,getElem?_pos _ _ (by lia)⟩;rw[e];dsimp only
      split
      ·exact wpS_pure ⟨rfl,hB4,hO4⟩
      ·refine wpS_bind (Zb6 o hc h0 hB4 hlo (by show(pendingOf st4).size-2+1<(pendingOf st4).size;lia) fun st5 hB5 hO5 _=>?_);rw[if_neg (by decide)];exact wpS_pure ⟨rfl,hB5,fun x hx=>(hO5 x hx).trans (hO4 x hx)⟩
     ·rw[if_neg g1];exact wpS_pure ⟨rfl,hB4,hO4⟩
    ·rintro c st4 ⟨rfl,hB4,hO4⟩;dsimp only;refine wpS_bind (wpS_modify ?_);refine wpS_bind (wpS_modify ?_);refine wpS_pure ⟨lo+min (a₀.size-lo) (minRun' a₀.size a₀.size 0),rfl,by lia,⟨⟨hB4.sb.arr,hB4.sb.kind,hB4.sb.fail,?_⟩,fun z hz=>?_⟩,by lia⟩
     ·show Cov (Array.push ((pendingOf st4).modify _ _) (lo,min (a₀.size-lo) (minRun' a₀.size a₀.size 0),0)).toList 0 (lo+min (a₀.size-lo) (minRun' a₀.size a₀.size 0));rw[Array.toList_push,Array.toList_modify];refine Cov.push ?_ hN;refine Cov.last _ (fun x=>?_) _ hB4.sb.cov;exact⟨rfl,rfl⟩
     ·change z∈(Array.push ((pendingOf st4).modify _ _) (lo,min (a₀.size-lo) (minRun' a₀.size a₀.size 0),0)).toList at hz;rw[Array.toList_push,Array.toList_modify] at hz;rcases List.mem_append.mp hz with hz|hz
      ·obtain⟨i,hi⟩:=List.mem_iff_getElem?.mp hz;rw[List.getElem?_modify] at hi;obtain⟨z0,hz0,rfl⟩:=Option.map_eq_some_iff.mp hi;have h1:=hB4.ups z0 (List.mem_of_getElem? hz0)
       split
       ·exact h1
       ·exact h1
      ·rw[List.mem_singleton.mp hz];exact u3'.same fun x h1 _=>hO4 x h1
  ·rw[if_neg c2];have hB3:=hB2;have hN:=n1;have u3':=u2;refine wpS_bind (wpS_get ?_);cases hb:(pendingOf st2).back? with
   | none =>
    dsimp only;refine wpS_bind (wpS_modify ?_);refine wpS_pure ⟨lo+n,rfl,by lia,⟨⟨hB3.sb.arr,hB3.sb.kind,hB3.sb.fail,?_⟩,fun z hz=>?_⟩,by lia⟩
    ·show Cov ((pendingOf st2).push (lo,n,0)).toList 0 (lo+n);rw[Array.toList_push];exact hB3.sb.cov.push hN
    ·have hz':z∈((pendingOf st2).push (lo,n,0)).toList:=hz;rw[Array.toList_push] at hz';rcases List.mem_append.mp hz' with hz'|hz'
     ·exact hB3.ups z hz'
     ·rw[List.mem_singleton.mp hz'];exact u3'
   | some t =>
    obtain⟨s1,n1,q⟩:=t;dsimp only;refine wpS_bind (wpS_mono (wpS_forRange (I:=fun _ c st'=>c=(none,())/\SBL lt a₀ κ lo st'/\∀x,lo<=x->(arrOf st')[x]?= (arrOf st2)[x]?) (Q:=fun c st'=>c=(none,())/\SBL lt a₀ κ lo st'/\∀x,lo<=x->(arrOf st')[x]?= (arrOf st2)[x]?) ?_ (fun _ _ z=>z) ⟨rfl,hB3,fun _ _=>rfl⟩) ?_)
    ·rintro y c st4 _ _ ⟨rfl,hB4,hO4⟩;refine wpS_bind (wpS_get ?_);by_cases g1:(pendingOf st4).size > 1
     ·rw[if_pos g1];obtain⟨⟨a1,a2,older⟩,e⟩:∃x,(pendingOf st4)[(pendingOf st4).size-2]?= some x:=⟨_,getElem?_pos _ _ (by lia)⟩;rw[e];dsimp only
      split
      ·exact wpS_pure ⟨rfl,hB4,hO4⟩
      ·refine wpS_bind (Zb6 o hc h0 hB4 hlo (by show(pendingOf st4).size-2+1<(pendingOf st4).size;lia) fun st5 hB5 hO5 _=>?_);rw[if_neg (by decide)];exact wpS_pure ⟨rfl,hB5,fun x hx=>(hO5 x hx).trans (hO4 x hx)⟩
     ·rw[if_neg g1];exact wpS_pure ⟨rfl,hB4,hO4⟩
    ·rintro c st4 ⟨rfl,hB4,hO4⟩;dsimp only;refine wpS_bind (wpS_modify ?_);refine wpS_bind (wpS_modify ?_);refine wpS_pure ⟨lo+n,rfl,by lia,⟨⟨hB4.sb.arr,hB4.sb.kind,hB4.sb.fail,?_⟩,fun z hz=>?_⟩,by lia⟩
     ·show Cov (Array.push ((pendingOf st4).modify _ _) (lo,n,0)).toList 0 (lo+n);rw[Array.toList_push,Array.toList_modify];refine Cov.push ?_ hN;refine Cov.last _ (fun x=>?_) _ hB4.sb.cov;exact⟨rfl,rfl⟩
     ·change z∈(Array.push ((pendingOf st4).modify _ _) (lo,n,0)).toList at hz;rw[Array.toList_push,Array.toList_modify] at hz;rcases List.mem_append.mp hz with hz|hz
      ·obtain⟨i,hi⟩:=List.mem_iff_getElem?.mp hz;rw[List.getElem?_modify] at hi;obtain⟨z0,hz0,rfl⟩:=Option.map_eq_some_iff.mp hi;have h1:=hB4.ups z0 (List.mem_of_getElem? hz0)
       split
       ·exact h1
       ·exact h1
      ·rw[List.mem_singleton.mp hz];exact u3'.same fun x h1 _=>hO4 x h1
 ·rintro c st1 ⟨lo,rfl,rfl,hB1⟩
  try dsimp only
  refine wpS_bind (wpS_mono (wpS_forRange (I:=fun x c st'=>c=(none,())/\SBL lt a₀ κ a₀.size st'/\(pendingOf st').size+x<=a₀.size+1) (Q:=fun c st'=>c=(none,())/\SBL lt a₀ κ a₀.size st'/\(pendingOf st').size<=1) ?_ (fun c st' ⟨z1,z2,z3⟩=>⟨z1,z2,by lia⟩) ⟨rfl,hB1,by have:=hB1.sb.cov.le;rw[Array.length_toList] at this;lia⟩) ?_)
  ·rintro x c st2 _ _ ⟨rfl,hB2,hp2⟩
   try dsimp only
   refine wpS_bind (wpS_get ?_)
   try dsimp only
   by_cases c2:(pendingOf st2).size<=1
   ·rw[if_pos c2];exact wpS_pure ⟨rfl,hB2,c2⟩
   ·rw[if_neg c2];have hx:∀b:Bool,(if b=true then(pendingOf st2).size-2-1 else(pendingOf st2).size-2)+1<(pendingOf st2).size:=fun b=>by
     cases b
     ·rw[if_neg Bool.false_ne_true];lia
     ·rw[if_pos rfl];lia
    refine wpS_bind (Zb6 o hc h0 hB2 (Nat.le_refl _) (hx _) fun st3 hB3 _ hs3=>?_);rw[if_neg (by decide)];exact wpS_pure ⟨rfl,hB3,by lia⟩
  ·rintro c st2 ⟨rfl,hB2,hp2⟩;refine wpS_pure (h st2 hB2.sb.arr ?_ hB2.sb.fail);have hz2:=hB2.sb.size;have hcov:=hB2.sb.cov;have hups:=hB2.ups;have hpl:(pendingOf st2).toList.length<=1:=by rw[Array.length_toList];exact hp2
   match hl:(pendingOf st2).toList,hpl with
   | [],_ =>
    rw[hl] at hcov;have h0:0=a₀.size:=hcov;refine Zlv (n:=0) (fun x y _ _ _ _ h3=>by lia) (by lia)
   | [z],_ =>
    rw[hl] at hcov hups;obtain⟨z1,z2,z3⟩:=hcov;have z3':0+z.2.1=a₀.size:=z3;have hu:=hups z (List.mem_singleton.mpr rfl);rw[z1,z3'] at hu;exact Zlv hu (by lia)
end
end Srd
namespace Srd
open PySem PyProof.Rows Srt PySem.W
section
variable{prog:Program}{w:World}{A:Around}{E:Value->Shared->Prop}{s:Shared}
def ZfF(prog:Program)(w:World)(A:Around)(lv:Value->Value->Bool)(vs:List Value)(s:Shared):Prop :=
 ∃ κ,(∀(Q:SortKind->Shared->Prop)(E:Value->Shared->Prop),Q κ s->wpAny (model prog w) A (keyKind' vs.toArray) Q E s)/\Zhp prog w A s κ (fun p=>p∈(pairsOf vs).toList) fun x y=>lv x.1 y.1
theorem Zdg{vs:List Value}{p:Keyed}(h:p∈(pairsOf vs).toList):p.1=p.2:=by
 rw[pairsOf_toList] at h;obtain⟨i,hi⟩:=List.mem_iff_getElem?.mp h;rw[List.getElem?_zip_eq_some] at hi;have:=hi.1.symm.trans hi.2;exact Option.some.inj this
theorem ZkP{lv:Value->Value->Bool}{vs:List Value}{xs:Array Keyed}(hp:xs.toList.Perm (pairsOf vs).toList)(h:So (fun x y=>lv x.1 y.1) xs.toList):(xs.map (·.2)).toList.Pairwise (fun u v=>lv v u=false):=by
 rw[Array.toList_map,List.pairwise_map];refine List.Pairwise.imp_of_mem (fun{x y} hx hy hxy=>?_) h;have hxy':lv y.1 x.1=false:=hxy;rw[Zdg (hp.mem_iff.mp hx),Zdg (hp.mem_iff.mp hy)] at hxy';exact hxy'
def ZlU:Value->Int
 | .int i _=>i
 | _=>0
def iLt(u v:Value):Bool:=decide (ZlU u<ZlU v)
theorem ZkL:Swo fun x y=>iLt x.1 y.1:=⟨fun x y h=>decide_eq_false (by have:=of_decide_eq_true h;lia),fun x y z h1 h2=>decide_eq_false (by have:=of_decide_eq_false h1;have:=of_decide_eq_false h2;lia)⟩
theorem Zd3{vs:List Value}(hv:∀v∈vs,∃i t,v=Value.int i t)(h2:2<=vs.length):ZfF prog w A iLt vs s:=by
 refine⟨oneType',fun Q E hq=>kas_kind (T:=.type "int") h2 (fun v hm=>?_) rfl rfl hq,?_⟩
 ·obtain⟨i,t,rfl⟩:=hv v hm;exact Looks.of_pure rfl
 ·intro x y hx hy E;rw[pairsOf_toList] at hx hy;obtain⟨i,t,e⟩:=hv _ (mem_zip_self hx).2;obtain⟨i',t',e'⟩:=hv _ (mem_zip_self hy).2;rw[e,e',keyLt'_oneType];refine oneLt_int ⟨rfl,?_⟩;show decide (i<i')=decide (ZlU x.1<ZlU y.1);rw[e,e'];rfl
end
section
variable{prog:Program}{w:World}{A:Around}{E:Value->Shared->Prop}{s:Shared}{T:String}{r d:Addr}{n:Nat}{P:Nat->Value->Prop}{OK:Heap->Prop}
theorem Zge{Q:List Value->Shared->Prop}(K:KdlSrc prog w T r d n P OK)(hh:A.handled=none)(hok:OK s.heap)(hn:n<=sizeLine)
  (q:∀(acc:Array Value)(h':Heap)(tk:Nat),(∀b o,s.heap.get? b=some o->h'.get? b=some o)->ItemsOf P acc n->s.heap.objs.size<=h'.objs.size->Q acc.toList { s with heap:=h',toks:=tk }):wpAny (model prog w) A (collect (.ref r)) Q E s:=by
 unfold collect;refine wpAny_bind (wpAny_runValue (codeAny_builtin entry_proto_collect' ?_));change wpAny _ _ (do again (.builtin "list.__iadd__" ⟨[<- newList [],.ref r],[]⟩)) _ _ s;refine wpAny_bind (wpAny_newList (wpAny_pure ⟨Code.quiet_builtin _ (by decide +kernel),codeAny_builtin entry_list_iadd' ?_⟩));change wpAny _ A.in1 (Builtin.List.listExtendWith (.ref s.heap.objs.size) (.ref r) (.ref s.heap.objs.size)) _ _ { s with heap:=s.heap.push (seqObj "list" #[] 0) };have hlt:=K.there _ hok;refine kdl_extend (R:=wants (fun v s'=>wpAny (model prog w) A (match v with
     | Value.ref a=>do
      let o <- load a
      match o.data with
      | .seq xs _=>pure xs.toList
      | _=>unsupported "internal:collect"
     | _=>unsupported "internal:collect") Q E s') E) (s:={ s with heap:=s.heap.push (seqObj "list" #[] 0) }) K hh (K.keep _ _ hok fun b _ o e=>Heap.get?_push_of_some _ e) s.heap.objs.size (Nat.ne_of_gt hlt.1) (Nat.ne_of_gt hlt.2) _ 0 (Heap.get?_push_size _ rfl) (fun h' tk acc c kp hS hit=>?_) hn
 refine wpAny_bind (wpAny_load hS ?_);refine wpAny_pure ?_;exact q acc h' tk (fun b o e=>kp b o (Nat.ne_of_lt (Heap.lt_size e)) (Heap.get?_push_of_some _ e)) hit (Nat.le_of_lt (Heap.lt_size hS))
end
end Srd
namespace Srd
open PySem PyProof.Rows
theorem ZfI:typeLookup (.type "list") "keys" = pure none:=by rw[typeLookup_type,builtinLookup_eq_fast];kernel_rfl
theorem Zbx:isSubtype (.type "AttributeError") (.type "AttributeError")=pure true:=by rw[isSubtype_type];kernel_rfl
section
variable{prog:Program}{w:World}{A:Around}{E:Value->Shared->Prop}{h:Heap}{g:Array GenState}{d:Drawn}{t:Nat}{os:OsState}{a:Addr}
theorem Zg9{α : Type}{Q : α -> Shared->Prop}{o:Value}{name msg:Str}(hh:A.handled=none)(hm:msg.length<=sizeLine)(hq:∀(x:Addr) (h':Heap) (tk:Nat),(∀b u,h.get? b=some u->h'.get? b=some u)->(∃ob,h'.get? x=some ob/\ob.cls=.type "AttributeError")->h.objs.size<=h'.objs.size->E (.ref x) ⟨h',g,d,tk,os⟩) :
  wpAny (model prog w) A (raiseAttrError o name msg:Sem α) Q E ⟨h,g,d,t,os⟩:=by
 unfold raiseAttrError
 repeat (any_goals (first|assumption|wp_step))
 refine wpAny_of_eq Zbx ?_;rw[if_neg (by decide)];generalize hfa:(if((Manifest.find? "AttributeError").elim false fun t=>t.mro.contains "StopIteration" || t.mro.contains "SystemExit")=true then [Value.str msg t].headD Value.none else Value.none)=fa
 have k1:∀b u,h.get? b=some u->(h.push { cls:=Value.type "tuple",data:=Data.seq #[Value.str msg t] }).get? b=some u:=fun b u e=>Heap.get?_push_of_some _ e;have z1:(h.push { cls:=Value.type "tuple",data:=Data.seq #[Value.str msg t] }).objs.size=h.objs.size+1:=Heap.size_push ..;generalize h.push { cls:=Value.type "tuple",data:=Data.seq #[Value.str msg t] }=h1 at k1 z1;have e1:(h1.push { cls:=Value.type "AttributeError",data:=Data.fields (#[Value.ref h.objs.size,Value.none,Value.none,Value.none,Value.bool false,fa]++ownMembersOf (Value.type "AttributeError") [Value.str msg t]) }).get? h1.objs.size=some { cls:=Value.type "AttributeError",data:=Data.fields (#[Value.ref h.objs.size,Value.none,Value.none,Value.none,Value.bool false,fa]++ownMembersOf (Value.type "AttributeError") [Value.str msg t]) }:=Heap.get?_push_size _ rfl;have k2:∀b u,h.get? b=some u->(h1.push { cls:=Value.type "AttributeError",data:=Data.fields (#[Value.ref h.objs.size,Value.none,Value.none,Value.none,Value.bool false,fa]++ownMembersOf (Value.type "AttributeError") [Value.str msg t]) }).get? b=some u:=fun b u e=>Heap.get?_push_of_some _ (k1 b u e);have z2:(h1.push { cls:=Value.type "AttributeError",data:=Data.fields (#[Value.ref h.objs.size,Value.none,Value.none,Value.none,Value.bool false,fa]++ownMembersOf (Value.type "AttributeError") [Value.str msg t]) }).objs.size=h1.objs.size+1:=Heap.size_push ..;generalize h1.push { cls:=Value.type "AttributeError",data:=Data.fields (#[Value.ref h.objs.size,Value.none,Value.none,Value.none,Value.bool false,fa]++ownMembersOf (Value.type "AttributeError") [Value.str msg t]) }=h2 at e1 k2 z2;refine wpAny_bind (wpAny_load e1 ?_);dsimp only;have v6:(#[Value.ref h.objs.size,Value.none,Value.none,Value.none,Value.bool false,fa]++ownMembersOf (Value.type "AttributeError") [Value.str msg t])[6]?= some unsetMember:=rfl;have v7:(#[Value.ref h.objs.size,Value.none,Value.none,Value.none,Value.bool false,fa]++ownMembersOf (Value.type "AttributeError") [Value.str msg t])[7]?= some unsetMember:=rfl;refine wpAny_ite_split (fun hab=>absurd hab (by rw[v6,v7];decide)) (fun _=>wpAny_ite_split (fun hab=>absurd hab (by rw[v6,v7];decide)) (fun _=>wpAny_pure ?_));rw[if_pos rfl];refine wpAny_bind (wpAny_rule (wpAny_bind (wpAny_typeOf (T := "AttributeError") ⟨_,e1,rfl⟩ ?_)));dsimp only;unfold layMembers;refine wpAny_bind (wpAny_load e1 ?_);dsimp only;refine wpAny_update e1 ?_;unfold raiseNew;refine wpAny_bind (wpAny_handled ?_);rw[hh];refine wpAny_throw (hq _ _ _ (fun b u e=>?_) ?_ ?_)
 ·rw[Heap.get?_update_other _ _ (show h1.objs.size≠b from fun z=>?_)]
  ·exact k2 b u e
  ·have:=Heap.lt_size e;have h3:h1.objs.size<h.objs.size:=z ▸ this;lia
 ·exact⟨_,Heap.get?_update_self _ e1 rfl,rfl⟩
 ·rw[Heap.size_update];show h.objs.size<=h2.objs.size;lia
theorem Zdq{tk:Tok}{Q:Fin->Shared->Prop}{its:Array Value}{n:Nat}{sl:Array (Option Value)}(hh:A.handled=none)(hx:h.get? a=some { cls:=.type "list",dict:=none,data:=.seq its n,slots:=sl }) (hq:∀(x:Addr)(h':Heap)(tk:Nat),(∀b u,h.get? b=some u->h'.get? b=some u)->(∃ob,h'.get? x=some ob/\ob.cls=.type "AttributeError")->h.objs.size<=h'.objs.size->E (.ref x) ⟨h',g,d,tk,os⟩) :
  wpAny (model prog w) A (Builtin.«object.__getattribute__» ⟨[.ref a,.str "keys" tk],[]⟩) Q E ⟨h,g,d,t,os⟩:=by
 have hT:(⟨h,g,d,t,os⟩:Shared).TypeIs (.ref a) "list" := ⟨_,hx,rfl⟩;have f4:=ZfI
 repeat (any_goals (first|assumption|with_reducible apply Zg9 hh|wp_step))
 decide +kernel
theorem Zds:typeLookup (.type "list") "__getattr__" = pure none:=by rw[typeLookup_type,builtinLookup_eq_fast];kernel_rfl
theorem ZdW{tk:Tok}{R:Result->Shared->Prop}{its:Array Value}{n:Nat}{sl:Array (Option Value)}(hh:A.handled=none)(hx:h.get? a=some { cls:=.type "list",dict:=none,data:=.seq its n,slots:=sl }) (hq:∀(x:Addr)(h':Heap)(tk:Nat),(∀b u,h.get? b=some u->h'.get? b=some u)->(∃ob,h'.get? x=some ob/\ob.cls=.type "AttributeError")->h.objs.size<=h'.objs.size->R (.error (.ref x)) ⟨h',g,d,tk,os⟩) :
  codeAny (model prog w) A (.call (.builtin "list.__getattribute__") ⟨[.ref a,.str "keys" tk],[]⟩) R ⟨h,g,d,t,os⟩ :=
 codeAny_call_builtin F.slot_list_getattribute.plain F.entry_list_ga (F.slot_list_getattribute.check _ _ _ _ _ _ _ _ (show(⟨h,g,d,t,os⟩:Shared).TypeIs (.ref a) "list" from⟨_,hx,rfl⟩) (F.args_list_getattribute_2 _ _) (Zdq hh hx hq))
theorem Ze5{tk:Tok}{Q:Value->Shared->Prop}{its:Array Value}{n:Nat}{sl:Array (Option Value)}(hh:A.handled=none)(hx:h.get? a=some { cls:=.type "list",dict:=none,data:=.seq its n,slots:=sl }) (hq:∀(x:Addr)(h':Heap)(tk:Nat),(∀b u,h.get? b=some u->h'.get? b=some u)->(∃ob,h'.get? x=some ob/\ob.cls=.type "AttributeError")->h.objs.size<=h'.objs.size->E (.ref x) ⟨h',g,d,tk,os⟩) :
  wpAny (model prog w) A (getAttrBy (.ref a) (.str "keys" tk) false) Q E ⟨h,g,d,t,os⟩:=by
 have hT:(⟨h,g,d,t,os⟩:Shared).TypeIs (.ref a) "list" := ⟨_,hx,rfl⟩;have f2:=F.slot_list_getattribute.lookup;have f3:=F.slot_list_getattribute.bind (.ref a);have f4:=Zds
 repeat (any_goals (first|assumption|wp_step))
 refine ZdW hh hx fun x h' tk' k1 k2 k3=>?_;obtain⟨ob,e2,c2⟩:=k2;dsimp only;unfold getattributeRaised;refine wpAny_bind (wpAny_isInstance (T := "AttributeError") (b:=true) ⟨ob,e2,c2⟩ Zbx ?_);rw[if_pos rfl];unfold hookBehind;rw[if_neg (by decide)];refine wpAny_bind (wpAny_of_eq f4 ?_);unfold hookOrError attributeErrorLeaves;dsimp only;rw[if_pos (by decide)];exact wpAny_bind (wpAny_throw (hq x h' tk' k1 ⟨ob,e2,c2⟩ k3))
theorem Zcd{Q:Option Value->Shared->Prop}{its:Array Value}{n:Nat}{sl:Array (Option Value)}(hh:A.handled=none)(hx:h.get? a=some { cls:=.type "list",dict:=none,data:=.seq its n,slots:=sl }) (hq:∀(h':Heap)(tk:Nat),(∀b u,h.get? b=some u->h'.get? b=some u)->h.objs.size<=h'.objs.size->Q none ⟨h',g,d,tk,os⟩) :
  wpAny (model prog w) A (getAttr? (.ref a) "keys") Q E ⟨h,g,d,t,os⟩:=by
 unfold getAttr? getAttrBy?
 repeat (any_goals (first|assumption|with_reducible apply Ze5 hh hx|wp_step))
 intro x h' tk' k1 k2 k3;obtain⟨ob,e2,c2⟩:=k2;dsimp only;refine wpAny_bind (wpAny_isInstance (T := "AttributeError") (b:=true) ⟨ob,e2,c2⟩ Zbx ?_);rw[if_pos rfl];exact wpAny_pure (hq h' tk' k1 k3)
end
theorem Zaa:entryFor table "dict.update.loop" = some Builtin.«dict.update.loop» := entryFor_of_tree (by kernel_rfl)
theorem Zv:plainId "dict.update.loop" = true:=by decide +kernel
section
variable{prog:Program}{w:World}{K:Type}[DecidableEq K]{knd:KeyKind prog w K}{A:Around}{E:Value->Shared->Prop}{R:Result->Shared->Prop}
def Zh9(knd:KeyKind prog w K)(h:Heap)(v:Value)(k:K)(u:Value):Prop := ∃b o n uk,v=.ref b/\h.get? b=some o/\o.cls=.type "tuple" /\ o.data=.seq #[uk,u] n/\knd.is k uk=true
def Zic(knd:KeyKind prog w K)(h0:Heap)(d:Addr)(items:Array Value)(ps:List (K×Value)):Prop:=items.size=ps.length/\∀(i:Nat) v p,items[i]?= some v->ps[i]?= some p->∀h:Heap,(∀b o,b<d->h0.get? b=some o->h.get? b=some o)->Zh9 knd h v p.1 p.2
theorem pair_items{s:Shared}{v:Value}{k:K}{u:Value}{Q:List Value->Shared->Prop}(hp:Zh9 knd s.heap v k u)(q:∀uk,knd.is k uk=true->Q [uk,u] s):wpAny (model prog w) A (Builtin.Dict.pairItems v) Q E s:=by
 obtain⟨b,o,n,uk,rfl,ho,hc,hd,hk⟩:=hp;unfold Builtin.Dict.pairItems;refine wpAny_bind (wpAny_typeOf (T := "tuple") ⟨o,ho,hc⟩ ?_);rw[if_pos (by decide)];refine wpAny_bind (wpAny_seqItems ho hd (wpAny_pure (q uk hk)))
set_option maxHeartbeats 1000000 in
theorem ZhV{h0:Heap}{D I l:Addr}{items:Array Value}{ps:List (K×Value)}(hh:A.in1.handled=none)(ht:Zic knd h0 D items ps)(hDI:D<I)(hlI:l≠I)(hn:items.size<=100000):∀(k i:Nat)(j:Int)(jt:Tok)(s:Shared),items.size-i=k->i<=items.size->(s.heap.IsListIter I l i/\s.heap.IsList l items)->l<D->s.heap.DictOf knd D (merged [] (ps.take i))->(∀b o,b<D->h0.get? b=some o->s.heap.get? b=some o) ->
   (∀h' tk,h'.DictOf knd D (merged [] ps)->(∀b o,b<D->h0.get? b=some o->h'.get? b=some o)->R (.ok (.ret .none)) { s with heap:=h',toks:=tk })->codeAny (model prog w) A (.builtin "dict.update.loop" ⟨[.ref D,.ref I,.int j jt,.none],[]⟩) R s:=by
 have W:=Walks.list (prog:=prog) (w:=w) (A:=A.in1) hh I l hlI items;have DK:∀{h h':Heap}{kvs:List (K×Value)},h.DictOf knd D kvs->(∀b o,b<=D->h.get? b=some o->h'.get? b=some o)->h'.DictOf knd D kvs:=fun{h h' kvs} ⟨o,es,ep,ho,r⟩ hk=>⟨o,es,ep,hk D o (Nat.le_refl _) ho,r⟩;intro k
 induction k with
 | zero =>
  intro i j jt s hk hi hst hlD hd hb hR;obtain rfl:i=items.size:=by lia
  refine codeAny_builtin Zaa ?_;rw[Around.under_plainId Zv _];change wpAny _ A.in1 (pyNext (.ref I) >>= _) _ _ s;refine wpAny_bind (W.done s _ _ hst fun h' tk hm=>?_);change wpAny _ A.in1 (Builtin.Dict.addKeywords D [] >>= fun _=>ret Value.none) _ _ _;refine wpAny_bind ?_;unfold Builtin.Dict.addKeywords;refine wpAny_pure (wpAny_pure ?_);rw[ht.1,List.take_length] at hd;exact hR h' tk (DK hd fun b o hb' e=>hm b o (fun z=>Nat.lt_irrefl _ (Nat.lt_of_le_of_lt (List.mem_singleton.mp z ▸ hb') hDI)) e) fun b o hb' e=>hm b o (fun z=>Nat.lt_irrefl _ (Nat.lt_trans (List.mem_singleton.mp z ▸ hb') hDI)) (hb b o hb' e)
 | succ k ih =>
  intro i j jt s hk hi hst hlD hd hb hR;have hlt:i<items.size:=by lia
  refine codeAny_builtin Zaa ?_;rw[Around.under_plainId Zv _];change wpAny _ A.in1 (pyNext (.ref I) >>= _) _ _ s;refine wpAny_bind (W.item i s _ _ hlt hst fun v h' tk hP hst' hm=>?_);have hd':h'.DictOf knd D (merged [] (ps.take i)):=DK hd fun b o hb' e=>hm b o (fun z=>Nat.lt_irrefl _ (Nat.lt_of_le_of_lt (List.mem_singleton.mp z ▸ hb') hDI)) e;have hb1:∀b o,b<D->h0.get? b=some o->h'.get? b=some o:=fun b o hb' e=>hm b o (fun z=>Nat.lt_irrefl _ (Nat.lt_trans (List.mem_singleton.mp z ▸ hb') hDI)) (hb b o hb' e);have hpl:i<ps.length:=by have:=ht.1;lia
  have hp:=ht.2 i v ps[i] hP (List.getElem?_eq_getElem hpl) h' hb1;refine wpAny_bind (wpAny_holding (wpAny_bind (wpAny_tryCatch (pair_items (s:={ s with heap:=h',toks:=tk }) hp fun uk huk=>?_))));dsimp only;have hml:(merged [] (ps.take i)).length<=sizeLine:=by
   have:=merged_length_le ([]:List (K×Value)) (ps.take i);rw[List.length_take] at this;have h0l:([]:List (K×Value)).length=0:=rfl;have:=ht.1;rw[sizeLine_eq];lia
  refine wpAny_holding (wpAny_dictSet_pairs (s:={ s with heap:=h',toks:=tk }) (hsz:=hml) huk hd' fun h2 hd2 sb=>?_);have hk2:∀b o,b≠D->h'.get? b=some o->h2.get? b=some o:=fun b o hb e=>(sb.2 b hb).trans e;refine wpAny_pure ⟨plainId_quiet Zv _,ih (i+1) (j+1) 0 _ (by lia) hlt ?_ hlD ?_ (fun b o hb' e=>hk2 b o (Nat.ne_of_lt hb') (hb1 b o hb' e)) fun h3 tk3 hw3 hb3=>hR h3 tk3 hw3 hb3⟩
  ·refine W.frame _ h' h2 hst' fun b hb o e=>hk2 b o (fun z=>?_) e;simp only[List.mem_cons,List.not_mem_nil,or_false] at hb;rcases hb with rfl|rfl
   ·exact Nat.lt_irrefl _ (z ▸ hDI)
   ·exact Nat.lt_irrefl _ (z ▸ hlD)
  ·rw[merged_take_succ [] ps i ps[i] (List.getElem?_eq_getElem hpl)];exact hd2
set_option maxHeartbeats 1000000 in
theorem Zdz{s:Shared}{l:Addr}{items:Array Value}{n:Nat}{sl:Array (Option Value)}{ps:List (K×Value)}{Q:Value->Shared->Prop}(hh:A.handled=none)(hl:s.heap.get? l=some { cls:=.type "list",dict:=none,data:=.seq items n,slots:=sl }) (ht:Zic knd s.heap s.heap.objs.size items ps) (hn:items.size<=100000)
  (q:∀(h':Heap)(tk:Nat),h'.DictOf knd s.heap.objs.size (merged [] ps)->(∀b o,s.heap.get? b=some o->h'.get? b=some o)->Q (.ref s.heap.objs.size) { s with heap:=h',toks:=tk }) :
  wpAny (model prog w) A (call (.type "dict") [.ref l]) Q E s:=by
 refine callType_codes (Q₁ := fun obj s₁=>obj=.ref s.heap.objs.size/\s₁ = { s with heap:=s.heap.push { cls:=.type "dict",data:=.dict #[] } }) F.kt_called_dict (F.kt_typeCall_dict_1 _) F.entry_dict_init (kt_code_dict_new _ ⟨rfl,rfl⟩) ?_;rintro obj s₁ ⟨rfl,rfl⟩;have hnew:(s.heap.push { cls:=.type "dict",data:=.dict #[] }).DictOf knd s.heap.objs.size []:=Heap.DictOf.new s.heap;have hl1:(s.heap.push { cls:=.type "dict",data:=.dict #[] }).get? l=some { cls:=.type "list",dict:=none,data:=.seq items n,slots:=sl }:=Heap.get?_push_of_some _ hl;have hlD:l<s.heap.objs.size:=Heap.lt_size hl;have k0:∀b o,b<s.heap.objs.size->s.heap.get? b=some o->(s.heap.push { cls:=.type "dict",data:=.dict #[] }).get? b=some o:=fun b o _ e=>Heap.get?_push_of_some _ e;have z0:(s.heap.push { cls:=.type "dict",data:=.dict #[] }).objs.size=s.heap.objs.size+1:=Heap.size_push ..;refine⟨hnew.typeIs,F.args_dict_init_2 _ _,?_⟩;generalize s.heap.push { cls:=.type "dict",data:=.dict #[] }=h1 at hnew hl1 k0 z0;unfold Builtin.«dict.__init__»;refine wpAny_bind ?_;unfold Builtin.Dict.selfAndRest;refine wpAny_bind (wpAny_notOrdered_dict hnew.typeIs ?_);show wpAny _ _ (pure (s.heap.objs.size,[Value.ref l])) _ _ _;refine wpAny_pure ?_;show wpAny _ _ (Builtin.Dict.updateFrom "dict.__init__" s.heap.objs.size (.ref l) [] .none) _ _ _;unfold Builtin.Dict.updateFrom;refine wpAny_bind (wpAny_typeOf (T := "list") ⟨_,hl1,rfl⟩ ?_);rw[if_pos (by decide)];refine wpAny_bind (Zcd hh hl1 fun h2 tk2 k2 z2=>?_);rw[if_pos (show(none:Option Value).isNone=true from rfl)];refine wpAny_bind (wpAny_rule ?_);have hl2:=k2 _ _ hl1;have hL2:h2.IsList l items:=⟨_,hl2,rfl,n,rfl⟩;refine wpAny_bind (wpAny_pyIter_list hL2 ?_);have hd2:h2.DictOf knd s.heap.objs.size []:=let ⟨o,es,ep,ho,r⟩:=hnew;⟨o,es,ep,k2 _ _ ho,r⟩;have hd3:(h2.push { cls:=.type "list_iterator",data:=.fields #[.ref l,.int 0 0] }).DictOf knd s.heap.objs.size []:=hd2.push _;have hsz:s.heap.objs.size<h2.objs.size:=by lia
 refine wpAny_pure ⟨plainId_quiet Zv _,?_⟩;refine ZhV (knd:=knd) (h0:=s.heap) (by simpa using hh) ht hsz (Nat.ne_of_lt (Nat.lt_trans hlD hsz)) hn (items.size-0) 0 0 0 _ rfl (Nat.zero_le _) ⟨⟨_,Heap.get?_push_size _ rfl,rfl,rfl⟩,hL2.push _⟩ hlD hd3 (fun b o hb e=>Heap.get?_push_of_some _ (k2 _ _ (k0 b o hb e))) fun h' tk hd' hb'=>?_;exact⟨rfl,q h' tk hd' fun b o e=>hb' b o (Heap.lt_size e) e⟩
end
end Srd
namespace L2
open PySem PySem.Spec PyProof.Rows PySem.W
def putAll(kvs:List (Key×V)):List (Key×V):=kvs.foldl (fun m kv=>putK m kv.1 kv.2) []
theorem ZbS:∀(kvs m:List (Key×V)),(kvs.foldl (fun m kv=>putK m kv.1 kv.2) m).length<=m.length+kvs.length
 | [],m=>Nat.le_refl _
 | kv::kvs,m=>by
  have h1:=ZbS kvs (putK m kv.1 kv.2);have h2:=ZaQ m kv.1 kv.2;rw[List.length_cons,List.foldl_cons];lia
theorem Zhy(kvs:List (Key×V)):(putAll kvs).length<=kvs.length:=by
 have:=ZbS kvs [];rw[List.length_nil,Nat.zero_add] at this;exact this
theorem Zj8:∀{kvs:List (Key×V)}{ps:List (Key×Value)}{m:List (Key×V)}{m':List (Key×Value)},KV kvs ps->KV m m'->KV (kvs.foldl (fun m kv=>putK m kv.1 kv.2) m) (merged m' ps)
 | _,_,_,_,.nil,h=>h
 | _,_,m,m',.cons (a:=kv) (b:=p) r t,h=>by
  have e:p.1=kv.1:=r.1.symm;have h1:=h.put kv.1 r.2;have h2:=Zj8 t h1;show KV (List.foldl _ (putK m kv.1 kv.2) _) (merged (stored m' p.1 p.2) _);rw[e];exact h2
section
variable{X:Cx}
theorem ZdX(hc:X.calm=true):ZcR X (.type "dict") (fun xs H Q=>∃l ys kvs,xs=[.ref l]/\SqL X.K H l ys/\ys.length<=90000/\Paired (fun(y:V)(kv:Key×V)=>∃t,y=.ref t/\H t=some (.tup [kV kv.1,kv.2])) ys kvs/\∀d,H d=none->Q (.ref d) (upd H d (.dK (putAll kvs)))):=by
 intro pins s σ H xs us Q I r h;obtain⟨l,ys,kvs,rfl,hq,hlen,hp,q⟩:=h;obtain⟨u,rfl,ru⟩:=vals1 r;cases ru;obtain⟨its,rv,⟨o,n,ho,ocl,odi,oda⟩,hz⟩:=I.list hq;have hl:=rv.length;obtain⟨ocls,odict,odata,oslots⟩:=o;simp only at ocl odi oda;subst ocl odi oda;have key:∀{ys:List V}{kvs:List (Key×V)}{its:List Value},Paired (fun(y:V)(kv:Key×V)=>∃t,y=.ref t/\H t=some (.tup [kV kv.1,kv.2])) ys kvs->Vals ys its->∃ps:List (Key×Value),KV kvs ps/\its.length=ps.length/\∀(i:Nat) v p,its[i]?= some v->ps[i]?= some p->Srd.Zh9 (Z0 X.prog X.w) s.heap v p.1 p.2:=by
  intro ys kvs its hp
  induction hp generalizing its with
  | nil =>
   intro rv;cases rv;exact⟨[],.nil,rfl,fun i v p h=>(nomatch h)⟩
  | @cons y kv ys kvs r t ih =>
   intro rv;cases rv with
   | @cons _ v _ its ry rr =>
    obtain⟨ps,h1,h2,h3⟩:=ih rr;obtain⟨ta,rfl,ht⟩:=r;obtain rfl:v=Value.ref ta:=ry;obtain⟨_,us,rus,o,ho,hc',n,hd⟩:=I.hok ta _ ht;obtain⟨u1,u2,rfl,r1,r2⟩:=Vals.two rus;refine⟨(kv.1,u2)::ps,.cons ⟨rfl,r2⟩ h1,by rw[List.length_cons,List.length_cons,h2],fun i v p e1 e2=>?_⟩;cases i with
    | zero =>
     injection e1 with e1;injection e2 with e2;subst e1 e2;exact⟨ta,o,n,u1,rfl,ho,hc',hd,Zhc r1⟩
    | succ i=>exact h3 i v p e1 e2
 obtain⟨ps,h1,h2,h3⟩:=key hp rv;refine Srd.Zdz (knd:=Z0 X.prog X.w) (ps:=ps) (I.ok.hd hc) ho ⟨by rw[List.size_toArray];exact h2,fun i v p e1 e2 h' hk=>?_⟩ (by rw[List.size_toArray];lia) fun h' tk hd' hk=>?_
 ·obtain⟨b,o,n,uk,e,ho2,r⟩:=h3 i v p (by rw[<- e1];simp) e2;exact⟨b,o,n,uk,e,hk b o (Heap.lt_size ho2) ho2,r⟩
 ·have hkl:kvs.length=ps.length:=h1.length;have hpl:=Zhy kvs;exact⟨.ref _,_,I.laid (t':=tk) (fun b o e=>hk b o e) (Nat.le_refl _) (show Zar X.prog X.w _ h' _ (.dK (putAll kvs)) from⟨by rw[sizeLine_eq];lia,beq_eq_false_iff_ne.mpr (Ne.symm (Nat.ne_of_lt I.big)),_,Zj8 h1 .nil,hd'⟩),rfl,q _ (I.hok.fresh (Nat.le_refl _))⟩
theorem Zi6{zs:List V}{ns:List Int}(h:zs.Perm (ns.map V.int)):∃ms:List Int,zs=ms.map V.int/\ms.Perm ns:=by
 obtain⟨ms,rfl,_⟩:=Zg1 zs fun z hz=>h.mem_iff.mp hz;refine⟨ms,rfl,?_⟩;have h2:=h.filterMap (fun v=>match v with|V.int i=>some i|_=>none)
 simpa[List.filterMap_map,Function.comp_def] using h2
theorem Zfs:∀{vs:List V}{us:List Value},Vals vs us->∀v∈vs,∃u∈us,RelV v u
 | _,_,.cons a t,v,hv=>by
  rcases List.mem_cons.mp hv with rfl|hv
  ·exact⟨_,List.mem_cons_self ..,a⟩
  ·obtain⟨u,hu,r⟩:=Zfs t v hv;exact⟨u,List.mem_cons_of_mem _ hu,r⟩
theorem Zi8{P:Program}{w:World}{kvs:List (Key×V)}{ps:List (Key×Value)}(h:KV kvs ps):∀{es:List DictEntry}{ns:List Int},PySem.Pairs (Z0 P w) es ps->kvs.map (·.1)=ns.map Sum.inl->Vals (ns.map V.int) (es.map (·.key)):=by
 have h':Paired (fun(p:Key×V)(q:Key×Value)=>p.1=q.1/\RelV p.2 q.2) kvs ps:=h;clear h
 induction h' with
 | nil =>
  intro es ns h2 e;cases h2;cases ns with
  | nil=>exact .nil
  | cons n ns=>cases e
 | cons r t ih =>
  intro es ns h2 e;cases h2 with
  | cons h1 h2 h3 =>
   cases ns with
   | nil=>cases e
   | cons n ns =>
    rw[List.map_cons,List.map_cons] at e;obtain⟨e1,e2⟩:=List.cons.inj e;refine .cons ?_ (ih h3 e2);rw[<- r.1,e1] at h1;have h1':Zfc (Sum.inl n) _=true:=h1;rcases Z8 h1' with⟨i,t,he,hk⟩|⟨x,t,he,hk⟩
    ·cases he;exact⟨t,hk⟩
    ·cases he
theorem Zjb:∀{kvs:List (Key×V)}{vs:List (Key×Value)},KV kvs vs->kvs.map (·.1)=vs.map (·.1)
 | _,_,.nil=>rfl
 | _,_,.cons r t=>by rw[List.map_cons,List.map_cons,r.1,Zjb t]
end
end L2
namespace L2
open PySem PySem.Spec PyProof.Rows
def Itv(K:PySem.W.Frag)(a:Addr)(n:Nat):It :=
 ⟨fun i H=>i<n/\∃xs,SqL K H a xs/\xs.length=n,fun i H x H'=>H'=H/\∀xs,SqL K H a xs->xs[n-1-i]?= some x,fun i _=>n<=i⟩
theorem Zjo{P:Program}{w:World}{K:PySem.W.Frag}{tg:Expr}(a it:Addr)(n:Nat):Turn P w K tg (Itv K a n) [it] it (fun i h=>i<=n/\h.IsRevIter it a ((n:Int)-1-(i:Int))) where
 mem:=by simp
 obj:=fun i h st b hb=>by
  have e:b=it:=by simpa using hb
  subst e;obtain⟨_,o,e,c,d⟩:=st;exact⟨o,e,fun v z=>by rw[d] at z;cases z⟩
 keep:=fun i h h' st k=>⟨st.1,st.2.at fun o e=>k it (by simp) o e⟩
 item:=by
  intro X hP hw hK hc i pins s σ H E I hf st hg;subst hP hw hK;obtain⟨hi,xs,hq,hn⟩:=hg;obtain⟨its,rv,p,hz⟩:=I.list hq;have hx:xs[n-1-i]?= some (xs[n-1-i]'(by lia)):=List.getElem?_eq_getElem (by lia);obtain⟨u,hu,ru⟩:=rv.get hx;obtain⟨f0,f1,f2,f3,f4,f5⟩:=hf it (by simp);have e:(n:Int)-1-(i:Int)=((n-1-i:Nat):Int):=by lia
  have hit:=st.2;rw[e] at hit;refine wpAny_pyNext_rev_item hit p.isList (x:=u) (by simpa using hu) fun h' st' sb=>?_;have I1:Inv X pins σ H { s with heap:=h' }:=I.turned (t':=s.toks) (fun b o hb e=>(sb.2 b hb).trans e) f0 f1 f3 f4 f5;obtain⟨o,e',c,d⟩:=id st';refine⟨u,rfl,Zi4 (s:={ s with heap:=h' }) e' c d (by decide) ⟨_,H,I1,ru,⟨rfl,fun ys hy=>by rw[I.list_inj hy hq];exact hx⟩,⟨hi,?_⟩,fun b hb=>(hf b hb).1⟩⟩;have e2:(n:Int)-1-((i+1:Nat):Int)=((n-1-i:Nat):Int)-1:=by lia
  rw[e2];exact st'
 done:=by
  intro X hP hw hK hc i pins s σ H E I hf st hg;subst hP hw hK;have hg':n<=i:=hg;obtain⟨f0,f1,f2,f3,f4,f5⟩:=hf it (by simp);have hit:=st.2;have e:(n:Int)-1-(i:Int)= -1:=by have:=st.1;lia
  rw[e] at hit;exact wpAny_pyNext_rev_end (I.ok.hd hc) hit fun h' eb=>⟨rfl,I.turned (t':=s.toks) (fun b o hb e=>eb b o hb e) f0 f1 f3 f4 f5⟩
 self:=fun _ _ _ _ _ st h=>wpAny_pyIter_revIter st.2 h
section
variable{X:Cx}{tg:Expr}
def Zm0(K:PySem.W.Frag)(ta:TA):TI:=fun σ H R=>ta σ H fun vs H1=>∃a xs,vs=[.ref a]/\SqL K H1 a xs/\R (Itv K a xs.length) H1
theorem ZlK{l:Expr}{ta:TA}{p pos:Pos}(hg:Gl X "reversed") (hm:X.mg "reversed" = none) (ha:PA X [l] ta) (hs:starEach [l] X.env=[(false,eval l X.env)]:=by rfl) :
  PI X tg (.Call (.Name "reversed" p) [l] [] pos) (Zm0 X.K ta):=by
 intro pins s σ H R I h;refine Call_ (Zdf I hg hm Zf9 (PyProof.Rows.callWith_type1 (thn (ha pos pins s σ H _ I h) fun us s1 ⟨vs,H1,I1,r1,q1⟩=>?_) hs rfl));obtain⟨a,xs,e,hq,q⟩:=q1;subst e;obtain⟨u,rfl,ru⟩:=Vals.one r1;cases ru;obtain⟨its,rv,pl,hz⟩:=I1.list hq;refine call_reversed_list pl.isList (wpAny_pyIter_revIter (l:=a) (i:=(its.toArray.size:Int)-1) ⟨_,Heap.get?_push_size _ rfl,rfl,rfl⟩ ?_);have hl:its.toArray.size=xs.length:=by rw[List.size_toArray,rv.length]
 refine⟨s1.heap.objs.size,[s1.heap.objs.size],_,_,H1,rfl,I1.kept (t':=s1.toks) fun b o e=>Heap.get?_push_of_some _ e,Zjo a _ xs.length,⟨Nat.zero_le _,?_⟩,fun b hb=>?_,q⟩
 ·rw[hl];refine⟨_,Heap.get?_push_size _ rfl,rfl,?_⟩;simp[revObj]
 have e:b=s1.heap.objs.size:=by simpa using hb
 subst e;exact I1.fpOk (Nat.le_refl _) (I1.hok.fresh (Nat.le_refl _))
end
theorem ZkV{K:PySem.W.Frag}{a:Addr}{xs:List V}{g:TG}{tb:TS}{D:Ends}{σ : St}{H:Hp}(Pv:Nat->St->Hp->Prop)(h0:Pv 0 σ H)(hl:∀i σ H,i<=xs.length->Pv i σ H->SqL K H a xs)
  (hs:∀i y σ H,i<xs.length->xs[xs.length-1-i]?= some y->Pv i σ H->g y σ H fun σ2 H2=>tb { D with nx:=Pv (i+1),ct:=Pv (i+1),bk:=D.nx } σ2 H2) (hd:∀ σ H,Pv xs.length σ H->D.nx σ H) :
  ∃W:Nat->Nat->St->Hp->Prop,(∃m,W 0 m σ H)/\∀i m σ H,W i m σ H ->
   ((Itv K a xs.length).stop i H/\D.nx σ H)\/((Itv K a xs.length).go i H/\∃N:St->Hp->Prop,(∀ σ' H',N σ' H'->∃m',m'<m/\W (i+1) m' σ' H')/\∀x H',(Itv K a xs.length).yld i H x H'->g x σ H' fun σ2 H2=>tb { D with nx:=N,ct:=N,bk:=D.nx } σ2 H2):=by
 refine⟨fun i m σ H=>m=xs.length-i/\i<=xs.length/\Pv i σ H,⟨xs.length,by simp,Nat.zero_le _,h0⟩,?_⟩;rintro i m σ H ⟨rfl,hi,p⟩;by_cases hlt:i<xs.length
 ·refine .inr ⟨⟨hlt,xs,hl i σ H hi p,rfl⟩,Pv (i+1),fun σ' H' p'=>⟨xs.length-(i+1),by lia,rfl,hlt,p'⟩,fun x H' y=>?_⟩;obtain⟨e,hx⟩:=y;subst e;exact hs i x σ _ hlt (hx xs (hl i σ _ hi p)) p
 ·have e:i=xs.length:=by lia
  subst e;exact .inl ⟨Nat.le_refl _,hd σ H p⟩
end L2
namespace Fg
open PySem L2 FgM
theorem Zh7{X:Cx}{K:PySem.W.Frag}{es:List Expr}{k:Nat}{t:TGs}{n:Nat}{pos:Pos}(hK:X.K=K)(hc:X.calm=true)(h:PGs X es t)(hn:(assignEach es X.env).length=n:=by rfl)(hst:(assignEach es X.env).findIdx? (·.1)=none:=by rfl):PG X (.Tuple es k pos) (Zmv K n t):=by
 subst hK;exact Zb1 hc h hn hst
theorem Zid:bootBuiltins "sorted" = some (.builtin "sorted"):=by decide +kernel
theorem Zjz{K:PySem.W.Frag}{a p:Addr}{xs:List V}{g:TG}{te:TE}{R:Hp->Prop}{σ0:St}{H0:Hp}(Pv:Nat->List V->St->Hp->Prop)(h0:Pv 0 [] σ0 H0)
  (hl:∀i ys σ H,i<=xs.length->Pv i ys σ H->SqT K H a xs/\H p=some (.lst ys))
  (hs:∀i ys x σ H,i<xs.length->xs[i]?= some x->Pv i ys σ H->g x σ H fun σ3 H4=>te σ3 H4 fun v H5=>H5 p=some (.lst ys)/\ys.length<sizeLine/\∃m',m'<xs.length-i/\CW xs.length Pv (i+1) m' (ys ++ [v]) σ3 (upd H5 p (.lst (ys ++ [v]))))
  (hd:∀ys σ H,Pv xs.length ys σ H->R H) :
  ∃W:Nat->Nat->List V->St->Hp->Prop,(∃m,W 0 m [] σ0 H0)/\∀i m ys σc H2,W i m ys σc H2->H2 p=some (.lst ys)/\(((Itt K a).stop i H2/\R H2)\/((Itt K a).go i H2/\∀x H3,(Itt K a).yld i H2 x H3->g x σc H3 fun σ3 H4=>te σ3 H4 fun v H5 =>
   H5 p=some (.lst ys)/\ys.length<sizeLine/\∃m',m'<m/\W (i+1) m' (ys ++ [v]) σ3 (upd H5 p (.lst (ys ++ [v]))))):=by
 refine⟨CW xs.length Pv,⟨_,rfl,Nat.zero_le _,h0⟩,?_⟩;rintro i m ys σ H ⟨rfl,hi,hp⟩;obtain⟨h1,h2⟩:=hl i ys σ H hi hp;refine⟨h2,?_⟩;by_cases hlt:i<xs.length
 ·refine .inr ⟨⟨xs,xs[i],h1,List.getElem?_eq_getElem hlt⟩,?_⟩;rintro x H3 ⟨rfl,hx⟩;exact hs i ys x σ _ hlt (hx xs h1) hp
 ·refine .inl ⟨⟨xs,h1,by lia⟩,hd ys σ H ?_⟩;have e:i=xs.length:=by lia
  rw[<- e];exact hp
theorem Za3{α : Type}{l:List α}{i:Nat}{x : α}(h:l[i]?= some x):l.take (i+1)=l.take i ++ [x]:=by
 rw[List.take_add_one,h];rfl
theorem Zhf{lo:Int}{n:Nat}{p:Addr}{g:TG}{te:TE}{R:Hp->Prop}{σ0:St}{H0:Hp}(Pv:Nat->List V->St->Hp->Prop)(h0:Pv 0 [] σ0 H0)
  (hl:∀i ys σ H,i<=n->Pv i ys σ H->H p=some (.lst ys))
  (hs:∀i ys σ H,i<n->Pv i ys σ H->g (.int (lo+i)) σ H fun σ3 H4=>te σ3 H4 fun v H5=>H5 p=some (.lst ys)/\ys.length<sizeLine/\∃m',m'<n-i/\CW n Pv (i+1) m' (ys ++ [v]) σ3 (upd H5 p (.lst (ys ++ [v]))))
  (hd:∀ys σ H,Pv n ys σ H->R H) :
  ∃W:Nat->Nat->List V->St->Hp->Prop,(∃m,W 0 m [] σ0 H0)/\∀i m ys σc H2,W i m ys σc H2->H2 p=some (.lst ys)/\(((Itr lo n).stop i H2/\R H2)\/((Itr lo n).go i H2/\∀x H3,(Itr lo n).yld i H2 x H3->g x σc H3 fun σ3 H4=>te σ3 H4 fun v H5 =>
   H5 p=some (.lst ys)/\ys.length<sizeLine/\∃m',m'<m/\W (i+1) m' (ys ++ [v]) σ3 (upd H5 p (.lst (ys ++ [v]))))):=by
 refine⟨CW n Pv,⟨_,rfl,Nat.zero_le _,h0⟩,?_⟩;rintro i m ys σ H ⟨rfl,hi,hp⟩;refine⟨hl i ys σ H hi hp,?_⟩;by_cases hlt:i<n
 ·refine .inr ⟨hlt,?_⟩;rintro x H3 ⟨rfl,rfl⟩;exact hs i ys σ _ hlt hp
 ·have e:i=n:=by lia
  subst e;exact .inl ⟨Nat.le_refl _,hd ys σ H hp⟩
theorem Zmw(x:Int){n:Nat}(h:0<n):∃k:Nat,x % (n:Int)=(k:Int)/\k<n:=by
 have h1:=Int.emod_nonneg x (by lia:(n:Int)≠0);have h2:=Int.emod_lt_of_pos x (by lia:(0:Int)<(n:Int));obtain⟨k,hk⟩:=Int.eq_ofNat_of_zero_le h1;exact⟨k,hk,by lia⟩
theorem Zco{A:Type}:∀g:Gr A,ZaZ g .nil=g
 | .nil=>rfl
 | .cons t w o=>by show Gr.cons t w (ZaZ o .nil)=_;rw[Zco o]
def bk:List Str->Gr Str×List (Gr Str)
 | []=>(.nil,[])
 | w::ws=>if w=SL then(.nil,(bk ws).1::(bk ws).2) else
  match (bk ws).2 with
  | []=>(.nil,[])
  | b::pl=>(.cons w (bk ws).1 b,pl)
theorem ZkG(ws:List Str):bk (SL::ws)=(.nil,(bk ws).1::(bk ws).2):=by
 rw[bk,if_pos rfl]
theorem Zj7{w:Str}{ws:List Str}(hw:w≠SL){b:Gr Str}{pl:List (Gr Str)}(h:(bk ws).2=b::pl):bk (w::ws)=(.cons w (bk ws).1 b,pl):=by
 rw[bk,if_neg hw,h]
theorem Zew:∀{ws:List Str}{n:Nat},Can SL n ws->(bk ws).2.length=n
 | [],n,h=>by
  have h':n=0:=h;subst h';rfl
 | w::ws,n,h=>by
  by_cases e:w=SL
  ·subst e;obtain⟨h1,h2⟩:=Zci.mp h;rw[ZkG,List.length_cons,Zew h2];lia
  ·have h2:=Zew ((Zb0 e).mp h);cases hb:(bk ws).2 with
   | nil =>
    rw[hb] at h2;cases h2
   | cons b pl =>
    rw[Zj7 e hb];rw[hb] at h2
    simpa using h2
theorem Zdm:∀{xs ys:List Str}{n:Nat},Can SL n (xs++ys)->∃k:Nat,(k:Int)=n+hgt SL xs/\Can SL k ys
 | [],ys,n,h=>⟨n,by simp[hgt],h⟩
 | x::xs,ys,n,h=>by
  by_cases e:x=SL
  ·subst e;obtain⟨h1,h2⟩:=Zci.mp h;obtain⟨k,hk,hc⟩:=Zdm h2;refine⟨k,?_,hc⟩;simp only[hgt,if_true];lia
  ·obtain⟨k,hk,hc⟩:=Zdm ((Zb0 e).mp h);refine⟨k,?_,hc⟩;simp only[hgt,if_neg e];lia
theorem ZjE{ws:List Str}(h:Can SL 0 ws)(i:Nat):∃k,Can SL k (ws.drop i):=by
 have h':Can SL 0 (ws.take i++ws.drop i):=by rw[List.take_append_drop];exact h
 obtain⟨k,_,hk⟩:=Zdm h';exact⟨k,hk⟩
theorem Zen{A:Type}:∀a b c:Gr A,ZaZ (ZaZ a b) c=ZaZ a (ZaZ b c)
 | .nil,_,_=>rfl
 | .cons t w o,b,c=>by show Gr.cons t w (ZaZ (ZaZ o b) c)=.cons t w (ZaZ o (ZaZ b c));rw[Zen o b c]
end Fg
namespace L2
open PySem PySem.Spec PyProof.Rows
section
variable{X:Cx}{e ve:Expr}{te:TE}{p kp pos:Pos}
theorem falling{ms:List Int}(h:ms.Pairwise (· >= ·))(hn:ms.Nodup):ms.Pairwise (· > ·):=by
 refine List.Pairwise.imp₂ (fun{a b} h1 h2=>?_) h hn;have:a≠b:=h2;have:a>=b:=h1;show a > b;lia
end
end L2
namespace Fg
open PySem L2 FgM
def cst(ws:List Str):Nat->List Nat×List (Nat×Nat)
 | 0=>([],[])
 | i+1=>if ws[i]?= some SL then((cst ws i).1.tail,(cst ws i).2++(cst ws i).1.head?.toList.map (·,i)) else(i::(cst ws i).1,(cst ws i).2)
theorem ZfP{ws:List Str}{i o:Nat}{os:List Nat}(h:ws[i]?= some SL)(e:(cst ws i).1=o::os):cst ws (i+1)=(os,(cst ws i).2 ++ [(o,i)]):=by
 show(if _ then _ else _)=_
 rw[if_pos h,e];rfl
theorem Zf5{ws:List Str}{i:Nat}{w:Str}(h:ws[i]?= some w)(hw:w≠SL):cst ws (i+1)=(i::(cst ws i).1,(cst ws i).2):=by
 show(if _ then _ else _)=_
 rw[if_neg (by rw[h];exact fun e=>hw (by injection e))]
theorem ZbT{ws:List Str}{i:Nat}{w:Str}(h:ws[i]?= some w):ws.drop i=w::ws.drop (i+1):=by
 obtain⟨hi,e⟩:=List.getElem?_eq_some_iff.mp h;rw[List.drop_eq_getElem_cons hi,e]
structure Cst(ws:List Str)(i:Nat):Prop where
 len:(cst ws i).1.length=(bk (ws.drop i)).2.length
 at_:∀(m o:Nat),(cst ws i).1[m]?= some o->(bk (ws.drop (o+1))).2[0]?= (bk (ws.drop i)).2[m]?
 pair:∀p e:Nat,(p,e)∈(cst ws i).2->(bk (ws.drop (p+1))).2[0]?= some (bk (ws.drop (e+1))).1/\p<e/\e<i
 mem:∀p:Nat,(p∈(cst ws i).1\/p∈(cst ws i).2.map (·.1))↔∃w,p<i/\ws[p]?= some w/\w≠SL
 nd:((cst ws i).1++(cst ws i).2.map (·.1)).Nodup
 cnt:(cst ws i).1.length+2*(cst ws i).2.length=i
theorem ZiH{ws:List Str}(hc:Can SL 0 ws):∀i,i<=ws.length->Cst ws i
 | 0,_=>⟨by
   rw[List.drop_zero,Zew hc];rfl,(fun m o h=>by cases m <;> cases h),(fun p e h=>(nomatch h)),(fun p=>⟨fun h=>h.elim (fun h=>(nomatch h)) (fun h=>(nomatch h)),fun⟨_,h,_⟩=>absurd h (Nat.not_lt_zero _)⟩),List.nodup_nil,rfl⟩
 | i+1,hi=>by
  have x:=ZiH hc i (by lia);obtain⟨w,hw⟩:∃w,ws[i]?= some w:=⟨_,List.getElem?_eq_getElem (by lia)⟩;by_cases e:w=SL
  ·subst e;have hb:bk (ws.drop i)=(.nil,(bk (ws.drop (i+1))).1::(bk (ws.drop (i+1))).2):=by rw[ZbT hw,ZkG]
   cases hs:(cst ws i).1 with
   | nil =>
    have:=x.len;rw[hs,hb] at this;cases this
   | cons o os =>
    have hz:=ZfP hw hs;obtain⟨x1,x2,x3,x4,x5,x6⟩:=x;rw[hs] at x1 x2 x4 x5 x6;rw[hb] at x1 x2;refine⟨?_,fun m o' h=>?_,fun p e h=>?_,fun p=>?_,?_,?_⟩
    ·rw[hz]
     simpa using x1
    ·rw[hz] at h;have:=x2 (m+1) o' (by rw[List.getElem?_cons_succ];exact h);rw[List.getElem?_cons_succ] at this;exact this
    ·rw[hz] at h;rcases List.mem_append.mp h with h|h
     ·obtain⟨a,b,c⟩:=x3 p e h;exact⟨a,b,by lia⟩
     ·have h':=List.mem_singleton.mp h;injection h' with h1 h2;subst h1 h2;refine⟨x2 0 p rfl,?_,by lia⟩;obtain⟨w',h1,_⟩:=(x4 p).mp (.inl (List.mem_cons_self ..));exact h1
    ·rw[hz];have:=x4 p;constructor
     ·intro h;have h':p∈o::os\/p∈(cst ws i).2.map (·.1):=by
       rcases h with h|h
       ·exact .inl (List.mem_cons_of_mem _ h)
       ·rw[List.map_append] at h;rcases List.mem_append.mp h with h|h
        ·exact .inr h
        ·exact .inl (by rw[List.mem_singleton.mp h];exact List.mem_cons_self ..)
      obtain⟨w',h1,h2,h3⟩:=this.mp h';exact⟨w',by lia,h2,h3⟩
     ·rintro⟨w',h1,h2,h3⟩;have hpi:p≠i:=fun z=>by
       rw[z,hw] at h2;injection h2 with h2;exact h3 h2.symm
      rw[List.map_append];rcases this.mpr ⟨w',by lia,h2,h3⟩ with h|h
      ·rcases List.mem_cons.mp h with rfl|h
       ·exact .inr (List.mem_append_right _ (List.mem_singleton.mpr rfl))
       ·exact .inl h
      ·exact .inr (List.mem_append_left _ h)
    ·rw[hz,List.map_append];have hp:(os++((cst ws i).2.map (·.1) ++ [o])).Perm (o::os++(cst ws i).2.map (·.1)):=by
      rw[<- List.append_assoc];exact List.perm_append_comm
     exact hp.nodup_iff.mpr x5
    ·rw[hz];show os.length+2*((cst ws i).2 ++ [(o,i)]).length=i+1;rw[List.length_append,List.length_singleton];rw[List.length_cons] at x6;lia
  ·have hz:=Zf5 hw e;have hcd:∃k,Can SL k (ws.drop i):=ZjE hc i;obtain⟨k,hk⟩:=hcd;rw[ZbT hw] at hk;have hk':=Zew ((Zb0 e).mp hk);cases hp:(bk (ws.drop (i+1))).2 with
   | nil =>
    rw[hp] at hk';cases hk'
   | cons b pl =>
    have hb:bk (ws.drop i)=(.cons w (bk (ws.drop (i+1))).1 b,pl):=by rw[ZbT hw,Zj7 e hp]
    obtain⟨x1,x2,x3,x4,x5,x6⟩:=x;rw[hb] at x1 x2;refine⟨?_,fun m o' h=>?_,fun p e' h=>?_,fun p=>?_,?_,?_⟩
    ·rw[hz,hp,List.length_cons,List.length_cons,x1]
    ·rw[hz] at h;rw[hp];cases m with
     | zero =>
      injection h with h;subst h;rw[hp]
     | succ m =>
      rw[List.getElem?_cons_succ] at h ⊢;exact x2 m o' h
    ·rw[hz] at h;obtain⟨a,b,c⟩:=x3 p e' h;exact⟨a,b,by lia⟩
    ·rw[hz];have:=x4 p;constructor
     ·rintro(h|h)
      ·rcases List.mem_cons.mp h with rfl|h
       ·exact⟨w,by lia,hw,e⟩
       ·obtain⟨w',h1,h2,h3⟩:=this.mp (.inl h);exact⟨w',by lia,h2,h3⟩
      ·obtain⟨w',h1,h2,h3⟩:=this.mp (.inr h);exact⟨w',by lia,h2,h3⟩
     ·rintro⟨w',h1,h2,h3⟩;by_cases hpi:p=i
      ·exact .inl (by rw[hpi];exact List.mem_cons_self ..)
      ·rcases this.mpr ⟨w',by lia,h2,h3⟩ with h|h
       ·exact .inl (List.mem_cons_of_mem _ h)
       ·exact .inr h
    ·rw[hz];refine List.nodup_cons.mpr ⟨fun h=>?_,x5⟩;have h':i∈(cst ws i).1\/i∈(cst ws i).2.map (·.1):=List.mem_append.mp h;obtain⟨_,h1,_⟩:=(x4 i).mp h';lia
    ·rw[hz];show(i::(cst ws i).1).length+2*(cst ws i).2.length=i+1;rw[List.length_cons];lia
def kvC(ps:List (Nat×Nat)):List (Key×V):=ps.map fun p=>(Sum.inl (p.1:Int),V.int (p.2:Int))
theorem ZjH{ps:List (Nat×Nat)}{p:Nat}(h:p∉ps.map (·.1)):Zbg (kvC ps) (Sum.inl (p:Int))=none:=by
 induction ps with
 | nil=>rfl
 | cons x ps ih =>
  rw[List.map_cons,List.mem_cons,not_or] at h;show Zbg ((Sum.inl (x.1:Int),V.int (x.2:Int))::kvC ps) _=none;rw[Zaw (fun z=>h.1 (by injection z with z;exact(Int.ofNat.inj z).symm))];exact ih h.2
theorem ZjA{ps:List (Nat×Nat)}{p e:Nat}(hn:(ps.map (·.1)).Nodup)(h:(p,e)∈ps):Zbg (kvC ps) (Sum.inl (p:Int))=some (.int (e:Int)):=by
 induction ps with
 | nil=>cases h
 | cons x ps ih =>
  rw[List.map_cons,List.nodup_cons] at hn;show Zbg ((Sum.inl (x.1:Int),V.int (x.2:Int))::kvC ps) _=_;rcases List.mem_cons.mp h with e1|h
  ·subst e1;rw[ZaH rfl]
  ·rw[Zaw (fun z=>hn.1 (by injection z with z;rw[show x.1=p from Int.ofNat.inj z];exact List.mem_map.mpr ⟨_,h,rfl⟩))];exact ih hn.2 h
end Fg
namespace Stg
open PySem PyProof.Rows Sts
end Stg
namespace Fg
open PySem L2 FgM
def Zgj(ex:List Addr)(H H':Hp):Prop := ∀b o,b∉ex->H b=some o->H' b=some o
theorem Zgj.trans{ex:List Addr}{H H1 H2:Hp}(a:Zgj ex H H1)(b:Zgj ex H1 H2):Zgj ex H H2:=fun c o hc h=>b c o hc (a c o hc h)
theorem via{u t:TS}{D:Ends}{σ : St}{H:Hp}(R:St->Hp->Prop)(h2:∀ σ' H',R σ' H'->t D σ' H')(h1:(∀ σ' H',R σ' H'->t D σ' H')->u D σ H):u D σ H:=h1 h2
theorem making{H:Hp}{x dx C:Addr}(hx:H x=none)(hdx:H dx=none)(hne:dx≠x):Zu H (upd (upd H dx (.own x)) x (.ins C dx [])):=(Zu.new hdx).trans (Zu.new (by
 rw[Zc hne.symm];exact hx))
def gsz:Gr Str->Nat
 | .nil=>0
 | .cons _ w o=>1+gsz w+gsz o
def Zbs:Gr Str->Nat
 | .nil=>0
 | .cons _ w o=>max (Zbs w+1) (Zbs o)
theorem ZM:∀g:Gr Str,(words SL g).length=2*gsz g
 | .nil=>rfl
 | .cons t w o=>by
  have h1:=ZM w;have h2:=ZM o;simp only[words,gsz,List.length_cons,List.length_append];lia
def prs:Nat->Gr Str->List (Nat×Nat)
 | _,.nil=>[]
 | k,.cons _ w o=>prs (k+1) w++(k,k+1+2*gsz w)::prs (k+2+2*gsz w) o
def atG:Gr Str->Nat->Gr Str
 | .nil,_=>.nil
 | .cons t w o,0=>.cons t w o
 | .cons _ w o,i+1=>if i<=2*gsz w then atG w i else atG o (i-(2*gsz w+1))
theorem Zcu:∀g:Gr Str,atG g 0=g
 | .nil=>rfl
 | .cons _ _ _=>rfl
theorem Zcq{t:Str}{w o:Gr Str}{i:Nat}(h:i<=2*gsz w):atG (.cons t w o) (i+1)=atG w i:=by
 show(if i<=2*gsz w then _ else _)=_
 rw[if_pos h]
theorem ZbM{t:Str}{w o:Gr Str}{i:Nat}:atG (.cons t w o) (i+2*gsz w+2)=atG o i:=by
 show(if i+2*gsz w+1<=2*gsz w then _ else _)=_
 rw[if_neg (by lia)]
 congr 1
 lia
theorem ZeV{t:Str}{w o:Gr Str}{j:Nat}(h:j<2*gsz w):(words SL (.cons t w o))[j+1]?= (words SL w)[j]? := by
 show(t::(words SL w++SL::words SL o))[j+1]?= _;rw[List.getElem?_cons_succ,List.getElem?_append_left (by rw[ZM];exact h)]
theorem Zij{t:Str}{w o:Gr Str}:(words SL (.cons t w o))[2*gsz w+1]?= some SL:=by
 show(t::(words SL w++SL::words SL o))[2*gsz w+1]?= _;rw[List.getElem?_cons_succ,List.getElem?_append_right (by rw[ZM];exact Nat.le_refl _),ZM,Nat.sub_self];rfl
theorem ZdC{t:Str}{w o:Gr Str}{j:Nat}:(words SL (.cons t w o))[j+2*gsz w+2]?= (words SL o)[j]? := by
 show(t::(words SL w++SL::words SL o))[j+2*gsz w+1+1]?= _;rw[List.getElem?_cons_succ,List.getElem?_append_right (by rw[ZM];lia),ZM,show j+2*gsz w+1-2*gsz w=j+1 by lia,List.getElem?_cons_succ]
theorem Zdu:∀(g:Gr Str)(ws:List Str)(k:Nat),ZaW SL g->(∀j,j<2*gsz g->ws[k+j]?= (words SL g)[j]?)->cst ws (k+2*gsz g)=((cst ws k).1,(cst ws k).2++prs k g)
 | .nil,ws,k,_,_=>by
  show cst ws k=((cst ws k).1,(cst ws k).2 ++ []);rw[List.append_nil]
 | .cons t w o,ws,k,hc,h=>by
  obtain⟨ht,hw,ho⟩:=hc;have hz:gsz (.cons t w o)=1+gsz w+gsz o:=rfl;have h0:ws[k]?= some t:=h 0 (by rw[hz];lia);have e1:=Zf5 h0 ht;have e2:=Zdu w ws (k+1) hw fun j hj=>by
   have:=h (j+1) (by rw[hz];lia);rw[ZeV hj] at this;rw[<- this]
   congr 1
   lia
  have h3:ws[k+1+2*gsz w]?= some SL:=by
   have:=h (2*gsz w+1) (by rw[hz];lia);rw[Zij] at this;rw[<- this]
   congr 1
   lia
  rw[e1] at e2;have e3:=ZfP (i:=k+1+2*gsz w) (o:=k) (os:=(cst ws k).1) h3 (by rw[e2]);have e4:=Zdu o ws (k+2+2*gsz w) ho fun j hj=>by
   have:=h (j+2*gsz w+2) (by rw[hz];lia);rw[ZdC] at this;rw[<- this]
   congr 1
   lia
  rw[show k+2*gsz (.cons t w o)=k+2+2*gsz w+2*gsz o by rw[hz];lia,e4,show k+2+2*gsz w=k+1+2*gsz w+1 by lia,e3,e2];show _=(_,_++(prs (k+1) w++(k,k+1+2*gsz w)::prs (k+2+2*gsz w) o));rw[show k+2+2*gsz w=k+1+2*gsz w+1 by lia];simp
theorem Zg0:∀(g:Gr Str)(k p e:Nat),(p,e)∈prs k g->∃i,p=k+i/\∃t w o,atG g i=.cons t w o/\e=p+1+2*gsz w/\atG g (i+1)=w/\atG g (i+2*gsz w+2)=o/\(words SL g)[i]?= some t/\i+2*gsz w+2<=2*gsz g
 | .cons t w o,k,p,e,h=>by
  have hz:gsz (.cons t w o)=1+gsz w+gsz o:=rfl;rcases List.mem_append.mp h with h|h
  ·obtain⟨i,rfl,t',w',o',h1,h2,h3,h4,h5,h6⟩:=Zg0 w (k+1) p e h;refine⟨i+1,by lia,t',w',o',?_,h2,?_,?_,?_,by rw[hz];lia⟩
   ·rw[Zcq (by lia)];exact h1
   ·rw[Zcq (by lia)];exact h3
   ·rw[show i+1+2*gsz w'+2=(i+2*gsz w'+2)+1 by lia,Zcq (by lia)];exact h4
   ·rw[ZeV (by lia)];exact h5
  ·rcases List.mem_cons.mp h with h|h
   ·injection h with h1 h2;subst h1 h2;refine⟨0,rfl,t,w,o,rfl,rfl,?_,?_,rfl,by rw[hz];lia⟩
    ·rw[Zcq (Nat.zero_le _)];exact Zcu w
    ·rw[ZbM];exact Zcu o
   ·obtain⟨i,rfl,t',w',o',h1,h2,h3,h4,h5,h6⟩:=Zg0 o (k+2+2*gsz w) p e h;refine⟨i+2*gsz w+2,by lia,t',w',o',?_,h2,?_,?_,?_,by rw[hz];lia⟩
    ·rw[ZbM];exact h1
    ·rw[show i+2*gsz w+2+1=i+1+2*gsz w+2 by lia,ZbM];exact h3
    ·rw[show i+2*gsz w+2+2*gsz w'+2=(i+2*gsz w'+2)+2*gsz w+2 by lia,ZbM];exact h4
    ·rw[ZdC];exact h5
theorem Zig:∀(g:Gr Str)(k i:Nat),k+i∉(prs k g).map (·.1)->i<=2*gsz g->atG g i=.nil
 | .nil,_,_,_,_=>rfl
 | .cons t w o,k,i,h,hi=>by
  have hz:gsz (.cons t w o)=1+gsz w+gsz o:=rfl;have h':k+i∉(prs (k+1) w).map (·.1)/\k+i≠k/\k+i∉(prs (k+2+2*gsz w) o).map (·.1):=by
   have e:(prs k (.cons t w o)).map (·.1)=(prs (k+1) w).map (·.1)++k::(prs (k+2+2*gsz w) o).map (·.1):=by
    show(prs (k+1) w++(k,k+1+2*gsz w)::prs (k+2+2*gsz w) o).map (·.1)=_;rw[List.map_append,List.map_cons]
   rw[e,List.mem_append,List.mem_cons] at h;exact⟨fun z=>h (.inl z),fun z=>h (.inr (.inl z)),fun z=>h (.inr (.inr z))⟩
  obtain⟨h1,h2,h3⟩:=h'
  match i,h1,h2,h3,hi with
  | 0,_,h2,_,_=>exact absurd rfl h2
  | i+1,h1,_,h3,hi =>
   by_cases c:i<=2*gsz w
   ·rw[Zcq c];exact Zig w (k+1) i (by rw[show k+1+i=k+(i+1) by lia];exact h1) c
   ·obtain⟨j,rfl⟩:∃j,i=j+2*gsz w+1:=⟨i-(2*gsz w+1),by lia⟩;rw[show j+2*gsz w+1+1=j+2*gsz w+2 by lia,ZbM];exact Zig o (k+2+2*gsz w) j (by rw[show k+2+2*gsz w+j=k+(j+2*gsz w+1+1) by lia];exact h3) (by rw[hz] at hi;lia)
theorem ZaO:∀a b:Gr Str,gsz (ZaZ a b)=gsz a+gsz b
 | .nil,b=>by simp[ZaZ,gsz]
 | .cons t w o,b=>by simp only[ZaZ,gsz,ZaO o b];lia
theorem ZbV:∀a b:Gr Str,Zbs (ZaZ a b)=max (Zbs a) (Zbs b)
 | .nil,b=>by simp[ZaZ,Zbs]
 | .cons t w o,b=>by simp only[ZaZ,Zbs,ZbV o b];lia
end Fg
namespace Srd
open PySem PyProof.Rows
section
variable{prog:Program}{w:World}{A:Around}{E:Value->Shared->Prop}{R:Result->Shared->Prop}
abbrev TK3:=List L2.Key×Addr×Value
def ZaY(m:List TK3)(ps:List TK3):List TK3:=ps.foldl (fun m p=>storedH m p.1 p.2.1 p.2.2) m
theorem ZfS{m:List TK3}{k:List L2.Key}{a:Addr}{v:Value}{x:TK3}(h:x∈storedH m k a v):(∃y∈m,y.1=x.1/\y.2.1=x.2.1)\/(x.1=k/\x.2.1=a):=by
 unfold storedH at h
 split at h
 ·obtain⟨y,hy,rfl⟩:=List.mem_map.mp h;refine .inl ⟨y,hy,?_⟩;unfold putAt
  split <;> exact⟨rfl,rfl⟩
 ·rcases List.mem_append.mp h with h|h
  ·exact .inl ⟨x,h,rfl,rfl⟩
  ·rw[List.mem_singleton.mp h];exact .inr ⟨rfl,rfl⟩
theorem Zf1(m:List TK3)(k:List L2.Key)(a:Addr)(v:Value):(storedH m k a v).length<=m.length+1:=by
 unfold storedH
 split
 ·rw[List.length_map];lia
 ·rw[List.length_append];exact Nat.le_refl _
theorem ZdG:∀(ps m:List TK3),(ZaY m ps).length<=m.length+ps.length
 | [],m=>Nat.le_refl _
 | p::ps,m=>by
  have h1:=ZdG ps (storedH m p.1 p.2.1 p.2.2);have h2:=Zf1 m p.1 p.2.1 p.2.2;show(ZaY (storedH m p.1 p.2.1 p.2.2) ps).length<=_;rw[List.length_cons];lia
theorem Zeh{D:Addr}:∀(ps m:List TK3),(∀x∈m,x.2.1<D)->(∀x∈ps,x.2.1<D)->∀x∈ZaY m ps,x.2.1<D
 | [],m,h,_=>h
 | p::ps,m,h,hp=>Zeh ps _ (fun x hx=>by
   rcases ZfS hx with⟨y,hy,_,e⟩|⟨_,e⟩
   ·rw[<- e];exact h y hy
   ·rw[e];exact hp p (List.mem_cons_self ..)) fun x hx=>hp x (List.mem_cons_of_mem _ hx)
theorem Zfy(ps:List TK3)(i:Nat)(p:TK3)(h:ps[i]?= some p):ZaY [] (ps.take (i+1))=storedH (ZaY [] (ps.take i)) p.1 p.2.1 p.2.2:=by
 unfold ZaY;have e:ps.take (i+1)=ps.take i ++ [p]:=by
  obtain⟨hi,e⟩:=List.getElem?_eq_some_iff.mp h;rw[List.take_succ_eq_append_getElem hi,e]
 rw[e,List.foldl_append];rfl
abbrev tkn(prog:Program)(w:World):HeapKind prog w (List L2.Key):=tupleKind (L2.Z0 prog w)
theorem Zgu{h h':Heap}{k:List L2.Key}{a:Addr}(x:(tkn prog w).is h k a)(e:∀o,h.get? a=some o->h'.get? a=some o):(tkn prog w).is h' k a:=by
 obtain⟨o,its,n,h1,h2⟩:=x;exact⟨o,its,n,e o h1,h2⟩
def Zk0(prog:Program)(w:World)(h:Heap)(v:Value)(p:TK3):Prop := ∃b o n,v=.ref b/\h.get? b=some o/\o.cls=.type "tuple" /\ o.data=.seq #[.ref p.2.1,p.2.2] n/\(tkn prog w).is h p.1 p.2.1
def Zkc(prog:Program)(w:World)(h0:Heap)(d:Addr)(items:Array Value)(ps:List TK3):Prop:=items.size=ps.length/\(∀p∈ps,p.2.1<d)/\∀(i:Nat) v p,items[i]?= some v->ps[i]?= some p->∀h:Heap,(∀b o,b<d->h0.get? b=some o->h.get? b=some o)->Zk0 prog w h v p
theorem Zf4{s:Shared}{v:Value}{p:TK3}{Q:List Value->Shared->Prop}(hp:Zk0 prog w s.heap v p)(q:(tkn prog w).is s.heap p.1 p.2.1->Q [.ref p.2.1,p.2.2] s):wpAny (model prog w) A (Builtin.Dict.pairItems v) Q E s:=by
 obtain⟨b,o,n,rfl,ho,hc,hd,hk⟩:=hp;unfold Builtin.Dict.pairItems;refine wpAny_bind (wpAny_typeOf (T := "tuple") ⟨o,ho,hc⟩ ?_);rw[if_pos (by decide)];exact wpAny_bind (wpAny_seqItems ho hd (wpAny_pure (q hk)))
set_option maxHeartbeats 1000000 in
theorem ZhB{h0:Heap}{D I l:Addr}{items:Array Value}{ps:List TK3}(hh:A.in1.handled=none)(hu:(tkn prog w).room A.in1)(ht:Zkc prog w h0 D items ps)(hDI:D<I)(hlI:l≠I)(hn:items.size<=100000):∀(k i:Nat)(j:Int)(jt:Tok)(s:Shared),items.size-i=k->i<=items.size->(s.heap.IsListIter I l i/\s.heap.IsList l items)->l<D->s.heap.DictOfH (tkn prog w) D (ZaY [] (ps.take i))->(∀b o,b<D->h0.get? b=some o->s.heap.get? b=some o) ->
   (∀h' tk,h'.DictOfH (tkn prog w) D (ZaY [] ps)->(∀b o,b<D->h0.get? b=some o->h'.get? b=some o)->R (.ok (.ret .none)) { s with heap:=h',toks:=tk })->codeAny (model prog w) A (.builtin "dict.update.loop" ⟨[.ref D,.ref I,.int j jt,.none],[]⟩) R s:=by
 have W:=Walks.list (prog:=prog) (w:=w) (A:=A.in1) hh I l hlI items;have DK:∀{h h':Heap}{i:Nat},h.DictOfH (tkn prog w) D (ZaY [] (ps.take i))->(∀b o,b<=D->h.get? b=some o->h'.get? b=some o)->h'.DictOfH (tkn prog w) D (ZaY [] (ps.take i)):=fun{h h' i} ⟨o,es,ep,ho,h1,h2,h3,h4,h5⟩ hk=>⟨o,es,ep,hk D o (Nat.le_refl _) ho,h1,h2,h3,fun x hx=>Zgu (h4 x hx) fun o e=>hk _ o (Nat.le_of_lt (Zeh _ [] (fun _ h=>nomatch h) (fun y hy=>ht.2.1 y (List.mem_of_mem_take hy)) x hx)) e,h5⟩
 intro k
 induction k with
 | zero =>
  intro i j jt s hk hi hst hlD hd hb hR;obtain rfl:i=items.size:=by lia
  refine codeAny_builtin Zaa ?_;rw[Around.under_plainId Zv _];change wpAny _ A.in1 (pyNext (.ref I) >>= _) _ _ s;refine wpAny_bind (W.done s _ _ hst fun h' tk hm=>?_);change wpAny _ A.in1 (Builtin.Dict.addKeywords D [] >>= fun _=>ret Value.none) _ _ _;refine wpAny_bind ?_;unfold Builtin.Dict.addKeywords;refine wpAny_pure (wpAny_pure ?_);have hd':=DK hd fun b o hb' e=>hm b o (fun z=>Nat.lt_irrefl _ (Nat.lt_of_le_of_lt (List.mem_singleton.mp z ▸ hb') hDI)) e;rw[ht.1,List.take_length] at hd';exact hR h' tk hd' fun b o hb' e=>hm b o (fun z=>Nat.lt_irrefl _ (Nat.lt_trans (List.mem_singleton.mp z ▸ hb') hDI)) (hb b o hb' e)
 | succ k ih =>
  intro i j jt s hk hi hst hlD hd hb hR;have hlt:i<items.size:=by lia
  refine codeAny_builtin Zaa ?_;rw[Around.under_plainId Zv _];change wpAny _ A.in1 (pyNext (.ref I) >>= _) _ _ s;refine wpAny_bind (W.item i s _ _ hlt hst fun v h' tk hP hst' hm=>?_);have hd':=DK hd fun b o hb' e=>hm b o (fun z=>Nat.lt_irrefl _ (Nat.lt_of_le_of_lt (List.mem_singleton.mp z ▸ hb') hDI)) e;have hb1:∀b o,b<D->h0.get? b=some o->h'.get? b=some o:=fun b o hb' e=>hm b o (fun z=>Nat.lt_irrefl _ (Nat.lt_trans (List.mem_singleton.mp z ▸ hb') hDI)) (hb b o hb' e);have hpl:i<ps.length:=by have:=ht.1;lia
  have hp:=ht.2.2 i v ps[i] hP (List.getElem?_eq_getElem hpl) h' hb1;refine wpAny_bind (wpAny_holding (wpAny_bind (wpAny_tryCatch (Zf4 (s:={ s with heap:=h',toks:=tk }) hp fun huk=>?_))));dsimp only;have hml:(ZaY [] (ps.take i)).length<=sizeLine:=by
   have:=ZdG (ps.take i) [];rw[List.length_take] at this;have h0l:([]:List TK3).length=0:=rfl;have:=ht.1;rw[sizeLine_eq];lia
  refine wpAny_holding (wpAny_dictSet_heap (s:={ s with heap:=h',toks:=tk }) (hsz:=hml) hu huk hd' fun h2 hd2 sb=>?_);have hk2:∀b o,b≠D->h'.get? b=some o->h2.get? b=some o:=fun b o hb e=>(sb.2 b hb).trans e;refine wpAny_pure ⟨plainId_quiet Zv _,ih (i+1) (j+1) 0 _ (by lia) hlt ?_ hlD ?_ (fun b o hb' e=>hk2 b o (Nat.ne_of_lt hb') (hb1 b o hb' e)) fun h3 tk3 hw3 hb3=>hR h3 tk3 hw3 hb3⟩
  ·refine W.frame _ h' h2 hst' fun b hb o e=>hk2 b o (fun z=>?_) e;simp only[List.mem_cons,List.not_mem_nil,or_false] at hb;rcases hb with rfl|rfl
   ·exact Nat.lt_irrefl _ (z ▸ hDI)
   ·exact Nat.lt_irrefl _ (z ▸ hlD)
  ·rw[Zfy ps i ps[i] (List.getElem?_eq_getElem hpl)];exact hd2
set_option maxHeartbeats 1000000 in
theorem ZcS{s:Shared}{l:Addr}{items:Array Value}{n:Nat}{sl:Array (Option Value)}{ps:List TK3}{Q:Value->Shared->Prop}(hh:A.handled=none)(hu:A.units+2<cLine)(hl:s.heap.get? l=some { cls:=.type "list",dict:=none,data:=.seq items n,slots:=sl }) (ht:Zkc prog w s.heap s.heap.objs.size items ps) (hn:items.size<=100000)
  (q:∀(h':Heap)(tk:Nat),h'.DictOfH (tkn prog w) s.heap.objs.size (ZaY [] ps)->(∀b o,s.heap.get? b=some o->h'.get? b=some o)->Q (.ref s.heap.objs.size) { s with heap:=h',toks:=tk }) :
  wpAny (model prog w) A (call (.type "dict") [.ref l]) Q E s:=by
 refine callType_codes (Q₁ := fun obj s₁=>obj=.ref s.heap.objs.size/\s₁ = { s with heap:=s.heap.push { cls:=.type "dict",data:=.dict #[] } }) F.kt_called_dict (F.kt_typeCall_dict_1 _) F.entry_dict_init (kt_code_dict_new _ ⟨rfl,rfl⟩) ?_;rintro obj s₁ ⟨rfl,rfl⟩;have hnew:(s.heap.push { cls:=.type "dict",data:=.dict #[] }).DictOfH (tkn prog w) s.heap.objs.size []:=Heap.DictOfH.new s.heap;have hl1:(s.heap.push { cls:=.type "dict",data:=.dict #[] }).get? l=some { cls:=.type "list",dict:=none,data:=.seq items n,slots:=sl }:=Heap.get?_push_of_some _ hl;have hlD:l<s.heap.objs.size:=Heap.lt_size hl;have k0:∀b o,b<s.heap.objs.size->s.heap.get? b=some o->(s.heap.push { cls:=.type "dict",data:=.dict #[] }).get? b=some o:=fun b o _ e=>Heap.get?_push_of_some _ e;have z0:(s.heap.push { cls:=.type "dict",data:=.dict #[] }).objs.size=s.heap.objs.size+1:=Heap.size_push ..;refine⟨hnew.typeIs,F.args_dict_init_2 _ _,?_⟩;generalize s.heap.push { cls:=.type "dict",data:=.dict #[] }=h1 at hnew hl1 k0 z0;unfold Builtin.«dict.__init__»;refine wpAny_bind ?_;unfold Builtin.Dict.selfAndRest;refine wpAny_bind (wpAny_notOrdered_dict hnew.typeIs ?_);show wpAny _ _ (pure (s.heap.objs.size,[Value.ref l])) _ _ _;refine wpAny_pure ?_;show wpAny _ _ (Builtin.Dict.updateFrom "dict.__init__" s.heap.objs.size (.ref l) [] .none) _ _ _;unfold Builtin.Dict.updateFrom;refine wpAny_bind (wpAny_typeOf (T := "list") ⟨_,hl1,rfl⟩ ?_);rw[if_pos (by decide)];refine wpAny_bind (Zcd hh hl1 fun h2 tk2 k2 z2=>?_);rw[if_pos (show(none:Option Value).isNone=true from rfl)];refine wpAny_bind (wpAny_rule ?_);have hl2:=k2 _ _ hl1;have hL2:h2.IsList l items:=⟨_,hl2,rfl,n,rfl⟩;refine wpAny_bind (wpAny_pyIter_list hL2 ?_);have hd3:(h2.push { cls:=.type "list_iterator",data:=.fields #[.ref l,.int 0 0] }).DictOfH (tkn prog w) s.heap.objs.size []:=by
  obtain⟨o,es,ep,ho,h1,h2,h3,h4,h5⟩:=hnew;exact⟨o,es,ep,Heap.get?_push_of_some _ (k2 _ _ ho),h1,h2,h3,fun x hx=>(nomatch hx),h5⟩
 have hsz:s.heap.objs.size<h2.objs.size:=by lia
 refine wpAny_pure ⟨plainId_quiet Zv _,?_⟩;refine ZhB (h0:=s.heap) (by simpa using hh) ?_ ht hsz (Nat.ne_of_lt (Nat.lt_trans hlD hsz)) hn (items.size-0) 0 0 0 _ rfl (Nat.zero_le _) ⟨⟨_,Heap.get?_push_size _ rfl,rfl,rfl⟩,hL2.push _⟩ hlD hd3 (fun b o hb e=>Heap.get?_push_of_some _ (k2 _ _ (k0 b o hb e))) fun h' tk hd' hb'=>?_
 ·exact tupleKind_room_in1 (by show _<cLine;simp;lia)
 exact⟨rfl,q h' tk hd' fun b o e=>hb' b o (Heap.lt_size e) e⟩
end
end Srd
namespace L2
open PySem PySem.Spec PyProof.Rows PySem.W Srd
def putAllT(kvs:List (List Key×V)):List (List Key×V):=kvs.foldl (fun m kv=>putK m kv.1 kv.2) []
theorem ZbN:∀(kvs m:List (List Key×V)),(kvs.foldl (fun m kv=>putK m kv.1 kv.2) m).length<=m.length+kvs.length
 | [],m=>Nat.le_refl _
 | kv::kvs,m=>by
  have h1:=ZbN kvs (putK m kv.1 kv.2);have h2:=ZaQ m kv.1 kv.2;rw[List.length_cons,List.foldl_cons];lia
theorem Zj5{H:Hp}:∀{kvs:List (List Key×V)}{ps:List TK3}{m:List (List Key×V)}{m':List TK3},KT H kvs ps->KT H m m'->KT H (kvs.foldl (fun m kv=>putK m kv.1 kv.2) m) (ZaY m' ps)
 | _,_,_,_,.nil,h=>h
 | _,_,m,m',.cons (a:=kv) (b:=p) r t,h=>by
  have e:p.1=kv.1:=r.1.symm;have h1:=h.put kv.1 r.2.1 r.2.2;have h2:=Zj5 t h1;show KT H (List.foldl _ (putK m kv.1 kv.2) _) (ZaY (storedH m' p.1 p.2.1 p.2.2) _);rw[e];exact h2
section
variable{X:Cx}
theorem Zdt(hc:X.calm=true)(hu:X.A.units+2<cLine):ZcR X (.type "dict") (fun xs H Q=>∃l ys kvs,xs=[.ref l]/\SqL X.K H l ys/\ys.length<=90000/\Paired (fun(y:V)(kv:List Key×V)=>∃t b,y=.ref t/\H t=some (.tup [.ref b,kv.2])/\H b=some (.tup (kv.1.map kV))) ys kvs/\∀d,H d=none->Q (.ref d) (upd H d (.dT (putAllT kvs)))):=by
 intro pins s σ H xs us Q I r h;obtain⟨l,ys,kvs,rfl,hq,hlen,hp,q⟩:=h;obtain⟨u,rfl,ru⟩:=vals1 r;cases ru;obtain⟨its,rv,⟨o,n,ho,ocl,odi,oda⟩,hz⟩:=I.list hq;have hl:=rv.length;obtain⟨ocls,odict,odata,oslots⟩:=o;simp only at ocl odi oda;subst ocl odi oda;have key:∀{ys:List V}{kvs:List (List Key×V)}{its:List Value},Paired (fun(y:V)(kv:List Key×V)=>∃t b,y=.ref t/\H t=some (.tup [.ref b,kv.2])/\H b=some (.tup (kv.1.map kV))) ys kvs->Vals ys its->∃ps:List TK3,KT H kvs ps/\its.length=ps.length/\(∀p∈ps,p.2.1<s.heap.objs.size)/\∀(i:Nat) v p,its[i]?= some v->ps[i]?= some p->Zk0 X.prog X.w s.heap v p:=by
  intro ys kvs its hp
  induction hp generalizing its with
  | nil =>
   intro rv;cases rv;exact⟨[],.nil,rfl,fun _ h=>(nomatch h),fun i v p h=>(nomatch h)⟩
  | @cons y kv ys kvs r t ih =>
   intro rv;cases rv with
   | @cons _ v _ its ry rr =>
    obtain⟨ps,h1,h2,h4,h3⟩:=ih rr;obtain⟨ta,tb,rfl,ht,hb⟩:=r;obtain rfl:v=Value.ref ta:=ry;obtain⟨_,us,rus,o,ho,hc',n,hd⟩:=I.hok ta _ ht;obtain⟨u1,u2,rfl,r1,r2⟩:=Vals.two rus;obtain rfl:u1=Value.ref tb:=r1;have hk:=ZfJ I.hok hb;refine⟨(kv.1,tb,u2)::ps,.cons ⟨rfl,hb,r2⟩ h1,by rw[List.length_cons,List.length_cons,h2],fun p hp=>?_,fun i v p e1 e2=>?_⟩
    ·rcases List.mem_cons.mp hp with rfl|hp
     ·obtain⟨o,its,n,h5,_⟩:=hk;exact Heap.lt_size h5
     ·exact h4 p hp
    ·cases i with
     | zero =>
      injection e1 with e1;injection e2 with e2;subst e1 e2;exact⟨ta,o,n,rfl,ho,hc',hd,hk⟩
     | succ i=>exact h3 i v p e1 e2
 obtain⟨ps,h1,h2,h4,h3⟩:=key hp rv;refine Srd.ZcS (ps:=ps) (I.ok.hd hc) hu ho ⟨by rw[List.size_toArray];exact h2,h4,fun i v p e1 e2 h' hk=>?_⟩ (by rw[List.size_toArray];lia) fun h' tk hd' hk=>?_
 ·obtain⟨b,o,n,e,ho2,h5,h6,h7⟩:=h3 i v p (by rw[<- e1];simp) e2;exact⟨b,o,n,e,hk b o (Heap.lt_size ho2) ho2,h5,h6,Zgu h7 fun o e=>hk _ o (Heap.lt_size e) e⟩
 ·have hkl:kvs.length=ps.length:=h1.length;have hpl:(putAllT kvs).length<=kvs.length:=by
   have:=ZbN kvs [];rw[List.length_nil,Nat.zero_add] at this;exact this
  obtain⟨o,es,ep,g1,g2,g3,g4,g5,g6⟩:=hd';have hf:H s.heap.objs.size=none:=I.hok.fresh (Nat.le_refl _);exact⟨.ref _,_,I.laid (t':=tk) (fun b o e=>hk b o e) (Nat.le_refl _) (show Zar X.prog X.w _ h' _ (.dT (putAllT kvs)) from⟨by rw[sizeLine_eq];lia,beq_eq_false_iff_ne.mpr (Ne.symm (Nat.ne_of_lt I.big)),_,(Zj5 h1 .nil).keeps fun b ys e=>by rw[Zc (Zm e hf)];exact e,o,es,ep,g1,g2,g3,g4,g6⟩),rfl,q _ hf⟩
end
end L2
namespace Fg
open PySem L2 FgM
inductive Pa where
 | nil
 | kids (m:Int) (o:Pa)
 | tag (t:Str) (w o:Pa)
inductive RepP(H:Hp):List V->Pa->Prop
 | nil:RepP H [] .nil
 | kids {a:Addr} {m:Int} {vs:List V} {o:Pa}:H a=some (.tup [.str "kids",.int m])->RepP H vs o->RepP H (.ref a::vs) (.kids m o)
 | tag {a q:Addr} {t:Str} {ys vs:List V} {w o:Pa}:H a=some (.tup [.str "tag",.str t,.ref q])->H q=some (.tup ys)->RepP H ys w->RepP H vs o->RepP H (.ref a::vs) (.tag t w o)
theorem RepP.mono{H H':Hp}(k:TK H H'):∀{vs:List V}{g:Pa},RepP H vs g->RepP H' vs g
 | _,_,.nil=>.nil
 | _,_,.kids h1 h2=>.kids (k _ _ h1) (h2.mono k)
 | _,_,.tag h1 h2 h3 h4=>.tag (k _ _ h1) (k _ _ h2) (h3.mono k) (h4.mono k)
namespace Pa
def app:Pa->Pa->Pa
 | .nil,q=>q
 | .kids m o,q=>.kids m (app o q)
 | .tag t w o,q=>.tag t w (app o q)
def nk:Pa->Nat
 | .nil=>0
 | .kids _ o=>1+nk o
 | .tag _ w o=>nk w+nk o
def sz:Pa->Nat
 | .nil=>0
 | .kids _ o=>1+sz o
 | .tag _ w o=>1+sz w+sz o
def dep:Pa->Nat
 | .nil=>0
 | .kids _ o=>dep o
 | .tag _ w o=>max (dep w+1) (dep o)
def ks:Pa->List Int
 | .nil=>[]
 | .kids m o=>m::ks o
 | .tag _ w o=>ks w++ks o
def tags:Pa->List Str
 | .nil=>[]
 | .kids _ o=>tags o
 | .tag t w o=>t::(tags w++tags o)
theorem ZdT:∀p:Pa,dep p<=sz p
 | .nil=>Nat.le_refl _
 | .kids m o=>by have:=ZdT o;simp only[dep,sz];lia
 | .tag t w o=>by have:=ZdT w;have:=ZdT o;simp only[dep,sz];lia
theorem ZgU:∀p q:Pa,nk (app p q)=nk p+nk q
 | .nil,q=>by simp[app,nk]
 | .kids m o,q=>by simp only[app,nk,ZgU o q];lia
 | .tag t w o,q=>by simp only[app,nk,ZgU o q];lia
theorem Zeg:∀p q:Pa,sz (app p q)=sz p+sz q
 | .nil,q=>by simp[app,sz]
 | .kids m o,q=>by simp only[app,sz,Zeg o q];lia
 | .tag t w o,q=>by simp only[app,sz,Zeg o q];lia
theorem Zbf:∀p q:Pa,ks (app p q)=ks p++ks q
 | .nil,q=>rfl
 | .kids m o,q=>by simp[app,ks,Zbf o q]
 | .tag t w o,q=>by simp[app,ks,Zbf o q]
theorem Zc8:∀p q:Pa,tags (app p q)=tags p++tags q
 | .nil,q=>rfl
 | .kids m o,q=>by simp[app,tags,Zc8 o q]
 | .tag t w o,q=>by simp[app,tags,Zc8 o q]
def take:Nat->Pa->Pa
 | 0,_=>.nil
 | _+1,.nil=>.nil
 | i+1,.kids m o=>.kids m (take i o)
 | i+1,.tag t w o=>.tag t w (take i o)
end Pa
theorem RepP.app{H:Hp}:∀{xs ys:List V}{p q:Pa},RepP H xs p->RepP H ys q->RepP H (xs++ys) (p.app q)
 | _,_,_,_,.nil,h=>h
 | _,_,_,_,.kids h1 h2,h=>.kids h1 (h2.app h)
 | _,_,_,_,.tag h1 h2 h3 h4,h=>.tag h1 h2 h3 (h4.app h)
theorem RepP.length{H:Hp}:∀{xs:List V}{p:Pa},RepP H xs p->xs.length<=p.sz
 | _,_,.nil=>Nat.le_refl _
 | _,_,.kids _ h=>by have:=h.length;simp only[Pa.sz,List.length_cons];lia
 | _,_,.tag _ _ _ h=>by have:=h.length;simp only[Pa.sz,List.length_cons];lia
theorem RepP.at{H:Hp}:∀{xs:List V}{p:Pa},RepP H xs p->∀(i:Nat) z,xs[i]?= some z->∃a,z=V.ref a/\((∃m,H a=some (.tup [.str "kids",.int m])/\p.take (i+1)=(p.take i).app (Pa.kids m Pa.nil))\/∃t q ys w,H a=some (.tup [.str "tag",.str t,.ref q])/\H q=some (.tup ys)/\RepP H ys w/\p.take (i+1)=(p.take i).app (Pa.tag t w Pa.nil)/\w.dep<p.dep/\w.sz<p.sz)
 | _,_,.kids h1 h2,i,z,hz=>by
  cases i with
  | zero =>
   injection hz with hz;subst hz;exact⟨_,rfl,.inl ⟨_,h1,rfl⟩⟩
  | succ i =>
   obtain⟨a,e,h⟩:=h2.at i z hz;refine⟨a,e,?_⟩;rcases h with⟨m,g1,g2⟩|⟨t,q,ys,w,g1,g2,g3,g4,g5,g6⟩
   ·exact .inl ⟨m,g1,by show Pa.kids _ (Pa.take (i+1) _)=Pa.kids _ ((Pa.take i _).app _);rw[g2]⟩
   ·exact .inr ⟨t,q,ys,w,g1,g2,g3,by show Pa.kids _ (Pa.take (i+1) _)=Pa.kids _ ((Pa.take i _).app _);rw[g4],g5,by simp only[Pa.sz];lia⟩
 | _,_,.tag h1 h2 h3 h4,i,z,hz=>by
  cases i with
  | zero =>
   injection hz with hz;subst hz;exact⟨_,rfl,.inr ⟨_,_,_,_,h1,h2,h3,rfl,by simp only[Pa.dep];lia,by simp only[Pa.sz];lia⟩⟩
  | succ i =>
   obtain⟨a,e,h⟩:=h4.at i z hz;refine⟨a,e,?_⟩;rcases h with⟨m,g1,g2⟩|⟨t,q,ys,w,g1,g2,g3,g4,g5,g6⟩
   ·exact .inl ⟨m,g1,by show Pa.tag _ _ (Pa.take (i+1) _)=Pa.tag _ _ ((Pa.take i _).app _);rw[g2]⟩
   ·exact .inr ⟨t,q,ys,w,g1,g2,g3,by show Pa.tag _ _ (Pa.take (i+1) _)=Pa.tag _ _ ((Pa.take i _).app _);rw[g4],by simp only[Pa.dep];lia,by simp only[Pa.sz];lia⟩
theorem RepP.take_all{H:Hp}:∀{xs:List V}{p:Pa},RepP H xs p->p.take xs.length=p
 | _,_,.nil=>rfl
 | _,_,.kids _ h=>by show Pa.kids _ (Pa.take _ _)=_;rw[h.take_all]
 | _,_,.tag _ _ _ h=>by show Pa.tag _ _ (Pa.take _ _)=_;rw[h.take_all]
theorem Pa.take_sz:∀(i:Nat)(p:Pa),(p.take i).sz<=p.sz
 | 0,_=>Nat.zero_le _
 | _+1,.nil=>Nat.le_refl _
 | i+1,.kids m o=>by have:=Pa.take_sz i o;simp only[Pa.take,Pa.sz];lia
 | i+1,.tag t w o=>by have:=Pa.take_sz i o;simp only[Pa.take,Pa.sz];lia
abbrev Kn:=Int->Str->Option Pa
def KnR(H:Hp)(m:List (List Key×V))(kn:Kn):Prop := ∀(i:Int)(t:Str),(Zbg m [Sum.inl i,Sum.inr t]=none/\kn i t=none)\/∃q ys p,Zbg m [Sum.inl i,Sum.inr t]=some (.ref q)/\H q=some (.tup ys)/\RepP H ys p/\kn i t=some p
theorem KnR.tk{H H':Hp}{m:List (List Key×V)}{kn:Kn}(h:KnR H m kn)(k:TK H H'):KnR H' m kn:=fun i t=>by
 rcases h i t with h|⟨q,ys,p,h1,h2,h3,h4⟩
 ·exact .inl h
 ·exact .inr ⟨q,ys,p,h1,k _ _ h2,h3.mono k,h4⟩
end Fg
namespace L2
open PySem PySem.Spec PyProof.Rows PySem.W
section
variable{X:Cx}{pins:List (Addr×Obj)}{σ : St}{H:Hp}{s:Shared}{d:Addr}{ob:Obj}{kvs:List (Key×V)}
theorem Inv.freeze(I:Inv X pins σ H s)(hd:H d=some (.dK kvs))(ho:s.heap.get? d=some ob):Inv X pins σ (upd H d (.frz ob (.dK kvs))) s:=by
 have q:=I.hok d _ hd;exact I.write (x:=d) (e:=d) (h':=s.heap) (t':=s.toks) (by rw[hd];trivial) (.inl rfl) (fun b u _ q=>q) ⟨ob,ho⟩ ⟨ho,q⟩
theorem Inv.thaw(I:Inv X pins σ H s)(hd:H d=some (.frz ob (.dK kvs)))(nf:∀o u,X.H₀ d≠some (.frz o u)):Inv X pins σ (upd H d (.dK kvs)) s:=by
 obtain⟨hob,q⟩:=(show Zar X.prog X.w H s.heap d (.frz ob (.dK kvs)) from I.hok d _ hd);have nn:∀b,H b=none->b≠d:=fun b e z=>by rw[z,hd] at e;cases e
 refine⟨I.ok,I.os,I.bare,⟨I.base.keep,I.base.slot,fun b o e n hx=>?_,I.base.there,fun b xs e=>?_,fun b o u e=>?_,fun b ps e=>?_⟩,I.loc,I.cell,?_,fun x c e=>?_,fun p hp=>?_,fun b u e=>?_,I.len⟩
 ·have:=I.base.free b o e n hx;rw[Zc (nn b this)];exact this
 ·have:=I.base.tups b xs e;rw[Zc (fun z=>by rw[z,hd] at this;cases this)];exact this
 ·have:=I.base.frzs b o u e;rw[Zc (fun z=>nf o u (by rw[<- z];exact e))];exact this
 ·obtain⟨m,this⟩:=I.base.tbls b ps e;exact⟨m,by rw[Zc (fun z=>by rw[z,hd] at this;cases this)];exact this⟩
 ·rw[Zc (nn _ I.free)];exact I.free
 ·rw[Zc (nn _ (I.freeC x c e))];exact I.freeC x c e
 ·obtain⟨e,n,r⟩:=I.pin p hp;exact⟨e,by rw[Zc (nn _ n)];exact n,r⟩
 ·by_cases hb:b=d
  ·subst hb;rw[Zb] at e;cases e;exact q
  ·rw[Zc hb] at e;exact(I.hok b u e).stay (fun c v _ q=>q) (fun c q=>by rw[Zc (fun z=>by rw[z,hd] at q;cases q)];exact q) fun c xs q=>by rw[Zc (fun z=>by rw[z,hd] at q;cases q)];exact q
end
def Itd(d:Addr)(ob:Obj)(kvs:List (Key×V)):It:=⟨fun i H=>H d=some (.frz ob (.dK kvs))/\i<kvs.length,fun i H x H'=>H'=H/\∃k v,kvs[i]?= some (k,v)/\x=kV k,fun i H=>H d=some (.frz ob (.dK kvs))/\kvs.length<=i⟩
theorem Zkv{P:Program}{w:World}{k:Key}{u:Value}(h:(Z0 P w).is k u=true):RelV (kV k) u:=by
 rcases Z8 (show Zfc k u=true from h) with⟨i,t,rfl,rfl⟩|⟨x,t,rfl,rfl⟩
 ·exact⟨t,rfl⟩
 ·exact⟨t,rfl⟩
theorem ZlR{kvs:List (Key×V)}{vs:List (Key×Value)}(h:KV kvs vs):kvs.length=vs.length/\∀(i:Nat) k v,kvs[i]?= some (k,v)->∃u,vs[i]?= some (k,u):=by
 have h':Paired (fun(p:Key×V)(q:Key×Value)=>p.1=q.1/\RelV p.2 q.2) kvs vs:=h;clear h
 induction h' with
 | nil=>exact⟨rfl,fun i k v e=>by cases i <;> cases e⟩
 | @cons a b l m r t ih =>
  refine⟨congrArg (· + 1) ih.1,fun i k v e=>?_⟩;cases i with
  | zero =>
   injection e with e;subst e;exact⟨b.2,by rw[show k=b.1 from r.1];rfl⟩
  | succ i=>exact ih.2 i k v e
theorem ZiK{P:Program}{w:World}{K:PySem.W.Frag}{tg:Expr}(d:Addr)(ob:Obj)(kvs:List (Key×V))(vs:List (Key×Value))(ep:Nat)(rel:KV kvs vs)(hdat:∀h:Heap,h.get? d=some ob->h.DictAt (Z0 P w) d vs ep)(it:Addr) :
  Turn P w K tg (Itd d ob kvs) [it] it (fun i h=>h.IsKeyIter it d i vs.length ep) where
 mem:=by simp
 obj:=fun i h st b hb=>by
  have e:b=it:=by simpa using hb
  subst e;obtain⟨o,e,c,dd⟩:=st;exact⟨o,e,fun v z=>by rw[dd] at z;cases z⟩
 keep:=fun i h h' st k=>st.at fun o e=>k it (by simp) o e
 item:=by
  intro X hP hw hK hc i pins s σ H E I hf st hg;subst hP hw hK;obtain⟨hH,hi⟩:=hg;obtain⟨hob,_⟩:=(show Zar X.prog X.w H s.heap d (.frz ob (.dK kvs)) from I.hok d _ hH);obtain⟨hl,hat⟩:=ZlR rel;obtain⟨k,v,hx⟩:∃k v,kvs[i]?= some (k,v):=⟨kvs[i].1,kvs[i].2,by simp[hi]⟩;obtain⟨u,hu⟩:=hat i k v hx;obtain⟨f0,f1,f2,f3,f4,f5⟩:=hf it (by simp);refine wpAny_pyNext_dict_item st (hdat _ hob) hu fun key h' hkey st' sb=>?_;have I1:Inv X pins σ H { s with heap:=h' }:=I.turned (t':=s.toks) (fun b o hb e=>(sb.2 b hb).trans e) f0 f1 f3 f4 f5;obtain⟨o,e,c,dd⟩:=id st';exact⟨key,rfl,Zi4 (s:={ s with heap:=h' }) e c dd (by decide) ⟨kV k,H,I1,Zkv hkey,⟨rfl,k,v,hx,rfl⟩,st',fun b hb=>(hf b hb).1⟩⟩
 done:=by
  intro X hP hw hK hc i pins s σ H E I hf st hg;subst hP hw hK;obtain⟨hH,hi⟩:=hg;obtain⟨hob,_⟩:=(show Zar X.prog X.w H s.heap d (.frz ob (.dK kvs)) from I.hok d _ hH);obtain⟨hl,hat⟩:=ZlR rel;obtain⟨f0,f1,f2,f3,f4,f5⟩:=hf it (by simp);exact wpAny_pyNext_dict_end (I.ok.hd hc) st (hdat _ hob) (by simp;lia) fun h' eb=>⟨rfl,I.turned (t':=s.toks) (fun b o hb e=>eb b o hb e) f0 f1 f3 f4 f5⟩
 self:=fun _ _ _ _ _ st h=>wpAny_pyIter_keyiter st h
section
variable{X:Cx}{tg:Expr}
def Zma(tl:TE):TI:=fun σ H R=>tl σ H fun x H1=>∃d kvs,x=.ref d/\H1 d=some (.dK kvs)/\∀ob,R (Itd d ob kvs) (upd H1 d (.frz ob (.dK kvs)))
theorem ZhQ{l:Expr}{tl:TE}(hl:PE X l tl):PI X tg l (Zma tl):=by
 intro pins s σ H R I h;refine thn (hl pins s σ H _ I h) fun v s1 ⟨x,H1,I1,r1,q1⟩=>?_;obtain⟨d,kvs,e,hq,q⟩:=q1;subst e;cases r1;obtain⟨hz,hS,vs,rel,hm⟩:kvs.length<=sizeLine/\(d == sysModules)=false/\∃vs,KV kvs vs/\s1.heap.DictOf (Z0 X.prog X.w) d vs:=I1.hok d _ hq;obtain⟨ob,es,ep,ho,hx,hdd,hk,hp,hn⟩:=hm;have I2:=I1.freeze hq ho;refine wpAny_pyIter_dict hS ⟨ob,es,ho,hx,hdd,hk,hp,hn⟩ ?_;refine⟨s1.heap.objs.size,[s1.heap.objs.size],_,_,_,rfl,I2.kept (t':=s1.toks) fun b o e=>Heap.get?_push_of_some _ e,ZiK d ob kvs vs ep rel (fun h e=>⟨ob,es,e,hx,hdd,hk,hp,hn⟩) _,⟨_,Heap.get?_push_size _ rfl,rfl,rfl⟩,fun b hb=>?_,q ob⟩;have e:b=s1.heap.objs.size:=by simpa using hb
 subst e;exact I2.fpOk (Nat.le_refl _) (I2.hok.fresh (Nat.le_refl _))
def Zmh(X:Cx)(t:TS):TS:=fun D σ H=>t { D with nx:=fun σ' H'=>∃d ob kvs,H' d=some (.frz ob (.dK kvs))/\(∀o u,X.H₀ d≠some (.frz o u))/\D.nx σ' (upd H' d (.dK kvs)) } σ H
theorem Zh4{st:Stmt}{t:TS}(h:PS X st t):PS X st (Zmh X t):=by
 intro pins s σ H D I hq;refine thn (h pins s σ H _ I hq) fun f s1 z=>?_;cases f with
 | next =>
  obtain⟨σ',H',I',d,ob,kvs,e,nf,q⟩:=z;exact⟨σ',_,I'.thaw e nf,q⟩
 | brk=>exact z
 | cont=>exact z
 | ret u=>exact z
end
theorem ZgJ{d:Addr}{ob:Obj}{kvs:List (Key×V)}{g:TG}{tb:TS}{D:Ends}{σ : St}{H:Hp}(Pv:Nat->St->Hp->Prop)(h0:Pv 0 σ H)(hl:∀i σ H,i<=kvs.length->Pv i σ H->H d=some (.frz ob (.dK kvs)))
  (hs:∀i k v σ H,kvs[i]?= some (k,v)->Pv i σ H->g (kV k) σ H fun σ2 H2=>tb { D with nx:=Pv (i+1),ct:=Pv (i+1),bk:=D.nx } σ2 H2) (hd:∀ σ H,Pv kvs.length σ H->D.nx σ H) :
  ∃W:Nat->Nat->St->Hp->Prop,(∃m,W 0 m σ H)/\∀i m σ H,W i m σ H ->
   ((Itd d ob kvs).stop i H/\D.nx σ H)\/((Itd d ob kvs).go i H/\∃N:St->Hp->Prop,(∀ σ' H',N σ' H'->∃m',m'<m/\W (i+1) m' σ' H')/\∀x H',(Itd d ob kvs).yld i H x H'->g x σ H' fun σ2 H2=>tb { D with nx:=N,ct:=N,bk:=D.nx } σ2 H2):=by
 refine⟨fun i m σ H=>m=kvs.length-i/\i<=kvs.length/\Pv i σ H,⟨kvs.length,by simp,Nat.zero_le _,h0⟩,?_⟩;rintro i m σ H ⟨rfl,hi,p⟩;have q:=hl i σ H hi p;by_cases hlt:i<kvs.length
 ·refine .inr ⟨⟨q,hlt⟩,Pv (i+1),fun σ' H' p'=>⟨kvs.length-(i+1),by lia,rfl,hlt,p'⟩,fun x H' y=>?_⟩;obtain⟨e,k,v,hk,hx⟩:=y;subst e hx;exact hs i k v σ _ hk p
 ·have e:i=kvs.length:=by lia
  subst e;exact .inl ⟨⟨q,Nat.le_refl _⟩,hd σ H p⟩
structure HasC0(K:PySem.W.Frag)(mg:Str->Option Value)(C:Addr)(x:Str):Prop where
 makes:PySem.W.makesIn K C=true
 init:PySem.W.findIn K (.ref C) "__init__" = some (some (.builtin "object.__init__"))
 kp:PySem.W.keepIn K (.ref C)=true
 nm:mg x=some (.ref C)
section
variable{X:Cx}{C:Addr}{x:Str}{p pos:Pos}
def Zlc(C:Addr):TE:=fun _ H Q=>∀x dx,H x=none->H dx=none->dx≠x->Q (.ref x) (upd (upd H dx (.own x)) x (.ins C dx []))
theorem Zjc{pins:List (Addr×Obj)}{σ : St}{H:Hp}{s:Shared}{Q:VK}(M:HasC0 X.K X.mg C x)(I:Inv X pins σ H s)
  (h:∀x dx,H x=none->H dx=none->dx≠x->Q (.ref x) (upd (upd H dx (.own x)) x (.ins C dx []))) :
  wpAny (model X.prog X.w) X.A (call (.ref C) []) (EP X pins σ Q) X.xe s:=by
 have hq:=h (s.heap.objs.size+1) s.heap.objs.size (I.hok.fresh (Nat.le_succ _)) (I.hok.fresh (Nat.le_refl _)) (Nat.ne_of_lt (Nat.lt_succ_self _));have I2:=Inv.made (C:=C) I;have Y:=makes_of (M:=model X.prog X.w) I.kIn M.makes;have hx:((s.heap.push emptyDict).push (instObj C s.heap.objs.size)).get? (s.heap.objs.size+1)=some (instObj C s.heap.objs.size):=by heap_get
 have t1:Looks (model X.prog X.w) ((s.heap.push emptyDict).push (instObj C s.heap.objs.size)) (typeOf (.ref (s.heap.objs.size+1))) (.ref C):=(Looks.ld hx).andThen .now;have t2:Looks (model X.prog X.w) ((s.heap.push emptyDict).push (instObj C s.heap.objs.size)) (isInstance (.ref (s.heap.objs.size+1)) (.type "object")) true:=t1.andThen (Y.top.keeps fun b o e=>Heap.get?_push_of_some _ (Heap.get?_push_of_some _ e));refine wpAny_call (ZiV I.kIn M.makes M.init (fun self=>Looks.of_pure (oi_bind self)) ?_);refine codeAny_call_builtin oi_plain entry_oi (@check_slot (model X.prog X.w) _ _ _ "object.__init__" "object" "__init__" (.ref (s.heap.objs.size+1)) [] [] _ oi_kind oi_split t2 (oi_args (.ref (s.heap.objs.size+1))) ?_);rw[oi_run];exact wpAny_pure (And.intro rfl ⟨V.ref (s.heap.objs.size+1),_,I2,rfl,hq⟩)
theorem Zgx(M:HasC0 X.K X.mg C x)(hg:Gl X x)(hdb:(x == ("__debug__" : Str))=false:=by decide):PE X (.Call (.Name x p) [] [] pos) (Zlc C):=by
 intro pins s σ H Q I h;refine wpAny_Call_Name_kw (Zdp I hg M.nm ?_ hdb);exact PySem.W.callWith_K0 I.kIn M.kp (Zjc M I h)
end
end L2
namespace L2
open PySem PySem.Spec PyProof.Rows
structure FunD(K:PySem.W.Frag)(x qual:Str)(st:Stmt)(f:Addr)(fd:FuncData)(T:Addr):Prop where
 ex:∃(oc:Value)(od:Option Addr)(kV doc pm:Value)(an:Option Addr)(cdv ct:Value)(osl:Array (Option Value)),
  fd=PySem.W.fnOf x qual (Zw st) (Ze st) (Zg st) (.ref T) kV doc pm an cdv ct/\K.lookup f=some ⟨oc,od,.func fd,osl⟩/\PySem.W.codeIn K cdv qual=true
 kp:PySem.W.keepIn K (.ref f)=true
section
variable{P:Program}{w:World}{K:PySem.W.Frag}{mg:Str->Option Value}{base:Heap}
theorem FunD.binds{x qual:Str}{st:Stmt}{f T:Addr}{fd:FuncData}{ps:List Str}{o:Obj}{items:Array Value}{n:Nat}(F:FunD K x qual st f fd T)(ds:List Value)(ho:K.lookup T=some o)(hs:o.data=.seq items n)
  (h:∀(kV doc pm:Value)(an:Option Addr)(cdv ct:Value)(us:List Value),(us++ds).length=ps.length->∃k,bindArgs (PySem.W.fnOf x qual (Zw st) (Ze st) (Zg st) (.ref T) kV doc pm an cdv ct) ⟨us,[]⟩=seqItems? (.ref T) >>= k/\k (some items)=pure (ps.zip (us++ds))):Binds K fd ps ds:=by
 obtain⟨oc,od,kV,doc,pm,an,cdv,ct,osl,rfl,lk,hcd⟩:=F.ex;intro s us X hl;obtain⟨k,h1,h2⟩:=h kV doc pm an cdv ct us hl;exact PySem.W.binds_K X rfl ho hs h1 h2
theorem ZkW{x qual:Str}{st:Stmt}{f T:Addr}{oc:Value}{od an:Option Addr}{osl:Array (Option Value)}{kV doc pm cdv ct:Value}(l:K.lookup f=some ⟨oc,od,.func (PySem.W.fnOf x qual (Zw st) (Ze st) (Zg st) (.ref T) kV doc pm an cdv ct),osl⟩)
  (c:PySem.W.codeIn K cdv qual=true) (k:PySem.W.keepIn K (.ref f)=true):FunD K x qual st f (PySem.W.fnOf x qual (Zw st) (Ze st) (Zg st) (.ref T) kV doc pm an cdv ct) T:=⟨⟨oc,od,kV,doc,pm,an,cdv,ct,osl,rfl,l,c⟩,k⟩
end
end L2
namespace Fg
open PySem L2 FgM
def paC(kn:Kn)(m:Int)(t:Str):Pa:=(kn m t).getD (.tag t (.kids m .nil) .nil)
structure Sns(D:Type) where
 R:Hp->V->D->Prop
 no:D
 tr:Str->D->D
 bs:D->D->D
 Ok:D->Prop
 mono:∀{H H':Hp}{v:V}{d:D},TK H H'->R H v d->R H' v d
 no_bs:∀a,bs no a=a
 bs_no:∀a,bs a no=a
 assoc:∀a b c,bs (bs a b) c=bs a (bs b c)
 okl:∀{a b},Ok (bs a b)->Ok a
 okr:∀{a b},Ok (bs a b)->Ok b
 okt:∀{t a},Ok (tr t a)->Ok a
section
variable{D:Type}(S:Sns D)
def Zq(f:Int->D):Pa->D
 | .nil=>S.no
 | .kids m o=>S.bs (f m) (Zq f o)
 | .tag t w o=>S.bs (S.tr t (Zq f w)) (Zq f o)
theorem Zag(f:Int->D):∀p q:Pa,Zq S f (p.app q)=S.bs (Zq S f p) (Zq S f q)
 | .nil,q=>(S.no_bs _).symm
 | .kids m o,q=>by
  show S.bs (f m) (Zq S f (o.app q))=S.bs (S.bs (f m) (Zq S f o)) (Zq S f q);rw[Zag f o q,S.assoc]
 | .tag t w o,q=>by
  show S.bs (S.tr t (Zq S f w)) (Zq S f (o.app q))=S.bs (S.bs (S.tr t (Zq S f w)) (Zq S f o)) (Zq S f q);rw[Zag f o q,S.assoc]
theorem Zda{f:Int->D}:∀{p:Pa},S.Ok (Zq S f p)->∀m∈p.ks,S.Ok (f m)
 | .nil,_,_,h=>nomatch h
 | .kids m o,h,n,hn=>by
  rcases List.mem_cons.mp hn with rfl|hn
  ·exact S.okl h
  ·exact Zda (p:=o) (S.okr h) n hn
 | .tag t w o,h,n,hn=>by
  rcases List.mem_append.mp hn with hn|hn
  ·exact Zda (p:=w) (S.okt (S.okl h)) n hn
  ·exact Zda (p:=o) (S.okr h) n hn
def chS(kn:Kn):Gr Str->Int->D
 | .nil,_=>S.no
 | .cons t w o,m=>S.bs (Zq S (chS kn w) (paC kn m t)) (chS kn o m)
end
def snG(n:Nat):Sns (Gr Str) where
 R:=fun H v g=>∃a xs,v=.ref a/\H a=some (.tup xs)/\RepG H xs g
 no:=.nil
 tr:=fun t g=>.cons t g .nil
 bs:=ZaZ
 Ok:=fun g=>gsz g<=n
 mono:=fun k ⟨a,xs,e,h1,h2⟩=>⟨a,xs,e,k _ _ h1,h2.mono k⟩
 no_bs:=fun _=>rfl
 bs_no:=Zco
 assoc:=Zen
 okl:=fun{a b} h=>by
  have h:gsz (ZaZ a b)<=n:=h;rw[ZaO] at h;show gsz a<=n;lia
 okr:=fun{a b} h=>by
  have h:gsz (ZaZ a b)<=n:=h;rw[ZaO] at h;show gsz b<=n;lia
 okt:=fun{t a} h=>by
  have h:1+gsz a+0<=n:=h;show gsz a<=n;lia
def snB:Sns (Nat×Nat) where
 R:=fun H v d=>∃a,v=.ref a/\H a=some (.tup [.int (d.1:Int),.int (d.2:Int)])
 no:=(0,0)
 tr:=fun _ d=>(1+d.1,1+d.2)
 bs:=fun a b=>(a.1+b.1,max a.2 b.2)
 Ok:=fun _=>True
 mono:=fun k ⟨a,e,h⟩=>⟨a,e,k _ _ h⟩
 no_bs:=fun a=>by obtain⟨x,y⟩:=a;simp
 bs_no:=fun a=>by obtain⟨x,y⟩:=a;simp
 assoc:=fun a b c=>by simp only[Prod.mk.injEq];lia
 okl:=fun _=>trivial
 okr:=fun _=>trivial
 okt:=fun _=>trivial
def bnd(g:Gr Str):Nat×Nat:=(gsz g,Zbs g)
theorem ZfX(a b:Gr Str):bnd (ZaZ a b)=snB.bs (bnd a) (bnd b):=by
 show(gsz (ZaZ a b),Zbs (ZaZ a b))=(gsz a+gsz b,max (Zbs a) (Zbs b));rw[ZaO,ZbV]
theorem ZlJ(t:Str)(g:Gr Str):bnd (.cons t g .nil)=snB.tr t (bnd g):=by
 show(1+gsz g+0,max (Zbs g+1) 0)=(1+gsz g,1+Zbs g);simp only[Prod.mk.injEq];lia
theorem Zc5{n:Nat}{f:Int->Gr Str}:∀p:Pa,bnd (Zq (snG n) f p)=Zq snB (fun m=>bnd (f m)) p
 | .nil=>rfl
 | .kids m o=>by
  show bnd (ZaZ (f m) (Zq (snG n) f o))=snB.bs (bnd (f m)) (Zq snB (fun m=>bnd (f m)) o);rw[ZfX,Zc5 o]
 | .tag t w o=>by
  show bnd (ZaZ (.cons t (Zq (snG n) f w) .nil) (Zq (snG n) f o))=snB.bs (snB.tr t (Zq snB (fun m=>bnd (f m)) w)) (Zq snB (fun m=>bnd (f m)) o);rw[ZfX,ZlJ,Zc5 w,Zc5 o]
theorem Zg3{n:Nat}(kn:Kn):∀(g:Gr Str)(m:Int),bnd (chS (snG n) kn g m)=chS snB kn g m
 | .nil,_=>rfl
 | .cons t w o,m=>by
  show bnd (ZaZ (Zq (snG n) (chS (snG n) kn w) (paC kn m t)) (chS (snG n) kn o m))=snB.bs (Zq snB (chS snB kn w) (paC kn m t)) (chS snB kn o m);rw[ZfX,Zc5,Zg3 kn o m]
  congr 2
  funext m'
  exact Zg3 kn w m'
def chG(kn:Kn)(g:Gr Str)(m:Int):Gr Str:=chS (snG 0) kn g m
theorem ZdH(n k:Nat)(f:Int->Gr Str):∀p:Pa,Zq (snG n) f p=Zq (snG k) f p
 | .nil=>rfl
 | .kids m o=>by
  show ZaZ (f m) (Zq (snG n) f o)=ZaZ (f m) (Zq (snG k) f o);rw[ZdH n k f o]
 | .tag t w o=>by
  show ZaZ (.cons t (Zq (snG n) f w) .nil) (Zq (snG n) f o)=ZaZ (.cons t (Zq (snG k) f w) .nil) (Zq (snG k) f o);rw[ZdH n k f w,ZdH n k f o]
theorem Zkm(n k:Nat)(kn:Kn):∀(g:Gr Str)(m:Int),chS (snG n) kn g m=chS (snG k) kn g m
 | .nil,_=>rfl
 | .cons t w o,m=>by
  show ZaZ (Zq (snG n) (chS (snG n) kn w) (paC kn m t)) (chS (snG n) kn o m)=ZaZ (Zq (snG k) (chS (snG k) kn w) (paC kn m t)) (chS (snG k) kn o m);rw[Zkm n k kn o m,show chS (snG n) kn w=chS (snG k) kn w from funext fun m'=>Zkm n k kn w m',ZdH n k]
def Zej(kn:Kn)(t:Str)(ms:List Int):List Int:=ms.foldl (fun acc m=>(paC kn m t).ks.foldl (fun acc k=>if k∈acc then acc else acc ++ [k]) acc) []
theorem ZhW(ks acc:List Int):∀x,x∈ks.foldl (fun acc k=>if k∈acc then acc else acc ++ [k]) acc↔x∈acc\/x∈ks:=by
 induction ks generalizing acc with
 | nil=>simp
 | cons k ks ih =>
  intro x;rw[List.foldl_cons,ih];by_cases c:k∈acc
  ·rw[if_pos c,List.mem_cons];constructor
   ·rintro(h|h)
    ·exact .inl h
    ·exact .inr (.inr h)
   ·rintro(h|rfl|h)
    ·exact .inl h
    ·exact .inl c
    ·exact .inr h
  ·rw[if_neg c,List.mem_append,List.mem_singleton,List.mem_cons];constructor
   ·rintro((h|h)|h)
    ·exact .inl h
    ·exact .inr (.inl h)
    ·exact .inr (.inr h)
   ·rintro(h|h|h)
    ·exact .inl (.inl h)
    ·exact .inl (.inr h)
    ·exact .inr h
theorem Zj3(ks acc:List Int)(h:acc.Nodup):(ks.foldl (fun acc k=>if k∈acc then acc else acc ++ [k]) acc).Nodup:=by
 induction ks generalizing acc with
 | nil=>exact h
 | cons k ks ih =>
  rw[List.foldl_cons];refine ih _ ?_;by_cases c:k∈acc
  ·rw[if_pos c];exact h
  ·rw[if_neg c];refine List.nodup_append.mpr ⟨h,by simp,fun x hx y hy e=>c ?_⟩;rw[List.mem_singleton.mp hy] at e;exact e ▸ hx
theorem Zc4(kn:Kn)(t:Str):∀(ms acc:List Int),(∀x,x∈ms.foldl (fun acc m=>(paC kn m t).ks.foldl (fun acc k=>if k∈acc then acc else acc ++ [k]) acc) acc↔x∈acc\/∃m∈ms,x∈(paC kn m t).ks)/\(acc.Nodup->(ms.foldl (fun acc m=>(paC kn m t).ks.foldl (fun acc k=>if k∈acc then acc else acc ++ [k]) acc) acc).Nodup)
 | [],acc=>⟨fun x=>by simp,id⟩
 | m::ms,acc=>by
  obtain⟨h1,h2⟩:=Zc4 kn t ms ((paC kn m t).ks.foldl (fun acc k=>if k∈acc then acc else acc ++ [k]) acc)
  refine⟨fun x=>?_,fun h=>h2 (Zj3 _ _ h)⟩;rw[List.foldl_cons,h1,ZhW];simp only[List.mem_cons,exists_eq_or_imp];exact or_assoc
theorem ZeO{kn:Kn}{t:Str}{ms:List Int}(x:Int):x∈Zej kn t ms↔∃m∈ms,x∈(paC kn m t).ks:=by
 rw[Zej,(Zc4 kn t ms []).1];simp
theorem ZhZ{kn:Kn}{t:Str}{ms:List Int}:(Zej kn t ms).Nodup:=(Zc4 kn t ms []).2 List.nodup_nil
def Zc7(kn:Kn)(ms:List Int):Gr Str->List (List Int)
 | .nil=>[]
 | .cons t w o=>ms::(Zc7 kn (Zej kn t ms) w++Zej kn t ms::Zc7 kn ms o)
theorem ZeL(kn:Kn):∀(g:Gr Str)(ms:List Int),(Zc7 kn ms g).length=2*gsz g
 | .nil,_=>rfl
 | .cons t w o,ms=>by
  simp only[Zc7,gsz,List.length_cons,List.length_append,ZeL kn w,ZeL kn o];lia
structure SnC(K:PySem.W.Frag)(C:Addr):Prop where
 cls:Cls K C
def kvM(ms:List Int):List (Key×V):=ms.map fun m=>((Sum.inl m:Key),V.bl true)
theorem ZkY{acc:List Int}(k:Int):putK (kvM acc) (Sum.inl k) (V.bl true)=kvM (if k∈acc then acc else acc ++ [k]):=by
 by_cases c:k∈acc
 ·rw[if_pos c];unfold putK;have h1:(kvM acc).any (fun p=>decide (p.1=(Sum.inl k:Key)))=true:=by
   rw[List.any_eq_true];exact⟨_,List.mem_map.mpr ⟨k,c,rfl⟩,decide_eq_true rfl⟩
  rw[if_pos h1];unfold kvM;rw[List.map_map];refine List.map_congr_left fun m _=>?_;show(if(Sum.inl m:Key)=Sum.inl k then((Sum.inl m:Key),V.bl true) else((Sum.inl m:Key),V.bl true))=_
  split <;> rfl
 ·rw[if_neg c,ZeM]
  ·unfold kvM;rw[List.map_append];rfl
  ·rw[<- Option.not_isSome_iff_eq_none,<- Zbv,List.any_eq_true];rintro⟨x,hx,e⟩;obtain⟨m,hm,rfl⟩:=List.mem_map.mp hx;have e:(Sum.inl m:Key)=Sum.inl k:=of_decide_eq_true e;injection e with e;exact c (e ▸ hm)
theorem ZjS:∀(n:Nat)(l:List Int),l.Nodup->(∀x∈l,0<=x/\x<(n:Int))->l.length<=n
 | 0,l,_,h=>by
  cases l with
  | nil=>exact Nat.le_refl _
  | cons x l =>
   have:=h x (List.mem_cons_self ..);lia
 | n+1,l,hn,h=>by
  by_cases c:(n:Int)∈l
  ·have h1:=ZjS n (l.erase (n:Int)) (hn.erase _) fun x hx=>by
    have h2:=h x (List.mem_of_mem_erase hx);have h3:x≠(n:Int):=fun e=>by
     rw[e] at hx;exact(List.Nodup.not_mem_erase hn) hx
    lia
   rw[List.length_erase_of_mem c] at h1;lia
  ·have:=ZjS n l hn fun x hx=>by
    have h2:=h x hx;have h3:x≠(n:Int):=fun e=>c (e ▸ hx);lia
   lia
structure KnV(kn:Kn)(n:Int):Prop where
 sz:∀i t p,kn i t=some p->p.sz<=20
 ks:∀i t p,kn i t=some p->∀k∈p.ks,0<=k/\k<n
theorem KnV.psz{kn:Kn}{n:Int}(h:KnV kn n)(m:Int)(t:Str):(paC kn m t).sz<=20:=by
 unfold paC;cases e:kn m t with
 | none=>exact Nat.le_of_ble_eq_true rfl
 | some p=>exact h.sz _ _ _ e
theorem KnV.pks{kn:Kn}{n:Int}(h:KnV kn n){m:Int}{t:Str}(hm:0<=m/\m<n):∀k∈(paC kn m t).ks,0<=k/\k<n:=by
 unfold paC;cases e:kn m t with
 | none =>
  intro k hk;have hk:k ∈ [m]:=hk;rw[List.mem_singleton.mp hk];exact hm
 | some p=>exact h.ks _ _ _ e
theorem KnV.mds{kn:Kn}{n:Int}(h:KnV kn n){t:Str}{ms:List Int}(hm:∀m∈ms,0<=m/\m<n):∀k∈Zej kn t ms,0<=k/\k<n:=fun k hk=>by
 obtain⟨m,h1,h2⟩:=(ZeO k).mp hk;exact h.pks (hm m h1) k h2
def Zbr(kn:Kn):List (List Int)×List (List Int)->Str->List (List Int)×List (List Int)
 | ([],fo),_=>([],fo)
 | (top::rs,fo),w=>if w=SL then(rs,fo ++ [top]) else(Zej kn w top::top::rs,fo ++ [top])
theorem ZbU(kn:Kn):∀(g:Gr Str)(top:List Int)(rs fo:List (List Int)),ZaW SL g->(words SL g).foldl (Zbr kn) (top::rs,fo)=(top::rs,fo++Zc7 kn top g)
 | .nil,top,rs,fo,_=>by
  show(top::rs,fo)=(top::rs,fo ++ []);rw[List.append_nil]
 | .cons t w o,top,rs,fo,⟨h1,h2,h3⟩=>by
  show(t::(words SL w++SL::words SL o)).foldl (Zbr kn) (top::rs,fo)=_;rw[List.foldl_cons,List.foldl_append,List.foldl_cons];have e1:Zbr kn (top::rs,fo) t=(Zej kn t top::top::rs,fo ++ [top]):=by rw[Zbr,if_neg h1]
  rw[e1,ZbU kn w _ _ _ h2];have e2:∀fo',Zbr kn (Zej kn t top::top::rs,fo') SL=(top::rs,fo' ++ [Zej kn t top]):=fun fo'=>by rw[Zbr,if_pos rfl]
  rw[e2,ZbU kn o _ _ _ h3];simp[Zc7]
theorem plc{D:Type}(S:Sns D){kn:Kn}{n:Int}(kv:KnV kn n):∀(g:Gr Str)(ms:List Int)(k p e:Nat),(∀m∈ms,0<=m/\m<n)->(∀m∈ms,S.Ok (chS S kn g m))->(p,e)∈prs k g ->
  ∃(i:Nat)(t:Str)(w o:Gr Str)(ms':List Int),p=k+i/\atG g i=.cons t w o/\e=p+1+2*gsz w/\atG g (i+1)=w/\atG g (i+2*gsz w+2)=o/\(words SL g)[i]?= some t/\i+2*gsz w+2<=2*gsz g /\
   (Zc7 kn ms g)[i]?= some ms'/\(w ≠ .nil->(Zc7 kn ms g)[i+1]?= some (Zej kn t ms'))/\(o ≠ .nil->(Zc7 kn ms g)[i+2*gsz w+2]?= some ms')/\(∀m∈ms',0<=m/\m<n)/\∀m∈ms',S.Ok (chS S kn (.cons t w o) m)
 | .cons t w o,ms,k,p,e,hm,hok,h=>by
  have hz:gsz (.cons t w o)=1+gsz w+gsz o:=rfl;have hl1:=ZeL kn w (Zej kn t ms);have inM:∀{j:Nat},j<2*gsz w->(Zc7 kn ms (.cons t w o))[j+1]?= (Zc7 kn (Zej kn t ms) w)[j]? := fun{j} hj=>by
   show(ms::(Zc7 kn (Zej kn t ms) w++Zej kn t ms::Zc7 kn ms o))[j+1]?= _;rw[List.getElem?_cons_succ,List.getElem?_append_left (by lia)]
  have outM:∀{j:Nat},(Zc7 kn ms (.cons t w o))[j+2*gsz w+2]?= (Zc7 kn ms o)[j]? := fun{j}=>by
   show(ms::(Zc7 kn (Zej kn t ms) w++Zej kn t ms::Zc7 kn ms o))[j+2*gsz w+1+1]?= _;rw[List.getElem?_cons_succ,List.getElem?_append_right (by lia),hl1,show j+2*gsz w+1-2*gsz w=j+1 by lia,List.getElem?_cons_succ]
  have head0:∀(ms:List Int)(g:Gr Str),g ≠ .nil->(Zc7 kn ms g)[0]?= some ms:=fun ms g hg=>by
   cases g with
   | nil=>exact absurd rfl hg
   | cons _ _ _=>rfl
  have pos:∀(g:Gr Str),g ≠ .nil->0<gsz g:=fun g hg=>by
   cases g with
   | nil=>exact absurd rfl hg
   | cons _ _ _=>simp only[gsz];lia
  rcases List.mem_append.mp h with h|h
  ·obtain⟨i,t',w',o',ms',rfl,h1,h2,h3,h4,h5,h6,h7,h8,h9,h10,h11⟩:=plc S kv w (Zej kn t ms) (k+1) p e (kv.mds hm) (fun m' hm'=>by
    obtain⟨m,g1,g2⟩:=(ZeO m').mp hm';exact Zda S (S.okl (hok m g1)) m' g2) h
   have hz':atG w i=.cons t' w' o'->True:=fun _=>trivial;refine⟨i+1,t',w',o',ms',by lia,?_,h2,?_,?_,?_,by lia,?_,fun hw=>?_,fun ho=>?_,h10,h11⟩
   ·rw[Zcq (by lia)];exact h1
   ·rw[Zcq (by lia)];exact h3
   ·rw[show i+1+2*gsz w'+2=(i+2*gsz w'+2)+1 by lia,Zcq (by lia)];exact h4
   ·rw[ZeV (by lia)];exact h5
   ·rw[inM (by lia)];exact h7
   ·have:=pos w' hw;rw[inM (by lia)];exact h8 hw
   ·have hlt:i+2*gsz w'+2<2*gsz w:=by
     have h12:=h9 ho;have:=(List.getElem?_eq_some_iff.mp h12).1;lia
    rw[show i+1+2*gsz w'+2=(i+2*gsz w'+2)+1 by lia,inM hlt];exact h9 ho
  ·rcases List.mem_cons.mp h with h|h
   ·injection h with h1 h2;subst h1 h2;refine⟨0,t,w,o,ms,rfl,rfl,rfl,?_,?_,rfl,by lia,rfl,fun hw=>?_,fun ho=>?_,hm,hok⟩
    ·rw[Zcq (Nat.zero_le _)];exact Zcu w
    ·rw[ZbM];exact Zcu o
    ·have:=pos w hw;rw[inM (by lia)];exact head0 _ w hw
    ·rw[outM];exact head0 _ o ho
   ·obtain⟨i,t',w',o',ms',rfl,h1,h2,h3,h4,h5,h6,h7,h8,h9,h10,h11⟩:=plc S kv o ms (k+2+2*gsz w) p e hm (fun m hm'=>S.okr (hok m hm')) h;refine⟨i+2*gsz w+2,t',w',o',ms',by lia,?_,h2,?_,?_,?_,by lia,?_,fun hw=>?_,fun ho=>?_,h10,h11⟩
    ·rw[ZbM];exact h1
    ·rw[show i+2*gsz w+2+1=i+1+2*gsz w+2 by lia,ZbM];exact h3
    ·rw[show i+2*gsz w+2+2*gsz w'+2=(i+2*gsz w'+2)+2*gsz w+2 by lia,ZbM];exact h4
    ·rw[ZdC];exact h5
    ·rw[outM];exact h7
    ·rw[show i+2*gsz w+2+1=(i+1)+2*gsz w+2 by lia,outM];exact h8 hw
    ·rw[show i+2*gsz w+2+2*gsz w'+2=(i+2*gsz w'+2)+2*gsz w+2 by lia,outM];exact h9 ho
end Fg
namespace Srd
open PySem PyProof.Rows Srt PySem.W
section
variable{prog:Program}{w:World}{A:Around}{E:Value->Shared->Prop}{s:Shared}
theorem Ze2{lv:Value->Value->Bool}(o:Swo fun x y=>lv x.1 y.1){a:Addr}{vs:List Value}{n:Nat}{P:Fin->Shared->Prop}(ho:s.heap.get? a=some (seqObj "list" vs.toArray n)) (hlen:vs.length<=90000)
  (hc:∀h6:Heap,(∀b o,b≠a->s.heap.get? b=some o->h6.get? b=some o)->2<=vs.length->ZfF prog w A lv vs { s with heap:=h6 })
  (h:∀out:Array Value,out.toList.Perm vs->out.toList.Pairwise (fun u v=>lv u v=false)->P (.done (.ret .none)) { s with heap:=sortedHeap s.heap a vs out }):wpAny (model prog w) A (Builtin.«list.sort» ⟨[.ref a],[(Str.ofString "reverse",.bool true)]⟩) P E s:=by
 have hv:vs.toArray.size<=sizeLine:=by rw[List.size_toArray,sizeLine_eq];lia
 have ha:a<s.heap.objs.size:=Heap.lt_size ho;obtain⟨e1,ho1⟩:∃e1,(s.heap.update a (Obj.mapSeq fun _=>#[])).get? a=some (seqObj "list" #[] e1):=⟨_,get?_update_seq ho (fun _=>#[])⟩;rw[list_sort_rev];refine wpAny_bind (listItems_at ho rfl (wpAny_bind (listUpdate_at ho rfl (wpAny_bind (seqEpoch_at ho1 rfl (wpAny_bind (wpAny_newTuple (wpAny_bind (wpAny_newList (wpAny_holding ?_)))))))  hv (Nat.zero_le _))));have nT:a≠(s.heap.update a (Obj.mapSeq fun _=>#[])).objs.size:=by rw[Heap.size_update];exact Nat.ne_of_lt ha
 have nL:a≠((s.heap.update a (Obj.mapSeq fun _=>#[])).push (seqObj "tuple" vs.toArray 0)).objs.size:=by rw[size_push',Heap.size_update];exact Nat.ne_of_lt (Nat.lt_succ_of_lt ha)
 have ho6:(((s.heap.update a (Obj.mapSeq fun _=>#[])).push (seqObj "tuple" vs.toArray 0)).push (seqObj "list" #[] 0)).get? a=some (seqObj "list" #[] e1):=by
  rw[Heap.get?_push_ne _ _ _ nL,Heap.get?_push_ne _ _ _ nT];exact ho1
 have hkeep:∀b o,b≠a->s.heap.get? b=some o->(((s.heap.update a (Obj.mapSeq fun _=>#[])).push (seqObj "tuple" vs.toArray 0)).push (seqObj "list" #[] 0)).get? b=some o:=fun b o hb e=>by
  refine Heap.get?_push_of_some _ (Heap.get?_push_of_some _ ?_);rw[Heap.get?_update_other _ _ hb.symm];exact e
 have hstart:((vs.toArray.zip vs.toArray).reverse).toList.Perm (pairsOf vs).toList:=by
  rw[Array.toList_reverse];exact List.reverse_perm _
 have turn:∀(xs:Array Keyed),xs.toList.Perm (pairsOf vs).toList->So (fun x y=>lv x.1 y.1) xs.toList->P (.done (.ret .none)) { s with heap:=sortedHeap s.heap a vs (xs.map (·.2)).reverse }:=fun xs hp hso=>by
  refine h _ ?_ ?_
  ·rw[Array.toList_reverse];exact(List.reverse_perm _).trans (Zdv hp)
  ·rw[Array.toList_reverse,List.pairwise_reverse];exact ZkP hp hso
 show wpAny (model prog w) A _ P E { s with heap:=((s.heap.update a (Obj.mapSeq fun _=>#[])).push (seqObj "tuple" vs.toArray 0)).push (seqObj "list" #[] 0) };dsimp only;rw[if_pos rfl];refine wpAny_bind (wpAny_rule ?_);by_cases h2:vs.toArray.size<2
 ·rw[if_pos h2,if_pos h2];refine wpAny_bind (wpAny_pure ?_);rw[StateT.run_pure];refine wpAny_bind (wpAny_pure (wpAny_bind (seqEpoch_at ho6 rfl (wpAny_bind (listUpdate_at ho6 rfl ?_ (Nat.zero_le _) ?_)))))
  ·simp only[bne_self_eq_false,Bool.false_eq_true,if_false,if_true];exact wpAny_pure (turn (vs.toArray.zip vs.toArray).reverse hstart (List.pairwise_iff_getElem.mpr fun i j hi hj hij=>by
    rw[hstart.length_eq,Array.length_toList,pairsOf_size] at hj;rw[List.size_toArray] at h2;lia))
  ·simp only[if_true,Array.size_reverse,Array.size_map];show(vs.toArray.zip vs.toArray).reverse.size<=_;rw[Array.size_reverse,Array.size_zip,sizeLine_eq,List.size_toArray];lia
 ·rw[if_neg h2,if_neg h2];rw[List.size_toArray] at h2;obtain⟨κ,hkk,hcm⟩:=hc _ hkeep (by lia);refine wpAny_bind (hkk _ _ ?_);refine wpAny_bind (wpAny_mono (ZiX (a₀ := pairsOf vs) (Q:=fun _ st'=>(arrOf st').toList.Perm (pairsOf vs).toList/\So (fun x y=>lv x.1 y.1) (arrOf st').toList/\failedOf st'=none) o hcm (fun p hp=>hp) ⟨⟨hstart,rfl,rfl,rfl⟩,fun z hz=>(nomatch hz)⟩ fun st' a1 a3 a2=>⟨a1,a3,a2⟩) ?_ fun _ _ e=>e)
  rintro⟨⟨⟩,st'⟩ s' ⟨rfl,hp,hso,hf⟩;dsimp only;refine wpAny_bind (seqEpoch_at ho6 rfl (wpAny_bind (listUpdate_at ho6 rfl ?_ (Nat.zero_le _) ?_)))
  ·rw[hf];simp only[bne_self_eq_false,Bool.false_eq_true,if_false,if_true];exact wpAny_pure (turn _ hp hso)
  ·have hp':(arrOf st').toList.Perm (pairsOf vs).toList:=hp;have:=hp'.length_eq;rw[Array.length_toList,Array.length_toList,pairsOf_size] at this;simp only[if_true,Array.size_reverse];show((arrOf st').map (·.2)).size<=_;rw[Array.size_map,sizeLine_eq];lia
end
end Srd
namespace L2
open PySem PySem.Spec PyProof.Rows PySem.W
section
variable{X:Cx}{e ve:Expr}{te:TE}{p kp pos:Pos}
def Zfn(v:V)(H:Hp)(Q:VK):Prop := ∃(d:Addr)(kvs:List (Key×V))(ns:List Int),v=.ref d/\H d=some (.dK kvs)/\kvs.length<=90000/\kvs.map (·.1)=ns.map Sum.inl/\∀(p:Addr)(ms:List Int),H p=none->ms.Perm ns->ms.Pairwise (· > ·)->Q (.ref p) (upd H p (.lst (ms.map V.int)))
theorem Zin:∀{ms:List Int}{us:List Value},Vals (ms.map V.int) us->us.Pairwise (fun u v=>Srd.iLt u v=false)->ms.Pairwise (· >= ·)
 | [],_,_,_=>.nil
 | m::ms,us,r,h=>by
  cases r with
  | cons r rr =>
   obtain⟨t,rfl⟩:=r;obtain⟨h1,h2⟩:=List.pairwise_cons.mp h;refine List.pairwise_cons.mpr ⟨fun m' hm=>?_,Zin rr h2⟩;obtain⟨u,hu,ru⟩:=Zfs rr (V.int m') (List.mem_map.mpr ⟨m',hm,rfl⟩);obtain⟨t',rfl⟩:=ru;have:=of_decide_eq_false (h1 _ hu);have h3 : ¬ m<m':=this;show m>=m';lia
theorem Zd1(hc:X.calm=true)(hg:Gl X "sorted") (hm:X.mg "sorted" = none) (pa:PA X [e] (Zjt te Zlm)) (hv:PE X ve (tC (.bl true)))
  (hst:backTo pos (starEach [e] X.env)=(false,eval e X.env)::backTo pos (starEach [] X.env):=by rfl) (hpl:(backTo pos (starEach [e] X.env)).any (·.1)=false:=by rfl) :
  PE X (.Call (.Name "sorted" p) [e] [⟨some (Str.ofString "reverse"),ve,kp⟩] pos) (fun σ H Q=>te σ H fun v H1=>Zfn v H1 Q):=by
 intro pins s σ H Q I h;refine wpAny_Call_Name_kw (Zdf I hg hm Zhq ?_);refine callWith_kw (thn (pa pos pins s σ H (fun vs H1=>match vs with | [v]=>Zfn v H1 Q|_=>False) I h) fun us s1 ⟨vs,H1,I1,r,q⟩=>?_) hst hpl
 match vs,r,q with
 | [v],r,q =>
  obtain⟨u,rfl,ru⟩:=r.one;obtain⟨d,kvs,ns,rfl,hd,hlen,hkn,q⟩:=q;obtain rfl:u=.ref d:=ru;refine kws_cons (thn (hv pins s1 σ H1 (fun x H2=>x=.bl true/\H2=H1) I1 ⟨rfl,rfl⟩) fun w1 s2 ⟨x,H2,I2,rx,ex,eh⟩=>kws_nil ?_);subst ex eh;obtain rfl:w1=.bool true:=rx;obtain⟨hl,lo,vs,kv,o,es,ep,ho,hx,hdat,hko,hpr,hnd⟩:=ZkU I2.hok hd;have hvals:=Zi8 kv hpr hkn;have hkl:kvs.length=vs.length:=kv.length;have hnl:kvs.length=ns.length:=by have:=congrArg List.length hkn;simpa using this
  have hes:es.size=ns.length:=by
   have:=hvals.length
   simpa using this.symm
  have hnod:ns.Nodup:=by
   rw[<- Zjb kv,hkn] at hnd;exact(List.pairwise_map.mp hnd).imp fun h e=>h (by rw[e])
  show wpAny _ _ (call (.builtin "sorted") [.ref d] [(Str.ofString "reverse",.bool true)]) _ _ _;refine call_function_entry_kw kind_sorted plain_sorted entry_sorted (args_sorted_rev _ _) ?_;unfold Builtin.«sorted»;refine wpAny_bind (m:=checkCount "sorted" 1 1 _) (wpAny_pure ?_);refine wpAny_bind (Srd.Zge (ZiQ lo) (I2.ok.hd hc) (⟨o,ho,hx,hdat⟩:ZhK s2.heap d es ep) (by rw[sizeLine_eq];lia) fun acc h1 tk kp1 hit hle=>?_);have hacc:acc.toList=es.toList.map (·.key):=by
   refine List.ext_getElem? fun j=>?_;rw[Array.getElem?_toList,List.getElem?_map,Array.getElem?_toList];cases hj:acc[j]? with
   | none =>
    have h3:acc.size<=j:=Array.getElem?_eq_none_iff.mp hj;rw[hit.1] at h3;rw[Array.getElem?_eq_none h3];rfl
   | some v =>
    obtain⟨e,h1,rfl⟩:=hit.2 j v hj;rw[h1];rfl
  rw[hacc];have hyl:(es.toList.map (·.key)).length<=90000:=by rw[List.length_map,Array.length_toList];lia
  generalize es.toList.map (·.key)=ys at hvals hyl;refine wpAny_bind (wpAny_newList ?_ (by rw[sizeLine_eq];lia));have hoL:(h1.push (seqObj "list" ys.toArray 0)).get? h1.objs.size=some (seqObj "list" ys.toArray 0):=Heap.get?_push_size _ rfl;have keep:∀b o,s2.heap.get? b=some o->(h1.push (seqObj "list" ys.toArray 0)).get? b=some o:=fun b o e=>Heap.get?_push_of_some _ (kp1 b o e);have hbp:∀b o,s2.heap.get? b=some o->h1.objs.size≠b:=fun b o e=>Nat.ne_of_gt (Nat.lt_of_lt_of_le (Heap.lt_size e) hle);have hint:∀v∈ys,∃i t,v=Value.int i t:=fun v hv=>by
   obtain⟨y,hy,ry⟩:=ZeH hvals v hv;obtain⟨i,_,rfl⟩:=List.mem_map.mp hy;obtain⟨t,rfl⟩:=ry;exact⟨i,t,rfl⟩
  change wpAny _ _ _ _ _ { s2 with heap:=h1.push (seqObj "list" ys.toArray 0),toks:=tk };refine wpAny_bind (wpAny_holding (wpAny_call_entry_kw slot_list_sort ⟨_,hoL,rfl⟩ entry_list_sort (Srd.Ze2 (s:={ s2 with heap:=h1.push (seqObj "list" ys.toArray 0),toks:=tk }) Srd.ZkL hoL hyl (fun h6 k6 h2=>Srd.Zd3 hint h2) fun out a2 a3=>⟨_,rfl,?_⟩) (args_list_sort_rev _ _)));generalize h1.push (seqObj "list" ys.toArray 0)=h5 at hoL keep;obtain⟨e1,ho1⟩:∃e1,(h5.update h1.objs.size (Obj.mapSeq fun _=>#[])).get? h1.objs.size=some (seqObj "list" #[] e1):=⟨_,get?_update_seq hoL (fun _=>#[])⟩;have ho6:=Heap.get?_push_of_some (seqObj "list" #[] 0) (Heap.get?_push_of_some (seqObj "tuple" ys.toArray 0) ho1);obtain⟨zs,pz,rz⟩:=Ze0 a2 hvals;obtain⟨ms,rfl,pm⟩:=Zi6 pz;have hzl:=rz.length;have hol:out.size<=90000:=by rw[<- Array.length_toList,a2.length_eq];exact hyl
  have kfin:∀b o,s2.heap.get? b=some o->(sortedHeap h5 h1.objs.size ys out).get? b=some o:=fun b o e=>by
   unfold sortedHeap;rw[Heap.get?_update_other _ _ (hbp b o e)];refine Heap.get?_push_of_some _ (Heap.get?_push_of_some _ ?_);rw[Heap.get?_update_other _ _ (hbp b o e)];exact keep b o e
  have I3:=I2.laid (h':=sortedHeap h5 h1.objs.size ys out) (t':=tk) (a:=h1.objs.size) (o:=.lst (ms.map V.int)) kfin hle (show Zar X.prog X.w _ _ _ (.lst (ms.map V.int)) from⟨by rw[hzl,Array.length_toList,sizeLine_eq];lia,out.toList,_,rz,get?_update_seq ho6 (fun _=>out)⟩);exact wpAny_pure ⟨_,rfl,.ref _,_,I3,rfl,q _ ms (I2.hok.fresh hle) pm (falling (Zin rz a3) (pm.nodup_iff.mpr hnod))⟩
end
structure HasXD(P:Program)(w:World)(K:PySem.W.Frag)(mg:Str->Option Value)(base:Heap)(x:Str)(ps:List Str)(dvs:List V)(k:Nat)(sp:Sp):Prop where
 ex:∃(f:Addr)(fd:FuncData)(ds:List Value),FnOk P w K mg base (CXE P w) k f fd ps sp/\Binds K fd ps ds/\Vals dvs ds/\PySem.W.keepIn K (.ref f)=true/\mg x=some (.ref f)
theorem FunD.okX{P:Program}{w:World}{K:PySem.W.Frag}{mg:Str->Option Value}{base:Heap}{x qual:Str}{st:Stmt}{f T:Addr}{fd:FuncData}{N ps:List Str}{k:Nat}{sp:Sp}(F:FunD K x qual st f fd T)(S:FnScope N ps (Zg st))(len:∀vs H Q E,sp vs H Q E->vs.length=ps.length)
  (hbody:∀(cdv:Value)(A:Around)(outer:List Env)(s:Shared)(H:Hp)(vs:List V)(Q:VK)(E:XK),Room k (A.deeper (envOfC qual (Zg st) s.heap.objs.size f cdv))->sp vs H Q E ->
   ∃t,PSs (Zjn (CXE P w) P w K mg base N qual (Zg st) f cdv A outer s H E) (Ze st) t/\t { nx:=fun _ H'=>Q .non H',rt:=Q } (start N vs) H):FnOk P w K mg base (CXE P w) (k+1) f fd ps sp:=by
 obtain⟨oc,od,kV,doc,pm,an,cdv,ct,osl,rfl,lk,hcd⟩:=F.ex;exact Zk2 lk hcd S len fun A outer s H vs Q E hr hsp=>hbody cdv A outer s H vs Q E hr hsp
end L2
namespace K74
open PySem L2 FgM Fg
def top(i:Nat):Stmt:=PySem.Challenge.pw_formgrove_k74_whole_changed_in_turn.main.body.getD i (.Pass ⟨0,0,0,0⟩)
abbrev Zbk:Stmt:=top 4
abbrev Za7:Stmt:=top 5
abbrev Za6:Stmt:=top 9
abbrev Z9:Stmt:=top 10
abbrev ZaP:Stmt:=top 11
abbrev Z7:Stmt:=top 12
abbrev ZL:Stmt:=top 13
abbrev Zbl:Stmt:=top 14
abbrev Zah:Stmt:=top 15
abbrev Zac:Stmt:=inClass (top 16) 0
abbrev ZaD:Stmt:=inClass (top 16) 1
abbrev Zak:Stmt:=inClass (top 16) 2
abbrev Zad:Stmt:=inClass (top 17) 0
abbrev ZaE:Stmt:=inClass (top 17) 1
abbrev Zaj:Stmt:=inClass (top 17) 2
abbrev ZbB:Stmt:=top 18
abbrev Zat:Stmt:=top 19
abbrev Za4:Stmt:=top 21
abbrev Za2:Stmt:=top 22
abbrev Zax:Stmt:=top 23
abbrev ZC:Stmt:=top 24
abbrev Zaq:Stmt:=top 25
abbrev Z5:Stmt:=top 26
abbrev ZbC:Stmt:=top 27
abbrev Zap:Stmt:=top 28
abbrev ZW:Stmt:=top 29
abbrev Zz:Stmt:=top 30
abbrev Zb7:Stmt:=top 31
abbrev Za9:Stmt:=top 32
abbrev Za1:Stmt:=top 33
abbrev ZP:Stmt:=top 34
abbrev ZaV:Stmt:=top 35
theorem ZbJ:FnScope ["grove","words","waiting","tree"] ["grove"] (Zg Zbk):=⟨rfl,rfl,rfl,by decide +kernel,rfl,by decide +kernel,by decide +kernel⟩
theorem Zbn:FnScope ["words","ended_at","begun","place","word"] ["words"] (Zg Za7):=⟨rfl,rfl,rfl,by decide +kernel,rfl,by decide +kernel,by decide +kernel⟩
theorem Zb4:FnScope ["parts","found","part"] ["parts"] (Zg Za6):=⟨rfl,rfl,rfl,by decide +kernel,rfl,by decide +kernel,by decide +kernel⟩
theorem ZcZ:FnScope ["changer"] ["changer"] (Zg Z9):=⟨rfl,rfl,rfl,by decide +kernel,rfl,by decide +kernel,by decide +kernel⟩
theorem ZfB:FnScope ["known","mode","tag"] ["known","mode","tag"] (Zg ZaP):=⟨rfl,rfl,rfl,by decide +kernel,rfl,by decide +kernel,by decide +kernel⟩
theorem Zae:FnScope ["parts","kids","sense","row","part","piece"] ["parts","kids","sense"] (Zg Z7):=⟨rfl,rfl,rfl,by decide +kernel,rfl,by decide +kernel,by decide +kernel⟩
theorem Zau:FnScope ["changer","words","mode","sense","known","modes","ended_at","told","place","others","come","each","first"] ["changer","words","mode","sense"] (Zg ZL):=⟨rfl,rfl,rfl,by decide +kernel,rfl,by decide +kernel,by decide +kernel⟩
theorem ZbI:FnScope ["known","words","mode","found","rows","word"] ["known","words","mode"] (Zg Zbl):=⟨rfl,rfl,rfl,by decide +kernel,rfl,by decide +kernel,by decide +kernel⟩
theorem ZaX:FnScope ["known","modes","tag","found","mode","part"] ["known","modes","tag"] (Zg Zah):=⟨rfl,rfl,rfl,by decide +kernel,rfl,by decide +kernel,by decide +kernel⟩
theorem ZcA:FnScope ["self"] ["self"] (Zg Zac):=⟨rfl,rfl,rfl,by decide +kernel,rfl,by decide +kernel,by decide +kernel⟩
theorem Zd4:FnScope ["self","tag","within"] ["self","tag","within"] (Zg ZaD):=⟨rfl,rfl,rfl,by decide +kernel,rfl,by decide +kernel,by decide +kernel⟩
theorem Zc0:FnScope ["self","one","other"] ["self","one","other"] (Zg Zak):=⟨rfl,rfl,rfl,by decide +kernel,rfl,by decide +kernel,by decide +kernel⟩
theorem ZcL:FnScope ["self"] ["self"] (Zg Zad):=⟨rfl,rfl,rfl,by decide +kernel,rfl,by decide +kernel,by decide +kernel⟩
theorem Zd0:FnScope ["self","tag","within"] ["self","tag","within"] (Zg ZaE):=⟨rfl,rfl,rfl,by decide +kernel,rfl,by decide +kernel,by decide +kernel⟩
theorem ZcX:FnScope ["self","one","other"] ["self","one","other"] (Zg Zaj):=⟨rfl,rfl,rfl,by decide +kernel,rfl,by decide +kernel,by decide +kernel⟩
theorem ZcK:FnScope ["changer","grove","mode","words","bounds"] ["changer","grove","mode"] (Zg ZbB):=⟨rfl,rfl,rfl,by decide +kernel,rfl,by decide +kernel,by decide +kernel⟩
theorem Zdo:FnScope ["tags","deep"] ["tags","deep"] (Zg Zat):=⟨rfl,rfl,rfl,by decide +kernel,rfl,by decide +kernel,by decide +kernel⟩
theorem Zfi:FnScope ["_law_script","_law_k"] ["_law_script","_law_k"] (Zg Za4):=⟨rfl,rfl,rfl,by decide +kernel,rfl,by decide +kernel,by decide +kernel⟩
theorem ZaS:FnScope ["_law_script","_law_first","_law_many","_law_found","_law_number","_law_k","_law_cell"] ["_law_script","_law_first","_law_many"] (Zg Za2):=⟨rfl,rfl,rfl,by decide +kernel,rfl,by decide +kernel,by decide +kernel⟩
theorem Zbc:FnScope ["_law_cell","_law_some","_law_number","_law_stem","_law_k","_law_one"] ["_law_cell"] (Zg Zax):=⟨rfl,rfl,rfl,by decide +kernel,rfl,by decide +kernel,by decide +kernel⟩
theorem ZaI:FnScope ["_law_numbers_here","_law_tags_here","_law_modes","_law_names","_law_rows","_law_kids","_law_number","_law_turn","_law_inner"] ["_law_numbers_here","_law_tags_here","_law_modes"] (Zg ZC):=⟨rfl,rfl,rfl,by decide +kernel,rfl,by decide +kernel,by decide +kernel⟩
theorem Zbo:FnScope ["_law_numbers_here","_law_tags_here","_law_modes","_law_ways_here","_law_at","_law_mode","_law_tag","_law_number"] ["_law_numbers_here","_law_tags_here","_law_modes"] (Zg Zaq):=⟨rfl,rfl,rfl,by decide +kernel,rfl,by decide +kernel,by decide +kernel⟩
theorem Za8:FnScope ["_law_tags_here","_law_numbers_here","_law_words_here","_law_opened","_law_number","_law_closings"] ["_law_tags_here","_law_numbers_here"] (Zg Z5):=⟨rfl,rfl,rfl,by decide +kernel,rfl,by decide +kernel,by decide +kernel⟩
theorem ZbA:FnScope ["_law_words_here","_law_names","_law_rows","_law_word","_law_kids"] ["_law_words_here"] (Zg ZbC):=⟨rfl,rfl,rfl,by decide +kernel,rfl,by decide +kernel,by decide +kernel⟩
theorem ZdZ:FnScope ["_law_ways_here","_law_mode","_law_tag"] ["_law_ways_here","_law_mode","_law_tag"] (Zg Zap):=⟨rfl,rfl,rfl,by decide +kernel,rfl,by decide +kernel,by decide +kernel⟩
theorem ZX:FnScope ["_law_parts_here","_law_rows","_law_tags_here","_law_deepest","_law_part","_law_many","_law_down"] ["_law_parts_here","_law_rows"] (Zg ZW):=⟨rfl,rfl,rfl,by decide +kernel,rfl,by decide +kernel,by decide +kernel⟩
theorem Zao:FnScope ["_law_ways_here","_law_modes","_law_words_here","_law_rests","_law_word","_law_kids","_law_others","_law_row","_law_mode","_law_many","_law_down"] ["_law_ways_here","_law_modes","_law_words_here"] (Zg Zz):=⟨rfl,rfl,rfl,by decide +kernel,rfl,by decide +kernel,by decide +kernel⟩
theorem ZbW:FnScope ["_law_one","_law_grove_here","_law_mode","_law_found","_law_refused"] ["_law_one","_law_grove_here","_law_mode"] (Zg Zb7):=⟨rfl,rfl,rfl,by decide +kernel,rfl,by decide +kernel,by decide +kernel⟩
theorem Zbp:FnScope ["_law_parts_here","_law_rows","_law_found","_law_part"] ["_law_parts_here","_law_rows"] (Zg Za9):=⟨rfl,rfl,rfl,by decide +kernel,rfl,by decide +kernel,by decide +kernel⟩
theorem ZbZ:FnScope ["_law_parts_here","_law_found","_law_part"] ["_law_parts_here"] (Zg Za1):=⟨rfl,rfl,rfl,by decide +kernel,rfl,by decide +kernel,by decide +kernel⟩
theorem Zav:FnScope ["_law_one","_law_ways_here","_law_grove_here","_law_mode","_law_whole","_law_first","_law_hard","_law_others","_law_harder","_law_parts_here","_law_rows","_law_way","_law_inner","_law_refused"] ["_law_one","_law_ways_here","_law_grove_here","_law_mode","_law_whole"] (Zg ZP):=⟨rfl,rfl,rfl,by decide +kernel,rfl,by decide +kernel,by decide +kernel⟩
theorem Zbh:FnScope ["_law_script","_law_first","_law_modes","_law_tags_here","_law_ways_here","_law_one","_law_many","_law_words_here","_law_grove_here","_law_weights","_law_mode","_law_same","_law_refused","_law_whole"] ["_law_script"] (Zg ZaV):=⟨rfl,rfl,rfl,by decide +kernel,rfl,by decide +kernel,by decide +kernel⟩
structure XC(K:PySem.W.Frag)(mg:Str->Option Value)(X_GroveError X_TooBig:Addr):Prop where
 n_GroveError:mg "GroveError" = some (.ref X_GroveError)
 n_TooBig:mg "TooBig" = some (.ref X_TooBig)
 bas:XBas K X_GroveError
 isG:PySem.W.isClsIn K X_GroveError=true
 tyG:PySem.W.typeIn K (.ref X_GroveError)=some (.type "type")
 c_GroveError:XCl K X_GroveError
 c_TooBig:XCl K X_TooBig
 top_TooBig:XTop K X_TooBig X_GroveError
 ini_TooBig:PySem.W.findIn K (.ref X_TooBig) "__init__" = some (some (.builtin "ValueError.__init__"))
 mV_TooBig:PySem.W.mroIn K X_TooBig (.type "ValueError")=some true
 ne_TooBig:X_TooBig≠X_GroveError
 m_TooBig_GroveError:PySem.W.mroIn K X_TooBig (.ref X_GroveError)=some true
 m_TooBig_TooBig:PySem.W.mroIn K X_TooBig (.ref X_TooBig)=some true
abbrev Zcb:List Str:=["dict","enumerate","isinstance","len","list","max","min","range","reversed","sorted","tuple"]
section
variable{P:Program}{w:World}{K:PySem.W.Frag}{mg:Str->Option Value}{base:Heap}{f:Addr}{fd:FuncData}{X_GroveError X_TooBig:Addr}
theorem Zgr(B:∀x∈Zcb,mg x=none)(F:Fun K "words_of" "words_of" Zbk f fd):FnOk P w K mg base CX0 1 f fd ["grove"] (Zgg K):=by
 refine F.ok ZbJ (fun vs H Q E h=>?_) (fun cdv A outer s H vs Q E hr h=>?_)
 ·obtain⟨a,xs,g,rfl,_⟩:=h;rfl
 obtain⟨a,xs,g,rfl,hT,hG,hlen,q⟩:=h;have hu:=ZfT hr;refine⟨_,(Zd (Zn (i:=1) ZbJ.nd rfl (Or.inl rfl) (Zas Zf))
  (Zd (Zn (i:=2) ZbJ.nd rfl (Or.inl rfl) (ZaM Zfl rfl (B "list" (by decide)) Zjh (Za (Ziv (pv 0)) Zf)))
  (Zd (ZgN PassesOwn.never (Zbt (pv 2) (fun _=>rfl))
   (Zd (Zn (i:=3) ZbJ.nd rfl (Or.inl rfl) (ZbX PySem.F.plainAttrs_list PySem.F.slot_list_pop PySem.F.type_list_pop Zb3 (pv 2)))
    (Zj (Zbi (Z2 (Zky hu) (pv 3) Zan (Zaf _))
     (Zj (ZV (Zbe PySem.F.plainAttrs_list PySem.F.slot_list_append PySem.F.type_list_append ZD (pv 1) (Za (pv 3) Zf))))
     (Zd (ZV (Zbe PySem.F.plainAttrs_list PySem.F.slot_list_append PySem.F.type_list_append ZD (pv 1) (Za (ZG ZQ (pv 3) Zh (fun _ _=>rfl)) Zf)))
      (Zd (ZV (Zbe PySem.F.plainAttrs_list PySem.F.slot_list_append PySem.F.type_list_append ZD (pv 2) (Za Zan Zf)))
      (Zj (ZV (Zbe PySem.F.plainAttrs_list PySem.F.slot_list_extend PySem.F.type_list_extend ZhF (pv 2) (Za (Ziv (ZG ZQ (pv 3) Zh (fun _ _=>rfl))) Zf))))))))))
  (Zj (ZS (pv 1)))))),?_⟩
 refine⟨by decide,fun p hp=>?_⟩;refine⟨_,rfl,a,xs,rfl,(Zu.new hp).seqT hT,fun t ht=>⟨t,_,rfl,.inr (SqT.of Zb),fun l hl=>?_⟩⟩;obtain⟨ntp,ht0⟩:=Zk ht;obtain⟨nlt,hl0⟩:=Zk hl;obtain⟨nlp,hl1⟩:=Zk hl0
 let W:Nat->St->Hp->Prop:=fun m σ H1=>∃(acc:List Str)(st:List (Item Str))(vs:List V)(v3:Option V),σ =[some (.ref a),some (.ref p),some (.ref l),v3]/\Zu H H1 /\
  H1 p=some (.lst (acc.map V.str))/\H1 l=some (.lst vs)/\Paired (ZkS H1) vs st/\acc++Zbb SL st=words SL g/\m=(Zbb SL st).length
 have s3:Zu H (upd (upd (upd H p (.lst [])) t (.tup xs.reverse)) l (.lst xs.reverse)):=((Zu.new hp).upd_new ht0).upd_new hl1;refine⟨W,⟨_,[],(items g).reverse,xs.reverse,none,rfl,s3,?_,Zb,?_,?_,rfl⟩,?_⟩
 ·rw[Zc nlp.symm,Zc ntp.symm];exact Zb
 ·exact Zcv s3.tk (ZcN hG.items)
 ·rw[Zfw];rfl
 rintro m σ H1 ⟨acc,st,vs,v3,rfl,sm,hp1,hl1',hst,hw,rfl⟩;have hacc:acc.length<=1000:=by
  have:=congrArg List.length hw;rw[List.length_append] at this;lia
 refine⟨_,rfl,!vs.isEmpty,.inl ⟨vs,SqL.of hl1',rfl⟩,?_⟩;by_cases e:vs=[]
 ·subst e;cases hst;refine ZeT ?_;rw[Zhr,List.append_nil] at hw;subst hw;exact⟨_,rfl,q p H1 sm hp hp1⟩
 ·obtain⟨vs',v,rfl⟩:=ZiG e;obtain⟨st',x,rfl,hst',hx⟩:=Paired.unsnoc hst;have ne:(!(vs' ++ [v]).isEmpty)=true:=by simp
  rw[ne];refine ZhS ?_;rw[Zcf] at hw;refine⟨fun σ' H'=>∃m',m'<(Zbb SL (st' ++ [x])).length/\W m' σ' H',fun _ _ h=>h,?_⟩;refine⟨_,rfl,.inl ⟨rfl,_,SqL.of hl1'⟩,l,_,v,rfl,rfl,hl1',ZaN _ _,?_⟩;rw[ZaL];have k1:TK H1 (upd H1 l (.lst vs')):=TK.lst hl1';have hp2:(upd H1 l (.lst vs')) p=some (.lst (acc.map V.str)):=by
   rw[Zc nlp.symm];exact hp1
  have hstk:=Zcv k1 hst';have hx2:=hx.mono k1;have sm2:Zu H (upd H1 l (.lst vs')):=sm.upd_new hl1;have hvl:vs'.length=st'.length:=Paired.length hst';have hsl:st'.length<=1000:=by
   have:=congrArg List.length hw;rw[List.length_append,List.length_append] at this;have h2:=Zg8 SL st';lia
  cases x with
  | none =>
   have hv:v=.str SL:=hx;subst hv;refine⟨_,rfl,.inr ⟨rfl,_,rfl,?_⟩⟩;refine Zd8 (fun _=>?_) (fun c=>absurd (decide_eq_true rfl) c);refine⟨_,rfl,.inl ⟨rfl,_,SqL.of hp2⟩,_,rfl,p,_,_,rfl,rfl,hp2,Zx (by rw[List.length_map];lia),?_⟩;refine⟨(Zbb SL st').length,?_,acc ++ [SL],st',vs',_,rfl,sm2.upd_new hp,?_,?_,Zcv (TK.lst hp2) hstk,?_,rfl⟩
   ·rw[Zcf,List.length_append];show _<1+_;lia
   ·rw[Zb,List.map_append];rfl
   ·rw[Zc nlp];exact Zb
   ·rw[List.append_assoc];exact hw
  | some tw =>
   obtain⟨t',w'⟩:=tw;obtain⟨p',q',ys,rfl,h1,h2,h3⟩:=hx2;refine⟨_,rfl,.inl ⟨p',_,_,rfl,rfl,SqT.of h1,_,rfl,?_⟩⟩;refine ZeT ?_;refine⟨_,rfl,.inl ⟨rfl,_,SqL.of hp2⟩,_,rfl,p',_,0,_,rfl,rfl,SqT.of h1,rfl,p,_,_,rfl,rfl,hp2,Zx (by rw[List.length_map];lia),?_⟩;have k3:TK (upd H1 l (.lst vs')) (upd (upd H1 l (.lst vs')) p (.lst (acc.map V.str ++ [.str t']))):=TK.lst hp2;have hl3:(upd (upd H1 l (.lst vs')) p (.lst (acc.map V.str ++ [.str t']))) l=some (.lst vs'):=by
    rw[Zc nlp];exact Zb
   refine⟨_,rfl,.inl ⟨rfl,_,SqL.of hl3⟩,l,_,_,rfl,rfl,hl3,Zx (by lia),?_⟩;have k4:=TK.lst (o:=.lst (vs' ++ [.str SL])) hl3;have hl4:(upd (upd (upd H1 l (.lst vs')) p (.lst (acc.map V.str ++ [.str t']))) l (.lst (vs' ++ [.str SL]))) l=some (.lst (vs' ++ [.str SL])):=Zb;refine⟨_,rfl,.inl ⟨rfl,_,SqL.of hl4⟩,_,rfl,p',_,1,_,rfl,rfl,SqT.of (k4 _ _ (k3 _ _ h1)),rfl,q',ys,rfl,SqT.of (k4 _ _ (k3 _ _ h2)),fun t2 ht2=>?_⟩;obtain⟨n2l,ht3⟩:=Zk ht2;obtain⟨n2p,ht4⟩:=Zk ht3;obtain⟨_,ht5⟩:=Zk ht4;have hl5:(upd (upd (upd (upd H1 l (.lst vs')) p (.lst (acc.map V.str ++ [.str t']))) l (.lst (vs' ++ [.str SL]))) t2 (.tup ys.reverse)) l=some (.lst (vs' ++ [.str SL])):=by
    rw[Zc n2l.symm];exact Zb
   have hys:=h3.length;have hwl:(words SL w').length<=1000:=by
    have:=congrArg List.length hw;rw[List.length_append,List.length_append] at this;have e2:(wi SL (some (t',w'))).length=(words SL w').length+2:=by
     show(t'::(words SL w' ++ [SL])).length=_;rw[List.length_cons,List.length_append];rfl
    lia
   refine⟨l,t2,_,_,rfl,rfl,hl5,SqT.of Zb,ZaA (by rw[List.length_append,List.length_reverse,List.length_singleton];lia),?_⟩;have k6:=(k3.trans k4).trans ((TK.new (o:=.tup ys.reverse) ht2).trans (TK.lst (o:=.lst ((vs' ++ [.str SL])++ys.reverse)) hl5));refine⟨(Zbb SL (st' ++ [none]++(items w').reverse)).length,?_,acc ++ [t'],st' ++ [none]++(items w').reverse,_,_,rfl,?_,?_,Zb,?_,?_,rfl⟩
   ·rw[ZdI,Zcf];show _<(t'::(words SL w' ++ [SL])++Zbb SL st').length;simp only[List.length_append,List.length_cons,List.length_nil];lia
   ·exact(((sm2.upd_new hp).upd_new hl1).upd_new (sm.free ht5)).upd_new hl1
   ·rw[Zc nlp.symm,Zc n2p.symm,Zc nlp.symm,Zb,List.map_append];rfl
   ·exact Paired.app (Paired.app (Zcv k6 hstk) (.cons rfl .nil)) (Zcv k6 (ZcN h3.items))
   ·rw[ZdI,<- hw];show _=acc++(t'::(words SL w' ++ [SL])++Zbb SL st');simp
def Zgo(K:PySem.W.Frag):Sp:=fun vs H Q _=>∃(a:Addr)(ws:List Str),vs=[.ref a]/\SqL K H a (ws.map V.str)/\Can SL 0 ws/\ws.length<=1000/\∀(d:Addr)(H':Hp),Zu H H'->H d=none->H' d=some (.dK (kvC (cst ws ws.length).2))->Q (.ref d) H'
theorem Zg7(l:List V)(x:V):(l ++ [x])[(l ++ [x]).length-1]?= some x:=by
 rw[List.length_append,List.length_singleton,Nat.add_sub_cancel,List.getElem?_append_right (Nat.le_refl _),Nat.sub_self];rfl
set_option maxHeartbeats 1000000 in
theorem ZfN(B:∀x∈Zcb,mg x=none)(F:Fun K "closings" "closings" Za7 f fd):FnOk P w K mg base CX0 1 f fd ["words"] (Zgo K):=by
 refine F.ok Zbn (fun vs H Q E h=>?_) (fun cdv A outer s H vs Q E hr h=>?_)
 ·obtain⟨a,ws,rfl,_⟩:=h;rfl
 obtain⟨a,ws,rfl,hS,hcan,hwl,q⟩:=h;have hu1:(A.deeper (PyProof.Rows.envOfC (Str.ofString "closings") (Zg Za7) s.heap.objs.size f cdv)).units+1<cLine:=by have:=hr.un;lia
 refine⟨_,(Zd (Zn (i:=1) Zbn.nd rfl (Or.inl rfl) Zc3)
  (Zd (Zn (i:=2) Zbn.nd rfl (Or.inl rfl) (Zas Zf))
  (Zd (ZaB PassesOwn.never rfl (ZkF rfl (B "enumerate" (by decide)) (Za (pv 0) Zf)) (Zb1 rfl (ZJ (Zt (i:=3) Zbn.nd rfl (Or.inl rfl)) (ZJ (Zt (i:=4) Zbn.nd rfl (Or.inl rfl)) Zbd)))
   (Zj (Zbi (Z2 Zcr (pv 4) Zan (Zaf _))
     (Zj (ZdD hu1 (pv 1) (ZbX PySem.F.plainAttrs_list PySem.F.slot_list_pop PySem.F.type_list_pop Zb3 (pv 2)) (pv 3) rfl))
     (Zj (ZV (Zbe PySem.F.plainAttrs_list PySem.F.slot_list_append PySem.F.type_list_append ZD (pv 2) (Za (pv 3) Zf)))))))
  (Zj (ZS (pv 1)))))),?_⟩
 refine fun d hd=>⟨by decide,fun b hb=>?_⟩;obtain⟨nbd,hb0⟩:=Zk hb;have s2:Zu H (upd (upd H d (.dK [])) b (.lst [])):=(Zu.new hd).upd_new hb0;refine⟨_,rfl,a,_,rfl,s2.seq hS,ZjZ (K:=K) (a:=a) (xs:=ws.map V.str) (fun i σ H1=>∃(v3 v4:Option V),σ =[some (.ref a),some (.ref d),some (.ref b),v3,v4]/\Zu H H1/\H1 d=some (.dK (kvC (cst ws i).2))/\H1 b=some (.lst ((cst ws i).1.reverse.map fun(o:Nat)=>V.int (o:Int))))
  ⟨none,none,rfl,s2,by rw[Zc nbd.symm];exact Zb,Zb⟩ ?_ ?_ ?_⟩
 ·rintro i σ H1 _ ⟨v3,v4,_,sm,_⟩;exact sm.seq hS
 ·rintro i x p σ H0 hi ⟨v3,v4,rfl,sm0,hd0,hb1⟩ hp;rw[List.getElem?_map] at hi;obtain⟨wd,hw,rfl⟩:=Option.map_eq_some_iff.mp hi;have hil:=(List.getElem?_eq_some_iff.mp hw).1;have x:=ZiH hcan i (by lia);have s0:Zu H0 (upd H0 p (.tup [.int i,.str wd])):=Zu.new hp;have sm:=sm0.trans s0;have hd1:=s0 _ _ hd0;have hb2:=s0 _ _ hb1;refine⟨p,_,rfl,SqT.of Zb,rfl,_,_,rfl,_,_,rfl,rfl,?_⟩;generalize upd H0 p (.tup [.int i,.str wd])=H1 at sm hd1 hb2 ⊢;have nbd2:d≠b:=fun e=>by rw[e,hb2] at hd1;cases hd1
  have hcl:(kvC (cst ws i).2).length<=1000:=by
   have:=x.cnt;unfold kvC;rw[List.length_map];lia
  refine⟨_,rfl,rfl,_,rfl,Zd8 (fun c=>?_) (fun c=>?_)⟩
  ·have e:wd=SL:=by
    have:=of_decide_eq_true c;injection this
   subst e;cases hs:(cst ws i).1 with
   | nil =>
    have:=x.len;rw[hs,ZbT hw,ZkG] at this;cases this
   | cons o os =>
    have hz:=ZfP hw hs;have hno:o∉(cst ws i).2.map (·.1):=fun h=>by
     have:=x.nd;rw[hs,List.cons_append,List.nodup_cons] at this;exact this.1 (List.mem_append_right _ h)
    rw[hs,List.reverse_cons,List.map_append] at hb2;have hb3:H1 b=some (.lst ((os.reverse.map fun(o:Nat)=>V.int (o:Int)) ++ [.int (o:Int)])):=hb2;refine⟨_,rfl,_,rfl,_,rfl,.inl ⟨rfl,_,SqL.of hb3⟩,b,_,_,rfl,rfl,hb3,Zg7 _ _,?_⟩;rw[List.dropLast_concat];have hd2:(upd H1 b (.lst (os.reverse.map fun(o:Nat)=>V.int (o:Int)))) d=some (.dK (kvC (cst ws i).2)):=by rw[Zc nbd2];exact hd1
    refine⟨d,_,rfl,Zix.k (k:=Sum.inl (o:Int)) hd2 (Zx (by lia)),?_⟩;refine⟨_,_,rfl,(sm.upd_new hb0).upd_new hd,?_,?_⟩
    ·rw[Zb,ZeM _ (ZjH hno),hz];unfold kvC;rw[List.map_append];rfl
    ·rw[Zc nbd2.symm,Zb,hz]
  ·have e:wd≠SL:=fun z=>c (by rw[z];exact decide_eq_true rfl);have hz:=Zf5 hw e;refine⟨_,rfl,.inl ⟨rfl,_,SqL.of hb2⟩,_,rfl,b,_,_,rfl,rfl,hb2,Zx (by rw[List.length_map,List.length_reverse];have:=x.cnt;lia),?_⟩;refine⟨_,_,rfl,sm.upd_new hb0,by rw[Zc nbd2,hz];exact hd1,?_⟩;rw[Zb,hz,List.reverse_cons,List.map_append];rfl
 ·rintro σ H1 ⟨v3,v4,rfl,sm,hd1,hb1⟩;rw[List.length_map] at hd1;exact⟨_,rfl,q d H1 sm hd hd1⟩
def PtV(H:Hp)(z:V)(x:Option Int):Prop:=match x with|some m=>∃a,z=.ref a/\H a=some (.tup [.str "kids",.int m])|none=>∃a t q,z=.ref a/\H a=some (.tup [.str "tag",.str t,.ref q])
def PtL(H:Hp)(zs:List V)(xs:List (Option Int)):Prop:=Paired (PtV H) zs xs
theorem PtL.tk{H H':Hp}(k:TK H H'):∀{zs:List V}{xs:List (Option Int)},PtL H zs xs->PtL H' zs xs
 | _,_,.nil=>.nil
 | _,_,.cons (b:=x) r t=>.cons (by
   cases x with
   | some m=>obtain⟨a,e,h⟩:=r;exact⟨a,e,k _ _ h⟩
   | none=>obtain⟨a,t',q,e,h⟩:=r;exact⟨a,t',q,e,k _ _ h⟩) (PtL.tk k t)
def Zde:Pa->List (Option Int)
 | .nil=>[]
 | .kids m o=>some m::Zde o
 | .tag _ w o=>none::(Zde w++Zde o)
theorem Zdd:∀p q:Pa,Zde (p.app q)=Zde p++Zde q
 | .nil,q=>rfl
 | .kids m o,q=>by simp[Pa.app,Zde,Zdd o q]
 | .tag t w o,q=>by simp[Pa.app,Zde,Zdd o q]
theorem ZeG:∀p:Pa,(Zde p).filterMap id=p.ks
 | .nil=>rfl
 | .kids m o=>by simp[Zde,Pa.ks,ZeG o]
 | .tag t w o=>by simp[Zde,Pa.ks,ZeG w,ZeG o]
theorem Zcs:∀p:Pa,(Zde p).length=p.sz
 | .nil=>rfl
 | .kids m o=>by simp[Zde,Pa.sz,Zcs o];lia
 | .tag t w o=>by simp[Zde,Pa.sz,Zcs w,Zcs o];lia
def Zgw(d:Nat):Sp:=fun vs H Q _=>∃(q:Addr)(ys:List V)(p:Pa),vs=[.ref q]/\H q=some (.tup ys)/\RepP H ys p/\p.dep<d/\p.sz<=1000/\∀(r:Addr)(zs:List V)(H':Hp),Zu H H'->H r=none->H' r=some (.lst zs)->PtL H' zs (Zde p)->Q (.ref r) H'
set_option maxHeartbeats 2000000 in
theorem ZfG(d:Nat)(B:∀x∈Zcb,mg x=none)(g_all_parts:Has P w K mg base "all_parts" ["parts"] d (Zgw d)) (F:Fun K "all_parts" "all_parts" Za6 f fd):FnOk P w K mg base CX0 (d+1) f fd ["parts"] (Zgw (d+1)):=by
 refine F.ok Zb4 (fun vs H Q E h=>?_) (fun cdv A outer s H vs Q E hr h=>?_)
 ·obtain⟨q,ys,p,rfl,_⟩:=h;rfl
 obtain⟨q,ys,p,rfl,hq,hP,hd,hz,qq⟩:=h;have hpl:=hP.length;refine⟨_,(Zd (Zn (i:=1) Zb4.nd rfl (Or.inl rfl) (Zas Zf))
  (Zd (ZaB PassesOwn.never rfl (Zea (pv 0)) (Zt (i:=2) Zb4.nd rfl (Or.inl rfl))
   (Zd (ZV (Zbe PySem.F.plainAttrs_list PySem.F.slot_list_append PySem.F.type_list_append ZD (pv 1) (Za (pv 2) Zf)))
    (Zj (Zbi (Z2 Zcr (ZG ZQ (pv 2) Zh (fun _ _=>rfl)) Zan (Zaf _))
     (Zj (ZV (Zbe PySem.F.plainAttrs_list PySem.F.slot_list_extend PySem.F.type_list_extend ZdS (pv 1) (Za (ZR g_all_parts hr rfl (Za (ZG ZQ (pv 2) Zh (fun _ _=>rfl)) Zf) (by lia)) Zf))))
     ZaR))))
  (Zj (ZS (pv 1))))),?_⟩
 refine⟨by decide,fun L hL=>?_⟩;have s0:Zu H (upd H L (.lst [])):=Zu.new hL;refine⟨_,rfl,q,rfl,⟨_,SqT.of (s0 _ _ hq)⟩,Zdx (K:=K) (a:=q) (xs:=ys) (fun i σ H1=>∃(v2:Option V)(zs:List V),σ =[some (.ref q),some (.ref L),v2]/\Zu H H1/\H1 L=some (.lst zs)/\PtL H1 zs (Zde (p.take i)))
  ⟨none,[],rfl,s0,Zb,.nil⟩ ?_ ?_ ?_⟩
 ·rintro i σ H1 _ ⟨_,_,_,s1,_⟩;exact SqT.of (s1 _ _ hq)
 ·rintro i x σ H1 hx ⟨v2,zs,rfl,s1,hL1,hzs⟩;obtain⟨a,rfl,ha⟩:=hP.at i x hx;have hts:=p.take_sz i;have hzl:zs.length=(p.take i).sz:=(Paired.length hzs).trans (Zcs _);refine⟨_,rfl,.inl ⟨rfl,_,SqL.of hL1⟩,_,rfl,L,_,_,rfl,rfl,hL1,Zx (by lia),?_⟩;have tk:TK H1 (upd H1 L (.lst (zs ++ [.ref a]))):=TK.lst hL1;rcases ha with⟨m,h1,h2⟩|⟨t,q',ys',w',h1,h2,h3,h4,h5,h6⟩
  ·have h1':=tk _ _ (s1 _ _ h1);refine⟨_,rfl,a,_,0,_,rfl,rfl,SqT.of h1',rfl,rfl,_,rfl,ZeT ?_⟩;refine⟨_,_,rfl,s1.upd_new hL,Zb,?_⟩;rw[h2,Zdd];exact Paired.app (hzs.tk tk) (.cons ⟨a,rfl,h1'⟩ .nil)
  ·have h1':=tk _ _ (s1 _ _ h1);refine⟨_,rfl,a,_,0,_,rfl,rfl,SqT.of h1',rfl,rfl,_,rfl,ZhS ?_⟩;have s2:Zu H (upd H1 L (.lst (zs ++ [.ref a]))):=s1.upd_new hL;refine⟨_,rfl,.inl ⟨rfl,_,SqL.of Zb⟩,_,rfl,a,_,2,_,rfl,rfl,SqT.of h1',rfl,q',ys',w',rfl,s2 _ _ h2,h3.mono s2.tk,by lia,by lia,fun r zr H3 s3 hr0 hr3 hzr=>?_⟩;have hL3:=s3 _ _ (show(upd H1 L (.lst (zs ++ [.ref a]))) L=some (.lst (zs ++ [.ref a])) from Zb);have hrl:zr.length=w'.sz:=(Paired.length hzr).trans (Zcs _);refine⟨L,r,_,_,rfl,rfl,hL3,hr3,ZaA (by rw[List.length_append,List.length_singleton];lia),?_⟩;have tk4:=TK.lst (o:=.lst (zs ++ [.ref a]++zr)) hL3;refine⟨_,_,rfl,(s2.trans s3).upd_new hL,Zb,?_⟩;rw[h4,Zdd];have e:Zde (Pa.tag t w' .nil)=none::Zde w':=by simp[Zde]
   rw[e];have k5:PtL (upd H3 L (.lst (zs ++ [.ref a]++zr))) (zs++(.ref a::zr)) (Zde (p.take i)++none::Zde w'):=Paired.app (((hzs.tk tk).tk s3.tk).tk tk4) (.cons ⟨a,t,q',rfl,tk4 _ _ (s3 _ _ h1')⟩ (hzr.tk tk4));rw[show zs++V.ref a::zr=zs ++ [V.ref a]++zr by simp] at k5;exact k5
 ·rintro σ H1 ⟨v2,zs,rfl,s1,hL1,hzs⟩;rw[hP.take_all] at hzs;exact⟨_,rfl,qq L zs H1 s1 hL hL1 hzs⟩
theorem PtL.get{H:Hp}:∀{zs:List V}{xs:List (Option Int)},PtL H zs xs->∀(i:Nat) z,zs[i]?= some z->∃x,xs[i]?= some x/\PtV H z x
 | _,_,.cons r t,0,z,hz=>by
  injection hz with hz;subst hz;exact⟨_,rfl,r⟩
 | _,_,.cons r t,i+1,z,hz=>PtL.get t i z hz
def RlV(H:Hp)(z:V)(r:Int×Str×Pa):Prop := ∃a q ys,z=.ref a/\H a=some (.tup [.int r.1,.str r.2.1,.ref q])/\H q=some (.tup ys)/\RepP H ys r.2.2
def RlL(H:Hp)(zs:List V)(rs:List (Int×Str×Pa)):Prop:=Paired (RlV H) zs rs
theorem RlL.tk{H H':Hp}(k:TK H H'):∀{zs:List V}{rs:List (Int×Str×Pa)},RlL H zs rs->RlL H' zs rs
 | _,_,.nil=>.nil
 | _,_,.cons ⟨a,q,ys,e,h1,h2,h3⟩ t=>.cons ⟨a,q,ys,e,k _ _ h1,k _ _ h2,h3.mono k⟩ (RlL.tk k t)
theorem RlL.get{H:Hp}:∀{zs:List V}{xs:List (Int×Str×Pa)},RlL H zs xs->∀(i:Nat) z,zs[i]?= some z->∃x,xs[i]?= some x/\RlV H z x
 | _,_,.cons r t,0,z,hz=>by
  injection hz with hz;subst hz;exact⟨_,rfl,r⟩
 | _,_,.cons r t,i+1,z,hz=>RlL.get t i z hz
def ChR(H:Hp)(c:Addr)(rs:List (Int×Str×Pa)):Prop := ∃n rt zs,H c=some (.tup [.int n,.ref rt])/\H rt=some (.tup zs)/\RlL H zs rs/\rs.length<=100/\∀r∈rs,r.2.2.sz<=20
def ZcT(f:Kn)(r:Int×Str×Pa):Kn:=fun i t=>if i=r.1/\t=r.2.1 then some r.2.2 else f i t
def Z4(rs:List (Int×Str×Pa)):Kn:=rs.foldl ZcT fun _ _=>none
def Za0(i:Int)(t:Str):List Key:=[Sum.inl i,Sum.inr t]
theorem Zc1{i j:Int}{t u:Str}(h:Za0 i t=Za0 j u):i=j/\t=u:=by
 unfold Za0 at h
 simpa using h
def ZeU:Sp:=fun vs H Q _=>∃(c:Addr)(rs:List (Int×Str×Pa)),vs=[.ref c]/\ChR H c rs/\∀(d:Addr)(m:List (List Key×V))(H':Hp),Zu H H'->H d=none->H' d=some (.dT m)->KnR H' m (Z4 rs)->Q (.ref d) H'
def PkV(H:Hp)(y:V)(kv:List Key×V)(r:Int×Str×Pa):Prop:=(∃t b,y=.ref t/\H t=some (.tup [.ref b,kv.2])/\H b=some (.tup (kv.1.map kV)))/\kv.1=Za0 r.1 r.2.1/\∃q ys,kv.2=.ref q/\H q=some (.tup ys)/\RepP H ys r.2.2
inductive PkL(H:Hp):List V->List (List Key×V)->List (Int×Str×Pa)->Prop
 | nil:PkL H [] [] []
 | cons {y:V} {kv:List Key×V} {r:Int×Str×Pa} {ys:List V} {kvs:List (List Key×V)} {rs:List (Int×Str×Pa)}:PkV H y kv r->PkL H ys kvs rs->PkL H (y::ys) (kv::kvs) (r::rs)
theorem PkL.tk{H H':Hp}(k:TK H H'):∀{ys:List V}{kvs:List (List Key×V)}{rs:List (Int×Str×Pa)},PkL H ys kvs rs->PkL H' ys kvs rs
 | _,_,_,.nil=>.nil
 | _,_,_,.cons ⟨⟨t,b,e1,e2,e3⟩,e4,q,zs,e5,e6,e7⟩ t'=>.cons ⟨⟨t,b,e1,k _ _ e2,k _ _ e3⟩,e4,q,zs,e5,k _ _ e6,e7.mono k⟩ (t'.tk k)
theorem PkL.snoc{H:Hp}{y:V}{kv:List Key×V}{r:Int×Str×Pa}(h:PkV H y kv r):∀{ys:List V}{kvs:List (List Key×V)}{rs:List (Int×Str×Pa)},PkL H ys kvs rs->PkL H (ys ++ [y]) (kvs ++ [kv]) (rs ++ [r])
 | _,_,_,.nil=>.cons h .nil
 | _,_,_,.cons r t=>.cons r (t.snoc h)
theorem PkL.pairs{H:Hp}:∀{ys:List V}{kvs:List (List Key×V)}{rs:List (Int×Str×Pa)},PkL H ys kvs rs->Paired (fun(y:V)(kv:List Key×V)=>∃t b,y=.ref t/\H t=some (.tup [.ref b,kv.2])/\H b=some (.tup (kv.1.map kV))) ys kvs/\ys.length=rs.length
 | _,_,_,.nil=>⟨.nil,rfl⟩
 | _,_,_,.cons r t=>⟨.cons r.1 t.pairs.1,by simp[t.pairs.2]⟩
theorem PkL.kn{H:Hp}:∀{ys:List V}{kvs:List (List Key×V)}{rs:List (Int×Str×Pa)}{m:List (List Key×V)}{f:Kn},PkL H ys kvs rs->KnR H m f->KnR H (kvs.foldl (fun m kv=>putK m kv.1 kv.2) m) (rs.foldl ZcT f)
 | _,_,_,_,_,.nil,h=>h
 | _,_,_,m,f,.cons (kv:=kv) (r:=r) ⟨_,e4,q,zs,e5,e6,e7⟩ t,h=>by
  refine t.kn (m:=putK m kv.1 kv.2) (f:=ZcT f r) fun i u=>?_;show(Zbg (putK m kv.1 kv.2) (Za0 i u)=none/\ZcT f r i u=none)\/∃q ys p,Zbg (putK m kv.1 kv.2) (Za0 i u)=some (.ref q)/\H q=some (.tup ys)/\RepP H ys p/\ZcT f r i u=some p;rw[ZeP,e4];unfold ZcT;by_cases c:i=r.1/\u=r.2.1
  ·rw[if_pos (by rw[c.1,c.2]),if_pos c];exact .inr ⟨q,zs,r.2.2,by rw[e5],e6,e7,rfl⟩
  ·rw[if_neg (fun z=>c (Zc1 (i:=i) (t:=u) z)),if_neg c];exact h i u
set_option maxHeartbeats 2000000 in
theorem ZcV(B:∀x∈Zcb,mg x=none)(F:Fun K "parts_by_rule" "parts_by_rule" Z9 f fd):FnOk P w K mg base CX0 1 f fd ["changer"] ZeU:=by
 refine F.ok ZcZ (fun vs H Q E h=>?_) (fun cdv A outer s H vs Q E hr h=>?_)
 ·obtain⟨c,rs,rfl,_⟩:=h;rfl
 obtain⟨c,rs,rfl,⟨n,rt,zs,h1,h2,h3,h4,h5⟩,qq⟩:=h;have hu2:(A.deeper (PyProof.Rows.envOfC (Str.ofString "parts_by_rule") (Zg Z9) s.heap.objs.size f cdv)).units+2<cLine:=by have:=hr.un;lia
 have hzl:zs.length=rs.length:=Paired.length h3;refine⟨_,(Zj (ZS (ZaM (Zdt rfl hu2) rfl (B "dict" (by decide)) Zh1 (Za (Zf0 (cl:=[]) ["mode","tag","parts"] [] (Zea (ZG ZQ (pv 0) Zh (fun _ _=>rfl))) (fun _ _ _ _=>(Zh7 (K:=K) (n:=3) rfl rfl (ZJ (Zt (i:=0) (show List.Nodup (["mode","tag","parts"]:List Str) by decide) rfl (Or.inl rfl)) (ZJ (Zt (i:=1) (show List.Nodup (["mode","tag","parts"]:List Str) by decide) rfl (Or.inl rfl)) (ZJ (Zt (i:=2) (show List.Nodup (["mode","tag","parts"]:List Str) by decide) rfl (Or.inl rfl)) Zbd))))) (fun _ _ _ _=>(ZK (Za (ZK (Za (pv 0) (Za (pv 1) Zf))) (Za (pv 2) Zf)))) rfl rfl (by decide) rfl (by decide) (fun _ _ h=>nomatch h) (Zjl (by decide)) (fun _ _ h=>nomatch h) (fun _=>rfl)) Zf)))),?_⟩
 refine⟨_,rfl,c,_,1,_,rfl,rfl,SqT.of h1,rfl,rt,rfl,⟨_,SqT.of h2⟩,fun pc hpc=>Zjz (K:=K) (a:=rt) (p:=pc) (xs:=zs) (fun i us σ H2=>∃(v0 v1 v2:Option V)(kvs:List (List Key×V)),σ =[v0,v1,v2]/\Zu H H2/\H2 pc=some (.lst us)/\PkL H2 us kvs (rs.take i))
  ⟨none,none,none,[],rfl,Zu.new hpc,Zb,.nil⟩ ?_ ?_ ?_⟩
 ·rintro i us σ H2 _ ⟨_,_,_,_,_,s2,h,_⟩;exact⟨SqT.of (s2 _ _ h2),h⟩
 ·rintro i us x σ H2 hi hx ⟨v0,v1,v2,kvs,rfl,s2,hp,hpk⟩;obtain⟨r,hr1,a,q,ys,rfl,g1,g2,g3⟩:=h3.get i x hx;have hul:=hpk.pairs.2;rw[List.length_take] at hul;refine⟨a,_,rfl,SqT.of (s2 _ _ g1),rfl,_,_,rfl,_,_,rfl,_,_,rfl,rfl,?_⟩;refine⟨_,rfl,_,rfl,(by show 2<=sizeLine;decide),fun t1 ht1=>⟨_,rfl,(by show 2<=sizeLine;decide),fun t2 ht2=>?_⟩⟩;obtain⟨n21,ht2'⟩:=Zk ht2;have s4:Zu H2 (upd (upd H2 t1 (.tup [.int r.1,.str r.2.1])) t2 (.tup [.ref t1,.ref q])):=(Zu.new ht1).upd_new ht2';refine⟨s4 _ _ hp,Zx (by lia),CW.next hi ⟨_,_,_,kvs ++ [(Za0 r.1 r.2.1,.ref q)],rfl,(s2.trans s4).upd_new hpc,Zb,?_⟩⟩
  rw[Za3 hr1];have tk:=s4.tk.trans (TK.lst (o:=.lst (us ++ [.ref t2])) (s4 _ _ hp));have nt2:t2≠pc:=fun z=>by rw[z,hp] at ht2';cases ht2'
  have nt1:t1≠pc:=fun z=>by rw[z,hp] at ht1;cases ht1
  refine(hpk.tk tk).snoc ⟨⟨t2,t1,rfl,?_,?_⟩,rfl,q,ys,rfl,tk _ _ (s2 _ _ g2),(g3.mono s2.tk).mono tk⟩
  ·rw[Zc nt2];exact Zb
  ·rw[Zc nt1,Zc n21.symm,Zb];rfl
 rintro us σ H2 ⟨v0,v1,v2,kvs,rfl,s2,hp,hpk⟩;rw[hzl,List.take_length] at hpk;obtain⟨hpp,hul⟩:=hpk.pairs;refine⟨pc,us,kvs,rfl,SqL.of hp,by lia,hpp,fun d hd=>?_⟩;have s3:Zu H2 (upd H2 d (.dT (putAllT kvs))):=Zu.new hd;refine qq d (putAllT kvs) _ (s2.trans s3) (s2.free hd) Zb ?_;exact(hpk.kn (m:=[]) (f:=fun _ _=>none) (fun i t=>.inl ⟨rfl,rfl⟩)).tk s3.tk
def paD(kn:Kn)(m:Int)(t:Str):Pa:=(kn m t).getD (.tag t (.kids m .nil) .nil)
def ZaU:Sp:=fun vs H Q _=>∃(d:Addr)(m:List (List Key×V))(kn:Kn)(i:Int)(t:Str),vs=[.ref d,.int i,.str t]/\H d=some (.dT m)/\KnR H m kn/\∀(q:Addr)(ys:List V)(H':Hp),Zu H H'->H' q=some (.tup ys)->RepP H' ys (paD kn i t)->Q (.ref q) H'
set_option maxHeartbeats 2000000 in
theorem Zfm(B:∀x∈Zcb,mg x=none)(F:Fun K "parts_for" "parts_for" ZaP f fd):FnOk P w K mg base CX0 1 f fd ["known","mode","tag"] ZaU:=by
 refine F.ok ZfB (fun vs H Q E h=>?_) (fun cdv A outer s H vs Q E hr h=>?_)
 ·obtain⟨d,m,kn,i,t,rfl,_⟩:=h;rfl
 obtain⟨d,m,kn,i,t,rfl,hd,hkn,qq⟩:=h;have hu1:(A.deeper (PyProof.Rows.envOfC (Str.ofString "parts_for") (Zg ZaP) s.heap.objs.size f cdv)).units+1<cLine:=by have:=hr.un;lia
 refine⟨_,(Zj (ZS (ZgH hu1 (pv 0) (ZK (Za (pv 1) (Za (pv 2) Zf))) (ZK (Za (ZK (Za Zan (Za (pv 2) (Za (ZK (Za (ZK (Za Zan (Za (pv 1) Zf))) Zf)) Zf)))) Zf)) ⟨rfl,rfl,rfl,rfl⟩))),?_⟩;refine⟨_,rfl,d,rfl,.inr ⟨m,.inl hd⟩,_,rfl,_,rfl,(by show 2<=sizeLine;decide),fun t1 ht1=>?_⟩;refine⟨_,rfl,_,rfl,(by show 2<=sizeLine;decide),fun t2 ht2=>⟨(by show 1<=sizeLine;decide),fun t3 ht3=>⟨(by show 3<=sizeLine;decide),fun t4 ht4=>⟨(by show 1<=sizeLine;decide),fun t5 ht5=>?_⟩⟩⟩⟩;obtain⟨n21,ht2a⟩:=Zk ht2;obtain⟨n32,ht3a⟩:=Zk ht3;obtain⟨n31,ht3b⟩:=Zk ht3a;obtain⟨n43,ht4a⟩:=Zk ht4;obtain⟨n42,ht4b⟩:=Zk ht4a;obtain⟨n41,ht4c⟩:=Zk ht4b;obtain⟨n54,ht5a⟩:=Zk ht5;obtain⟨n53,ht5b⟩:=Zk ht5a;obtain⟨n52,ht5c⟩:=Zk ht5b;obtain⟨n51,ht5d⟩:=Zk ht5c;have s5:Zu H (upd (upd (upd (upd (upd H t1 (.tup [.int i,.str t])) t2 (.tup [.str "kids",.int i])) t3 (.tup [.ref t2])) t4 (.tup [.str "tag",.str t,.ref t3])) t5 (.tup [.ref t4])):=((((Zu.new ht1).upd_new ht2a).upd_new ht3b).upd_new ht4c).upd_new ht5d;have x1:(upd (upd (upd (upd (upd H t1 (.tup [.int i,.str t])) t2 (.tup [.str "kids",.int i])) t3 (.tup [.ref t2])) t4 (.tup [.str "tag",.str t,.ref t3])) t5 (.tup [.ref t4])) t1=some (.tup ((Za0 i t).map kV)):=by
  rw[Zc n51.symm,Zc n41.symm,Zc n31.symm,Zc n21.symm,Zb];rfl
 have x2:(upd (upd (upd (upd (upd H t1 (.tup [.int i,.str t])) t2 (.tup [.str "kids",.int i])) t3 (.tup [.ref t2])) t4 (.tup [.str "tag",.str t,.ref t3])) t5 (.tup [.ref t4])) t2=some (.tup [.str "kids",.int i]):=by
  rw[Zc n52.symm,Zc n42.symm,Zc n32.symm,Zb]
 have x3:(upd (upd (upd (upd (upd H t1 (.tup [.int i,.str t])) t2 (.tup [.str "kids",.int i])) t3 (.tup [.ref t2])) t4 (.tup [.str "tag",.str t,.ref t3])) t5 (.tup [.ref t4])) t3=some (.tup [.ref t2]):=by
  rw[Zc n53.symm,Zc n43.symm,Zb]
 have x4:(upd (upd (upd (upd (upd H t1 (.tup [.int i,.str t])) t2 (.tup [.str "kids",.int i])) t3 (.tup [.ref t2])) t4 (.tup [.str "tag",.str t,.ref t3])) t5 (.tup [.ref t4])) t4=some (.tup [.str "tag",.str t,.ref t3]):=by
  rw[Zc n54.symm,Zb]
 have x5:(upd (upd (upd (upd (upd H t1 (.tup [.int i,.str t])) t2 (.tup [.str "kids",.int i])) t3 (.tup [.ref t2])) t4 (.tup [.str "tag",.str t,.ref t3])) t5 (.tup [.ref t4])) t5=some (.tup [.ref t4]):=Zb;refine⟨_,ZeQ.t (k:=Za0 i t) (s5 _ _ hd) x1,?_⟩;rcases hkn i t with⟨e1,e2⟩|⟨q,ys,p,e1,e2,e3,e4⟩
 ·have e1':Zbg m (Za0 i t)=none:=e1;rw[e1'];refine qq t5 [.ref t4] _ s5 x5 ?_;unfold paD;rw[e2];exact .tag x4 x3 (.kids x2 .nil) .nil
 ·have e1':Zbg m (Za0 i t)=some (.ref q):=e1;rw[e1'];refine qq q ys _ s5 (s5 _ _ e2) ?_;unfold paD;rw[e4];exact e3.mono s5.tk
theorem ZfA(B:∀x∈Zcb,mg x=none)(F:Fun K "_law_cell_at" "_law_cell_at" Za4 f fd):FnOk P w K mg base CX0 1 f fd ["_law_script","_law_k"] (ZgT K):=by
 refine F.ok Zfi (fun vs H Q E h=>?_) (fun cdv A outer s H vs Q E hr h=>?_)
 ·obtain⟨a,ns,k,rfl,_⟩:=h;rfl
 obtain⟨a,ns,k,rfl,hS,h63,h0,q⟩:=h;refine⟨_,(Zd (Zbi (Z2 Zkq (pv 1) (ZaG Zba rfl (B "len" (by decide)) PySem.boot_len (Za (pv 0) Zf)) (Zaf _))
   (Zj (ZS (ZG Z3 (pv 0) (pv 1) (fun _ _=>rfl))))
   ZaR)
  (Zj (ZS Zh))),?_⟩
 refine⟨_,rfl,_,rfl,a,_,rfl,.inl hS,_,_,rfl,rfl,_,rfl,?_⟩;refine Zd8 (fun c=>?_) (fun c=>?_)
 ·have c':=of_decide_eq_true c;rw[List.length_map] at c';obtain⟨v,hv⟩:=ZiE (ns:=ns) h0 c';exact⟨_,rfl,_,rfl,a,_,k,_,rfl,rfl,hS,hv,q v⟩
 ·exact q 0
def ZkX:Sp:=fun vs H Q _=>∃(dd d:Addr)(t:Str)(m:List (List Key×V))(kn:Kn)(n:Int)(ms:List Int),vs=[.ref dd,.ref d,.str t]/\H dd=some (.dT m)/\KnR H m kn/\KnV kn n/\n<=1000/\H d=some (.dK (kvM ms))/\(∀m∈ms,0<=m/\m<n) /\
 ∀(r:Addr)(H':Hp),Zu H H'->H r=none->H' r=some (.dK (kvM (Zej kn t ms)))->Q (.ref r) H'
def ZhL(acc ks:List Int):List Int:=ks.foldl (fun acc k=>if k∈acc then acc else acc ++ [k]) acc
def ZkM(kn:Kn)(t:Str)(ms:List Int):List Int:=ms.foldl (fun acc m=>ZhL acc (paC kn m t).ks) []
theorem Zko(kn:Kn)(t:Str)(ms:List Int):(ZkM kn t ms).Nodup:=(Zc4 kn t ms []).2 List.nodup_nil
theorem Zjj(acc ks:List Int)(k:Int):ZhL acc (ks ++ [k])=if k∈ZhL acc ks then ZhL acc ks else ZhL acc ks ++ [k]:=by
 unfold ZhL;rw[List.foldl_append];rfl
theorem ZkC{acc:List Int}(ks:List Int)(h:acc.Nodup):(ZhL acc ks).Nodup:=Zj3 ks acc h
theorem ZjU{acc ks:List Int}(x:Int):x∈ZhL acc ks↔x∈acc\/x∈ks:=ZhW ks acc x
theorem ZiT(kn:Kn)(t:Str)(ms:List Int)(m:Int):ZkM kn t (ms ++ [m])=ZhL (ZkM kn t ms) (paC kn m t).ks:=by
 unfold ZkM;rw[List.foldl_append];rfl
set_option maxHeartbeats 2000000 in
theorem ZdO(B:∀x∈Zcb,mg x=none)(g_all_parts:Has P w K mg base "all_parts" ["parts"] 22 (Zgw 22)) (g_parts_for:Has P w K mg base "parts_for" ["known","mode","tag"] 1 ZaU) (F:Fun K "modes_within" "modes_within" Zah f fd):FnOk P w K mg base CX0 23 f fd ["known","modes","tag"] ZkX:=by
 refine F.ok ZaX (fun vs H Q E h=>?_) (fun cdv A outer s H vs Q E hr h=>?_)
 ·obtain⟨dd,d,t,m,kn,n,ms,rfl,_⟩:=h;rfl
 obtain⟨dd,d,t,m,kn,n,ms,rfl,hdd,hkn,kv,hn,hd,hms,qq⟩:=h;have hu1:(A.deeper (PyProof.Rows.envOfC (Str.ofString "modes_within") (Zg Zah) s.heap.objs.size f cdv)).units+1<cLine:=by have:=hr.un;lia
 refine⟨_,(Zd (Zn (i:=3) ZaX.nd rfl (Or.inl rfl) Zc3)
  (Zd (Zh4 (ZaB PassesOwn.never rfl (ZhQ (pv 1)) (Zt (i:=4) ZaX.nd rfl (Or.inl rfl))
   (Zj (ZaB PassesOwn.never rfl (ZbL (ZR g_all_parts hr rfl (Za (ZR g_parts_for hr rfl (Za (pv 0) (Za (pv 4) (Za (pv 2) Zf)))) Zf))) (Zt (i:=5) ZaX.nd rfl (Or.inl rfl))
     (Zj (Zbi (Z2 Zcr (ZG ZQ (pv 5) Zh (fun _ _=>rfl)) Zan (Zaf _))
       (Zj (ZdD hu1 (pv 3) (ZG ZQ (pv 5) Zh (fun _ _=>rfl)) ZdE rfl))
       ZaR))))))
  (Zj (ZS (pv 3))))),?_⟩
 refine fun Fd hF=>?_;have nF:Fd≠d:=fun z=>by rw[z,hd] at hF;cases hF
 refine⟨_,rfl,d,kvM ms,rfl,by rw[Zc nF.symm];exact hd,fun ob=>?_⟩;have ndd:dd≠d:=fun z=>by rw[z,hd] at hdd;cases hdd
 have tk0:TK H (upd H d (.frz ob (.dK (kvM ms)))):=fun b ys e=>by rw[Zc (fun z=>by rw[z,hd] at e;cases e)];exact e
 have hkl:(kvM ms).length=ms.length:=List.length_map ..;refine ZgJ (d:=d) (ob:=ob) (kvs:=kvM ms) (fun i σ H1=>∃(v4 v5:Option V),σ =[some (.ref dd),some (.ref d),some (.str t),some (.ref Fd),v4,v5]/\Zu (upd H d (.frz ob (.dK (kvM ms)))) H1/\H1 Fd=some (.dK (kvM (ZkM kn t (ms.take i)))))
  ⟨none,none,rfl,?_,?_⟩ ?_ ?_ ?_
 ·intro b o e;by_cases hb:b=d
  ·rw[hb] at e ⊢;rw[Zb] at e ⊢;exact e
  ·rw[Zc hb] at e ⊢;rw[Zc (Zm e hF)];exact e
 ·rw[Zc nF];exact Zb
 ·rintro i σ H1 _ ⟨_,_,_,s1,_⟩;exact s1 _ _ Zb
 ·rintro i k v σ H1 hk ⟨v4,v5,rfl,s1,hF1⟩;obtain⟨mo,hmo,rfl⟩:∃mo,ms[i]?= some mo/\k=Sum.inl mo:=by
   unfold kvM at hk;rw[List.getElem?_map] at hk;obtain⟨mo,h1,h2⟩:=Option.map_eq_some_iff.mp hk;injection h2 with h2 h3;exact⟨mo,h1,h2.symm⟩
  have hmv:=hms mo (List.mem_of_getElem? hmo);have tk1:=tk0.trans s1.tk;have hdd1:H1 dd=some (.dT m):=s1 _ _ (by rw[Zc ndd];exact hdd);have psz:=kv.psz mo t;have pdp:=(paC kn mo t).ZdT;refine⟨_,rfl,_,rfl,_,rfl,dd,m,kn,mo,t,rfl,hdd1,hkn.tk tk1,fun q ys H2 s2 hq rp=>?_⟩;refine⟨q,ys,paC kn mo t,rfl,hq,rp,by lia,by lia,fun r zs H3 s3 hr0 hr3 hzs=>?_⟩;have hzl:zs.length=(Zde (paC kn mo t)).length:=Paired.length hzs;have hks:=ZeG (paC kn mo t);have s13:=(s1.trans s2).trans s3;have nv:∀x∈ZkM kn t (ms.take i),0<=x/\x<n:=fun x hx=>kv.mds (t:=t) (ms:=ms.take i) (fun m hm=>hms m (List.mem_of_mem_take hm)) x hx;refine⟨r,rfl,⟨_,SqL.of hr3⟩,Zbu (K:=K) (a:=r) (xs:=zs) (fun j σ H4=>∃(v5:Option V),σ =[some (.ref dd),some (.ref d),some (.str t),some (.ref Fd),some (.int mo),v5]/\(∀b o,b≠Fd->H3 b=some o->H4 b=some o)/\H4 Fd=some (.dK (kvM (ZhL (ZkM kn t (ms.take i)) (((Zde (paC kn mo t)).take j).filterMap id)))))
   ⟨_,rfl,fun _ _ _ h=>h,s3 _ _ (s2 _ _ hF1)⟩ ?_ ?_ ?_⟩
  ·rintro j σ H4 _ ⟨_,_,k4,_⟩;exact SqL.of (k4 _ _ (fun z=>by rw[z,s2 _ _ hF1] at hr0;cases hr0) hr3)
  ·rintro j x σ H4 hx ⟨v5,rfl,k4,hF4⟩;obtain⟨o,ho,hv⟩:=hzs.get j x hx;have ts:=Za3 ho;cases o with
   | some mk =>
    obtain⟨a,rfl,ha⟩:=hv;have ha4:=k4 _ _ (fun z=>by rw[z,s3 _ _ (s2 _ _ hF1)] at ha;cases ha) ha;refine⟨_,rfl,a,_,0,_,rfl,rfl,SqT.of ha4,rfl,rfl,_,rfl,ZhS ?_⟩;refine⟨_,rfl,_,rfl,a,_,1,_,rfl,rfl,SqT.of ha4,rfl,Fd,_,rfl,Zix.k (k:=Sum.inl mk) hF4 ?_,?_⟩
    ·unfold kvM;rw[List.length_map];have h1:=ZjS n.toNat _ (ZkC (((Zde (paC kn mo t)).take j).filterMap id) (Zko kn t (ms.take i))) fun x hx=>by
      rcases(ZjU x).mp hx with hx|hx
      ·have:=nv x hx;lia
      ·have h2:x∈(paC kn mo t).ks:=by
        rw[<- hks];obtain⟨y,hy,e⟩:=List.mem_filterMap.mp hx;exact List.mem_filterMap.mpr ⟨y,List.mem_of_mem_take hy,e⟩
       have:=kv.pks hmv x h2;lia
     exact Zx (by lia)
    ·refine⟨_,rfl,fun b o hb h=>by rw[Zc hb];exact k4 b o hb h,?_⟩;rw[Zb,ZkY,ts,List.filterMap_append];show _=some (HO.dK (kvM (ZhL _ (_ ++ [mk]))));rw[Zjj]
   | none =>
    obtain⟨a,t',q',rfl,ha⟩:=hv;have ha4:=k4 _ _ (fun z=>by rw[z,s3 _ _ (s2 _ _ hF1)] at ha;cases ha) ha;refine⟨_,rfl,a,_,0,_,rfl,rfl,SqT.of ha4,rfl,rfl,_,rfl,ZeT ?_⟩;refine⟨_,rfl,k4,?_⟩;rw[ts,List.filterMap_append];show _=some (HO.dK (kvM (ZhL _ (_ ++ []))));rw[List.append_nil];exact hF4
  ·rintro σ H4 ⟨v5,rfl,k4,hF4⟩;rw[hzl,List.take_length,hks] at hF4;refine⟨_,_,rfl,fun b o e=>k4 b o (fun z=>by
    rw[z] at e;rw[Zc nF,hF] at e;cases e) (s13 b o e),?_⟩
   rw[hF4,Za3 hmo,ZiT]
 ·rintro σ H1 ⟨v4,v5,rfl,s1,hF1⟩;rw[hkl,List.take_length] at hF1;refine⟨d,ob,kvM ms,s1 _ _ Zb,fun o u z=>?_,?_⟩
  ·have z:H d=some (.frz o u):=z;rw[hd] at z;cases z
  refine⟨_,rfl,qq Fd _ (fun b o e=>?_) hF ?_⟩
  ·by_cases hb:b=d
   ·rw[hb] at e ⊢;rw[Zb,<- e,hd]
   ·rw[Zc hb];exact s1 _ _ (by rw[Zc hb];exact e)
  ·rw[Zc nF];exact hF1
def MdV(H0 H:Hp)(v:V)(ms:List Int):Prop := ∃d,v=V.ref d/\H d=some (.dK (kvM ms))/\H0 d=none
def MdL(H0 H:Hp)(zs:List V)(mss:List (List Int)):Prop:=Paired (MdV H0 H) zs mss
theorem MdL.same{H0 H H':Hp}(s:Zu H H'):∀{zs:List V}{mss:List (List Int)},MdL H0 H zs mss->MdL H0 H' zs mss
 | _,_,.nil=>.nil
 | _,_,.cons ⟨d,e,h1,h2⟩ t=>.cons ⟨d,e,s _ _ h1,h2⟩ (MdL.same s t)
theorem MdL.lst{H0 H:Hp}{l:Addr}{o:HO}{xs:List V}(hl:H l=some (.lst xs)):∀{zs:List V}{mss:List (List Int)},MdL H0 H zs mss->MdL H0 (upd H l o) zs mss
 | _,_,.nil=>.nil
 | _,_,.cons ⟨d,e,h1,h2⟩ t=>.cons ⟨d,e,by rw[Zc (fun z=>by rw[z,hl] at h1;cases h1)];exact h1,h2⟩ (MdL.lst hl t)
def ZkZ:Sp:=fun vs H Q _=>∃(dd wl:Addr)(m0:Int)(m:List (List Key×V))(kn:Kn)(n:Int)(G:Gr Str),vs=[.ref dd,.ref wl,.int m0]/\H dd=some (.dT m)/\KnR H m kn/\KnV kn n/\n<=1000/\0<=m0/\m0<n/\H wl=some (.lst ((words SL G).map V.str))/\ZaW SL G/\gsz G<=400 /\
 ∀(r:Addr)(zs:List V)(H':Hp),Zu H H'->H r=none->H' r=some (.lst zs)->MdL H H' zs (Zc7 kn [m0] G)->Q (.ref r) H'
theorem Zca{kn:Kn}{n:Int}(kv:KnV kn n):∀(ws:List Str)(st fo:List (List Int)),(∀ms∈st,∀m∈ms,0<=m/\m<n)->∀ms∈(ws.foldl (Zbr kn) (st,fo)).1,∀m∈ms,0<=m/\m<n
 | [],_,_,h=>h
 | w::ws,[],fo,h=>by
  rw[List.foldl_cons,show Zbr kn ([],fo) w=([],fo) by rw[Zbr]];exact Zca kv ws [] fo h
 | w::ws,top::rs,fo,h=>by
  rw[List.foldl_cons,Zbr];by_cases c:w=SL
  ·rw[if_pos c];exact Zca kv ws rs _ fun ms hm=>h ms (List.mem_cons_of_mem _ hm)
  ·rw[if_neg c];refine Zca kv ws _ _ fun ms hm=>?_;rcases List.mem_cons.mp hm with rfl|hm
   ·exact kv.mds (h top (List.mem_cons_self ..))
   ·exact h ms hm
set_option maxHeartbeats 2000000 in
theorem Zgf(B:∀x∈Zcb,mg x=none)(g_modes_within:Has P w K mg base "modes_within" ["known","modes","tag"] 23 ZkX) (F:Fun K "modes_at" "modes_at" Zbl f fd):FnOk P w K mg base CX0 24 f fd ["known","words","mode"] ZkZ:=by
 refine F.ok ZbI (fun vs H Q E h=>?_) (fun cdv A outer s H vs Q E hr h=>?_)
 ·obtain⟨dd,wl,m0,m,kn,n,G,rfl,_⟩:=h;rfl
 obtain⟨dd,wl,m0,m,kn,n,G,rfl,hdd,hkn,kv,hn,m00,m0n,hwl,hc,hz,qq⟩:=h;have hwz:=ZM G;have hcan:Can SL 0 (words SL G):=by
  have:=Zcx (n:=0) (ws:=[]) hc rfl
  rwa [List.append_nil] at this
 refine⟨_,(Zd (Zn (i:=3) ZbI.nd rfl (Or.inl rfl) (Zas Zf))
  (Zd (Zn (i:=4) ZbI.nd rfl (Or.inl rfl) (Zas (Za (ZkA (Zj0 (pv 2) ZdE ZkJ) rfl rfl (List.cons_ne_nil _ _) (by decide)) Zf)))
  (Zd (ZaB PassesOwn.never rfl (ZbL (pv 1)) (Zt (i:=5) ZbI.nd rfl (Or.inl rfl))
   (Zd (ZV (Zbe PySem.F.plainAttrs_list PySem.F.slot_list_append PySem.F.type_list_append ZD (pv 3) (Za (ZG Z3 (pv 4) (Ze1 ZcP Zh) (fun _ _=>rfl)) Zf)))
    (Zj (Zbi (Z2 Zcr (pv 5) Zan (Zaf _))
     (Zj (ZV (ZbX PySem.F.plainAttrs_list PySem.F.slot_list_pop PySem.F.type_list_pop Zb3 (pv 4))))
     (Zj (ZV (Zbe PySem.F.plainAttrs_list PySem.F.slot_list_append PySem.F.type_list_append ZD (pv 4) (Za (ZR g_modes_within hr rfl (Za (pv 0) (Za (ZG Z3 (pv 4) (Ze1 ZcP Zh) (fun _ _=>rfl)) (Za (pv 5) Zf)))) Zf))))))))
  (Zj (ZS (pv 3)))))),?_⟩
 refine⟨by decide,fun fo hfo=>?_⟩;refine fun d0 hd0=>⟨_,rfl,Zb,[(Sum.inl m0,.bl true)],rfl,(by show 1<=15;decide),(by show 1<=sizeLine;decide),fun rw_ hrw=>?_⟩;obtain⟨n0f,hd0'⟩:=Zk hd0;obtain⟨nr0,hrw1⟩:=Zk hrw;obtain⟨_,hrw2⟩:=Zk hrw1;obtain⟨nrf,hrw'⟩:=Zk hrw2;have s0:Zu H (upd (upd (upd (upd H fo (.lst [])) d0 (.dK [])) d0 (.dK (kvM [m0]))) rw_ (.lst [.ref d0])):=(((Zu.new hfo).upd_new hd0').upd_new hd0').upd_new hrw';have x1:(upd (upd (upd (upd H fo (.lst [])) d0 (.dK [])) d0 (.dK (kvM [m0]))) rw_ (.lst [.ref d0])) fo=some (.lst []):=by
  rw[Zc nrf.symm,Zc n0f.symm,Zc n0f.symm];exact Zb
 have x2:(upd (upd (upd (upd H fo (.lst [])) d0 (.dK [])) d0 (.dK (kvM [m0]))) rw_ (.lst [.ref d0])) d0=some (.dK (kvM [m0])):=by
  rw[Zc nr0.symm];exact Zb
 have x3:(upd (upd (upd (upd H fo (.lst [])) d0 (.dK [])) d0 (.dK (kvM [m0]))) rw_ (.lst [.ref d0])) rw_=some (.lst [.ref d0]):=Zb;change (upd (upd (upd (upd H fo (.lst [])) d0 (.dK [])) d0 (.dK (kvM [m0]))) rw_ (.lst [.ref d0])) rw_=_ at x3;show ZmD _ _ _ _ (upd (upd (upd (upd H fo (.lst [])) d0 (.dK [])) d0 (.dK (kvM [m0]))) rw_ (.lst [.ref d0]));generalize upd (upd (upd (upd H fo (.lst [])) d0 (.dK [])) d0 (.dK (kvM [m0]))) rw_ (.lst [.ref d0])=H0 at s0 x1 x2 x3 ⊢;have hwl0:=s0 _ _ hwl;refine⟨_,rfl,wl,rfl,⟨_,SqL.of hwl0⟩,Zbu (K:=K) (a:=wl) (xs:=(words SL G).map V.str) (fun i σ H1=>∃(v5:Option V)(zs rzs:List V)(st fos:List (List Int)),σ =[some (.ref dd),some (.ref wl),some (.int m0),some (.ref fo),some (.ref rw_),v5]/\Zu H H1/\H1 fo=some (.lst zs)/\MdL H H1 zs fos/\H1 rw_=some (.lst rzs)/\MdL H H1 rzs st.reverse/\((words SL G).take i).foldl (Zbr kn) ([[m0]],[])=(st,fos)/\st ≠ []/\Can SL (st.length-1) ((words SL G).drop i)/\fos.length<=i/\st.length<=i+1)
  ⟨none,[],[.ref d0],[[m0]],[],rfl,s0,x1,.nil,x3,.cons ⟨d0,rfl,x2,hd0'⟩ .nil,rfl,List.cons_ne_nil _ _,hcan,Nat.le_refl _,Nat.le_refl _⟩ ?_ ?_ ?_⟩
 ·rintro i σ H1 _ ⟨_,_,_,_,_,_,s1,_⟩;exact SqL.of (s1 _ _ hwl)
 ·rintro i x σ H1 hx ⟨v5,zs,rzs,st,fos,rfl,s1,hf1,mz,hr1,mr,he,hne,hcn,hfl,hsl⟩;rw[List.getElem?_map] at hx;obtain⟨wd,hw,rfl⟩:=Option.map_eq_some_iff.mp hx;have hil:=(List.getElem?_eq_some_iff.mp hw).1;have hval:=Zca kv ((words SL G).take i) [[m0]] [] (fun ms hm=>by
   rw[List.mem_singleton.mp hm];intro m hm;rw[List.mem_singleton.mp hm];exact⟨m00,m0n⟩)
  rw[he] at hval;cases st with
  | nil=>exact absurd rfl hne
  | cons top rs =>
   rw[List.reverse_cons] at mr;have hrl:rzs.length=rs.length+1:=by
    have:=Paired.length mr;rw[List.length_append,List.length_reverse,List.length_singleton] at this;exact this
   obtain⟨rzs',v,rfl⟩:=ZiG (show rzs ≠ [] from fun z=>by rw[z] at hrl;cases hrl);obtain⟨k',b',ek,mr',mv⟩:=Paired.unsnoc mr;obtain⟨e1,e2⟩:=List.append_inj' ek rfl;injection e2 with e2;subst e1 e2;have hzl:zs.length=fos.length:=Paired.length mz;have htk:((words SL G).take (i+1)).foldl (Zbr kn) ([[m0]],[])=Zbr kn (top::rs,fos) wd:=by
    rw[Za3 hw,List.foldl_append,he];rfl
   have hdr:=ZbT hw;rw[hdr] at hcn;rw[List.length_append,List.length_singleton] at hrl;rw[List.length_cons] at hsl hcn;refine⟨_,rfl,.inl ⟨rfl,_,SqL.of hf1⟩,_,rfl,1,rfl,rw_,_,-1,v,rfl,rfl,SqL.of hr1,ZbH _ _,fo,_,_,rfl,rfl,hf1,Zx (by lia),?_⟩;have hr2:(upd H1 fo (.lst (zs ++ [v]))) rw_=some (.lst (rzs' ++ [v])):=by rw[Zc nrf];exact hr1
   have hf2:(upd H1 fo (.lst (zs ++ [v]))) fo=some (.lst (zs ++ [v])):=Zb;have s2:Zu H (upd H1 fo (.lst (zs ++ [v]))):=s1.upd_new hfo;have mz2:MdL H (upd H1 fo (.lst (zs ++ [v]))) (zs ++ [v]) (fos ++ [top]):=(show MdL H H1 (zs ++ [v]) (fos ++ [top]) from Paired.app mz (.cons mv .nil)).lst hf1;have mr2:MdL H (upd H1 fo (.lst (zs ++ [v]))) rzs' rs.reverse:=(show MdL H H1 rzs' rs.reverse from mr').lst hf1;have mv2:MdL H (upd H1 fo (.lst (zs ++ [v]))) [v] [top]:=(show MdL H H1 [v] [top] from .cons mv .nil).lst hf1;generalize upd H1 fo (.lst (zs ++ [v]))=H2 at hr2 hf2 s2 mz2 mr2 mv2 ⊢;refine⟨_,rfl,rfl,_,rfl,Zd8 (fun c=>?_) (fun c=>?_)⟩
   ·have e:wd=SL:=by
     have:=of_decide_eq_true c;injection this
    subst e;obtain⟨hpos,hc'⟩:=Zci.mp hcn;refine⟨_,rfl,.inl ⟨rfl,_,SqL.of hr2⟩,rw_,_,_,rfl,rfl,hr2,ZaN _ _,?_⟩;rw[ZaL];refine⟨_,zs ++ [v],rzs',rs,fos ++ [top],rfl,s2.upd_new hrw',by rw[Zc nrf.symm];exact hf2,mz2.lst hr2,Zb,mr2.lst hr2,?_,?_,?_,?_,?_⟩
    ·rw[htk,Zbr,if_pos rfl]
    ·intro z;rw[z] at hpos;exact absurd hpos (by decide)
    ·rw[show rs.length+1-1-1=rs.length-1 by lia] at hc';exact hc'
    ·rw[List.length_append,List.length_singleton];lia
    ·lia
   ·have e:wd≠SL:=fun z=>c (by rw[z];exact decide_eq_true rfl);have hc':=(Zb0 e).mp hcn;cases mv2 with
    | cons mv2 _ =>
     obtain⟨dt,rfl,hdt,hdt0⟩:=mv2;refine⟨_,rfl,.inl ⟨rfl,_,SqL.of hr2⟩,_,rfl,_,rfl,1,rfl,rw_,_,-1,_,rfl,rfl,SqL.of hr2,ZbH _ _,_,rfl,dd,dt,wd,m,kn,n,top,rfl,s2 _ _ hdd,hkn.tk s2.tk,kv,hn,hdt,hval top (List.mem_cons_self ..),fun r H3 s3 hr0 hr3=>?_⟩;have hr3':=s3 _ _ hr2;refine⟨rw_,_,_,rfl,rfl,hr3',Zx (by rw[List.length_append,List.length_singleton];lia),?_⟩;have s4:Zu H (upd H3 rw_ (.lst (rzs' ++ [.ref dt] ++ [.ref r]))):=(s2.trans s3).upd_new hrw';refine⟨_,zs ++ [.ref dt],rzs' ++ [.ref dt] ++ [.ref r],Zej kn wd top::top::rs,fos ++ [top],rfl,s4,?_,(mz2.same s3).lst hr3',Zb,?_,?_,List.cons_ne_nil _ _,?_,?_,?_⟩
     ·rw[Zc nrf.symm];exact s3 _ _ hf2
     ·rw[List.reverse_cons,List.reverse_cons];refine MdL.lst hr3' ?_;exact Paired.app (Paired.app (mr2.same s3) (.cons ⟨dt,rfl,s3 _ _ hdt,hdt0⟩ .nil)) (.cons ⟨r,rfl,hr3,s2.free hr0⟩ .nil)
     ·rw[htk,Zbr,if_neg e]
     ·exact hc'
     ·rw[List.length_append,List.length_singleton];lia
     ·rw[List.length_cons,List.length_cons];lia
 ·rintro σ H1 ⟨v5,zs,rzs,st,fos,rfl,s1,hf1,mz,hr1,mr,he,hne,hcn,hfl,hsl⟩;rw[List.length_map,List.take_length,ZbU kn G _ _ _ hc] at he;injection he with e1 e2;subst e2;exact⟨_,rfl,qq fo zs H1 s1 hfo hf1 mz⟩
def Zhl{D:Type}(S:Sns D):Sp:=fun vs H Q _=>∃a:Addr,vs=[.ref a]/\∀(v:V)(H':Hp),Zu H H'->S.R H' v S.no->Q v H'
def ZiB{D:Type}(S:Sns D):Sp:=fun vs H Q _=>∃(a:Addr)(t:Str)(v:V)(d:D),vs=[.ref a,.str t,v]/\S.R H v d/\S.Ok (S.tr t d)/\∀(v':V)(H':Hp),Zu H H'->S.R H' v' (S.tr t d)->Q v' H'
def Zhm{D:Type}(S:Sns D):Sp:=fun vs H Q _=>∃(a:Addr)(v u:V)(d e:D),vs=[.ref a,v,u]/\S.R H v d/\S.R H u e/\S.Ok (S.bs d e)/\∀(v':V)(H':Hp),Zu H H'->S.R H' v' (S.bs d e)->Q v' H'
theorem Zcz{C_Bounds:Addr}(B:∀x∈Zcb,mg x=none)(c_Bounds:SnC K C_Bounds)(F:Fun K "nothing" "Bounds.nothing" Zac f fd):FnOk P w K mg base CX0 1 f fd ["self"] (Zhl snB):=by
 refine F.ok ZcA (fun vs H Q E h=>?_) (fun cdv A outer s H vs Q E hr h=>?_)
 ·obtain⟨a,rfl,_⟩:=h;rfl
 obtain⟨a,rfl,q⟩:=h;refine⟨_,(Zj (ZS (ZK (Za Zh (Za Zh Zf))))),?_⟩;exact⟨(by show 2<=sizeLine;decide),fun p hp=>q _ _ (Zu.new hp) ⟨p,rfl,Zb⟩⟩
theorem ZdV{C_Bounds:Addr}(B:∀x∈Zcb,mg x=none)(c_Bounds:SnC K C_Bounds)(F:Fun K "tree" "Bounds.tree" ZaD f fd):FnOk P w K mg base CX0 1 f fd ["self","tag","within"] (ZiB snB):=by
 refine F.ok Zd4 (fun vs H Q E h=>?_) (fun cdv A outer s H vs Q E hr h=>?_)
 ·obtain⟨a,t,v,d,rfl,_⟩:=h;rfl
 obtain⟨a,t,v,d,rfl,⟨b,rfl,hb⟩,_,q⟩:=h;refine⟨_,(Zj (ZS (ZK (Za (Zy Zal Zh (ZG ZQ (pv 2) Zh (fun _ _=>rfl))) (Za (Zy Zal Zh (ZG ZQ (pv 2) Zh (fun _ _=>rfl))) Zf))))),?_⟩;refine⟨_,rfl,b,_,0,_,rfl,rfl,SqT.of hb,rfl,_,_,rfl,rfl,_,rfl,b,_,1,_,rfl,rfl,SqT.of hb,rfl,_,_,rfl,rfl,(by show 2<=sizeLine;decide),fun p hp=>q _ _ (Zu.new hp) ⟨p,rfl,?_⟩⟩;rw[Zb];show some (HO.tup [.int (1+(d.1:Int)),.int (1+(d.2:Int))])=some (HO.tup [.int ((1+d.1:Nat):Int),.int ((1+d.2:Nat):Int)]);rw[show((1+d.1:Nat):Int)=1+(d.1:Int) by lia,show((1+d.2:Nat):Int)=1+(d.2:Int) by lia]
theorem ZcQ{C_Bounds:Addr}(B:∀x∈Zcb,mg x=none)(c_Bounds:SnC K C_Bounds)(F:Fun K "beside" "Bounds.beside" Zak f fd):FnOk P w K mg base CX0 1 f fd ["self","one","other"] (Zhm snB):=by
 refine F.ok Zc0 (fun vs H Q E h=>?_) (fun cdv A outer s H vs Q E hr h=>?_)
 ·obtain⟨a,v,u,d,e,rfl,_⟩:=h;rfl
 obtain⟨a,v,u,d,e,rfl,⟨b,rfl,hb⟩,⟨c,rfl,hc⟩,_,q⟩:=h;refine⟨_,(Zj (ZS (ZK (Za (Zy Zal (ZG ZQ (pv 1) Zh (fun _ _=>rfl)) (ZG ZQ (pv 2) Zh (fun _ _=>rfl))) (Za (ZaG (Zcn rfl) rfl (B "max" (by decide)) ZgZ (Za (ZG ZQ (pv 1) Zh (fun _ _=>rfl)) (Za (ZG ZQ (pv 2) Zh (fun _ _=>rfl)) Zf))) Zf))))),?_⟩;refine⟨_,rfl,b,_,0,_,rfl,rfl,SqT.of hb,rfl,_,rfl,c,_,0,_,rfl,rfl,SqT.of hc,rfl,_,_,rfl,rfl,?_⟩;refine⟨_,rfl,b,_,1,_,rfl,rfl,SqT.of hb,rfl,_,rfl,c,_,1,_,rfl,rfl,SqT.of hc,rfl,_,_,rfl,(by show 2<=sizeLine;decide),fun p hp=>q _ _ (Zu.new hp) ⟨p,rfl,?_⟩⟩;rw[Zb];have e1:((d.1+e.1:Nat):Int)=(d.1:Int)+(e.1:Int):=by lia
 have e2:((max d.2 e.2:Nat):Int)=if(e.2:Int) > (d.2:Int) then(e.2:Int) else(d.2:Int):=by split <;> lia
 show _=some (HO.tup [.int ((d.1+e.1:Nat):Int),.int ((max d.2 e.2:Nat):Int)]);rw[e1,e2]
theorem ZcM{C_Groves:Addr}(B:∀x∈Zcb,mg x=none)(c_Groves:SnC K C_Groves)(F:Fun K "nothing" "Groves.nothing" Zad f fd):FnOk P w K mg base CX0 1 f fd ["self"] (Zhl (snG 2000)):=by
 refine F.ok ZcL (fun vs H Q E h=>?_) (fun cdv A outer s H vs Q E hr h=>?_)
 ·obtain⟨a,rfl,_⟩:=h;rfl
 obtain⟨a,rfl,q⟩:=h;refine⟨_,(Zj (ZS (ZK Zf))),?_⟩;exact⟨by decide,fun p hp=>q _ _ (Zu.new hp) ⟨p,[],rfl,Zb,.nil⟩⟩
theorem ZdY{C_Groves:Addr}(B:∀x∈Zcb,mg x=none)(c_Groves:SnC K C_Groves)(F:Fun K "tree" "Groves.tree" ZaE f fd):FnOk P w K mg base CX0 1 f fd ["self","tag","within"] (ZiB (snG 2000)):=by
 refine F.ok Zd0 (fun vs H Q E h=>?_) (fun cdv A outer s H vs Q E hr h=>?_)
 ·obtain⟨a,t,v,d,rfl,_⟩:=h;rfl
 obtain⟨a,t,v,d,rfl,⟨b,xs,rfl,hb,rp⟩,_,q⟩:=h;refine⟨_,(Zj (ZS (ZK (Za (ZK (Za (pv 1) (Za (pv 2) Zf))) Zf)))),?_⟩;refine⟨_,rfl,_,rfl,(by show 2<=sizeLine;decide),fun p hp=>⟨(by show 1<=sizeLine;decide),fun p2 hp2=>?_⟩⟩;have s1:=Zu.new (o:=.tup [.str t,.ref b]) hp;have s2:=Zu.new (o:=.tup [.ref p]) hp2;have s12:=s1.trans s2;exact q _ _ s12 ⟨p2,[.ref p],rfl,Zb,.cons (s2 _ _ Zb) (s12 _ _ hb) (rp.mono s12.tk) .nil⟩
theorem ZcY{C_Groves:Addr}(B:∀x∈Zcb,mg x=none)(c_Groves:SnC K C_Groves)(F:Fun K "beside" "Groves.beside" Zaj f fd):FnOk P w K mg base CX0 1 f fd ["self","one","other"] (Zhm (snG 2000)):=by
 refine F.ok ZcX (fun vs H Q E h=>?_) (fun cdv A outer s H vs Q E hr h=>?_)
 ·obtain⟨a,v,u,d,e,rfl,_⟩:=h;rfl
 obtain⟨a,v,u,d,e,rfl,⟨b,xs,rfl,hb,r1⟩,⟨c,ys,rfl,hc,r2⟩,ok,q⟩:=h;have ok:gsz (ZaZ d e)<=2000:=ok;rw[ZaO] at ok;have l1:=r1.length;have l2:=r2.length;rw[ZM] at l1 l2;refine⟨_,(Zj (ZS (Zy Zey (pv 1) (pv 2)))),?_⟩;refine⟨_,rfl,_,rfl,b,c,xs,ys,rfl,rfl,hb,hc,ZaA (by lia),fun p H' s' hp=>q _ _ s' ⟨p,_,rfl,hp,RepG.ZaZ (r1.mono s'.tk) (r2.mono s'.tk)⟩⟩
def Pa.dropP:Nat->Pa->Pa
 | 0,p=>p
 | _+1,.nil=>.nil
 | i+1,.kids _ o=>Pa.dropP i o
 | i+1,.tag _ _ o=>Pa.dropP i o
theorem ZaJ:∀(i:Nat)(p:Pa),(p.take i).app (Pa.dropP i p)=p
 | 0,_=>rfl
 | _+1,.nil=>rfl
 | i+1,.kids m o=>by show Pa.kids m ((o.take i).app (Pa.dropP i o))=_;rw[ZaJ i o]
 | i+1,.tag t w o=>by show Pa.tag t w ((o.take i).app (Pa.dropP i o))=_;rw[ZaJ i o]
def ZhI{D:Type}(S:Sns D)(C:Addr)(d:Nat):Sp:=fun vs H Q _=>∃(q kd se dx:Addr)(ys:List V)(p:Pa)(kvs:List (Key×V))(f:Int->D),vs=[.ref q,.ref kd,.ref se]/\H q=some (.tup ys)/\RepP H ys p/\p.dep<d/\H kd=some (.dK kvs)/\(∀m∈p.ks,∃v,Zbg kvs (Sum.inl m)=some v/\S.R H v (f m))/\H se=some (.ins C dx [])/\S.Ok (Zq S f p) /\
 ∀(v:V)(H':Hp),Zu H H'->S.R H' v (Zq S f p)->Q v H'
theorem ZmB{D:Type}{S:Sns D}{C:Addr}{vs:List V}{H:Hp}{Q:VK}{E:XK}(z:ZhI S C 0 vs H Q E):False:=by
 obtain⟨_,_,_,_,_,_,_,_,_,_,_,hd,_⟩:=z;exact absurd hd (Nat.not_lt_zero _)
set_option maxHeartbeats 2000000 in
theorem ZbO{D:Type}(S:Sns D){C:Addr}(d:Nat)(B:∀x∈Zcb,mg x=none)(c_Sense:Cls K C)(g_Sense_nothing:HasM P w K mg base C "nothing" ["self"] 1 (Zhl S)) (g_Sense_tree:HasM P w K mg base C "tree" ["self","tag","within"] 1 (ZiB S)) (g_Sense_beside:HasM P w K mg base C "beside" ["self","one","other"] 1 (Zhm S))
  (g_come_of_parts:Has P w K mg base "come_of_parts" ["parts","kids","sense"] (d+1) (ZhI S C d)) (F:Fun K "come_of_parts" "come_of_parts" Z7 f fd):FnOk P w K mg base CX0 (d+2) f fd ["parts","kids","sense"] (ZhI S C (d+1)):=by
 refine F.ok Zae (fun vs H Q E h=>?_) (fun cdv A outer s H vs Q E hr h=>?_)
 ·obtain⟨q,kd,se,dx,ys,p,kvs,f,rfl,_⟩:=h;rfl
 obtain⟨q,kd,se,dx,ys,p,kvs,fk,rfl,hq,hP,hd,hkd,hks,hse,hok,qq⟩:=h;have hu1:(A.deeper (PyProof.Rows.envOfC (Str.ofString "come_of_parts") (Zg Z7) s.heap.objs.size f cdv)).units+1<cLine:=by have:=hr.un;lia
 refine⟨_,(Zd (Zn (i:=3) Zae.nd rfl (Or.inl rfl) (Zg2 g_Sense_nothing hr (pv 2) c_Sense (by lia)))
  (Zd (ZaB PassesOwn.never rfl (Zea (pv 0)) (Zt (i:=4) Zae.nd rfl (Or.inl rfl))
   (Zd (Zbi (Z2 Zcr (ZG ZQ (pv 4) Zh (fun _ _=>rfl)) Zan (Zaf _))
     (Zj (Zn (i:=5) Zae.nd rfl (Or.inl rfl) (ZcG hu1 (pv 1) (ZG ZQ (pv 4) Zh (fun _ _=>rfl)) (fun _ _=>rfl))))
     (Zj (Zn (i:=5) Zae.nd rfl (Or.inl rfl) (Zf2 g_Sense_tree hr (pv 2) c_Sense (Za (ZG ZQ (pv 4) Zh (fun _ _=>rfl)) (Za (ZR g_come_of_parts hr rfl (Za (ZG ZQ (pv 4) Zh (fun _ _=>rfl)) (Za (pv 1) (Za (pv 2) Zf))) (by lia)) Zf)) (by lia)))))
    (Zj (Zn (i:=3) Zae.nd rfl (Or.inl rfl) (Zf2 g_Sense_beside hr (pv 2) c_Sense (Za (pv 3) (Za (pv 5) Zf)) (by lia))))))
  (Zj (ZS (pv 3))))),?_⟩
 refine⟨_,rfl,se,dx,[],rfl,hse,rfl,se,rfl,fun v0 H0 s0 r0=>?_⟩;refine⟨_,rfl,q,rfl,⟨_,SqT.of (s0 _ _ hq)⟩,Zdx (K:=K) (a:=q) (xs:=ys) (fun i σ H1=>∃(v:V)(v4 v5:Option V),σ =[some (.ref q),some (.ref kd),some (.ref se),some v,v4,v5]/\Zu H H1/\S.R H1 v (Zq S fk (p.take i)))
  ⟨v0,none,none,rfl,s0,r0⟩ ?_ ?_ ?_⟩
 ·rintro i σ H1 _ ⟨_,_,_,_,s1,_⟩;exact SqT.of (s1 _ _ hq)
 ·rintro i x σ H1 hx ⟨v,v4,v5,rfl,s1,rv⟩;obtain⟨a,rfl,ha⟩:=hP.at i x hx;have okT:S.Ok (Zq S fk (p.take (i+1))):=by
   rw[<- ZaJ (i+1) p,Zag] at hok;exact S.okl hok
  have ksT:∀m∈(p.take (i+1)).ks,m∈p.ks:=fun m hm=>by
   rw[<- ZaJ (i+1) p,Pa.Zbf];exact List.mem_append_left _ hm
  rcases ha with⟨m,h1,h2⟩|⟨t,q',ys',w',h1,h2,h3,h4,h5,h6⟩
  ·have h1':=s1 _ _ h1;rw[h2,Pa.Zbf] at ksT;rw[h2,Zag] at okT;obtain⟨u,hu,ru⟩:=hks m (ksT m (List.mem_append_right _ (List.mem_cons_self ..)));have eC:Zq S fk (Pa.kids m .nil)=fk m:=S.bs_no _;rw[eC] at okT;have hg:=ZeQ.k (k:=Sum.inl m) (s1 _ _ hkd);rw[hu] at hg;refine⟨_,rfl,a,_,0,_,rfl,rfl,SqT.of h1',rfl,rfl,_,rfl,ZhS ?_⟩;refine⟨_,rfl,_,rfl,a,_,1,_,rfl,rfl,SqT.of h1',rfl,kd,_,rfl,hg,?_⟩;refine⟨_,rfl,se,dx,[],rfl,s1 _ _ hse,rfl,_,rfl,_,rfl,se,v,u,_,_,rfl,rv,S.mono s1.tk ru,okT,fun v' H2 s2 r2=>?_⟩;refine⟨v',_,_,rfl,s1.trans s2,?_⟩;rw[h2,Zag,eC];exact r2
  ·have h1':=s1 _ _ h1;rw[h4,Pa.Zbf] at ksT;rw[h4,Zag] at okT;have eC:Zq S fk (Pa.tag t w' .nil)=S.tr t (Zq S fk w'):=S.bs_no _;rw[eC] at okT;refine⟨_,rfl,a,_,0,_,rfl,rfl,SqT.of h1',rfl,rfl,_,rfl,ZeT ?_⟩;refine⟨_,rfl,se,dx,[],rfl,s1 _ _ hse,rfl,_,rfl,a,_,1,_,rfl,rfl,SqT.of h1',rfl,_,rfl,a,_,2,_,rfl,rfl,SqT.of h1',rfl,_,rfl,_,rfl,q',kd,se,dx,ys',w',kvs,fk,rfl,s1 _ _ h2,h3.mono s1.tk,by lia,s1 _ _ hkd,fun m hm=>?_,s1 _ _ hse,S.okt (S.okr okT),fun u H2 s2 ru=>?_⟩
   ·obtain⟨u,hu,ru⟩:=hks m (ksT m (List.mem_append_right _ (by show m∈w'.ks ++ [];rw[List.append_nil];exact hm)));exact⟨u,hu,S.mono s1.tk ru⟩
   have s12:=s1.trans s2;refine⟨se,t,u,_,rfl,ru,S.okr okT,fun u' H3 s3 ru'=>?_⟩;have s13:=s12.trans s3;refine⟨_,rfl,se,dx,[],rfl,s13 _ _ hse,rfl,_,rfl,_,rfl,se,v,u',_,_,rfl,S.mono (s2.trans s3).tk rv,ru',okT,fun v' H4 s4 r4=>?_⟩;refine⟨v',_,_,rfl,s13.trans s4,?_⟩;rw[h4,Zag,eC];exact r4
 ·rintro σ H1 ⟨v,v4,v5,rfl,s1,rv⟩;rw[hP.take_all] at rv;exact⟨_,rfl,qq v H1 s1 rv⟩
theorem Zi5{g:Gr Str}(hc:ZaW SL g):(cst (words SL g) (words SL g).length).2=prs 0 g:=by
 have:=Zdu g (words SL g) 0 hc fun j _=>by rw[Nat.zero_add]
 rw[Nat.zero_add] at this;rw[ZM,this];rfl
theorem ZdR{g:Gr Str}(hc:ZaW SL g):Can SL 0 (words SL g):=by
 have:=Zcx (n:=0) (ws:=[]) hc rfl
 rwa [List.append_nil] at this
theorem ZlL{g:Gr Str}(hc:ZaW SL g):((prs 0 g).map (·.1)).Nodup:=by
 have:=(ZiH (ZdR hc) _ (Nat.le_refl _)).nd;rw[Zi5 hc] at this;exact(List.nodup_append.mp this).2.1
theorem Zf3:∀(g:Gr Str)(k:Nat),(prs k g).length=gsz g
 | .nil,_=>rfl
 | .cons t w o,k=>by
  show(prs (k+1) w++(k,k+1+2*gsz w)::prs (k+2+2*gsz w) o).length=1+gsz w+gsz o;rw[List.length_append,List.length_cons,Zf3 w,Zf3 o];lia
theorem Zfb:∀(kvs m:List (Key×V)),((m++kvs).map (·.1)).Nodup->kvs.foldl (fun m kv=>putK m kv.1 kv.2) m=m++kvs
 | [],m,_=>(List.append_nil m).symm
 | kv::kvs,m,h=>by
  have h1:Zbg m kv.1=none:=by
   rw[<- Option.not_isSome_iff_eq_none,<- Zbv,List.any_eq_true];rintro⟨x,hx,e⟩;have e':=of_decide_eq_true e;rw[List.map_append,List.nodup_append] at h;exact h.2.2 x.1 (List.mem_map.mpr ⟨x,hx,rfl⟩) kv.1 (by rw[List.map_cons];exact List.mem_cons_self ..) e'
  rw[List.foldl_cons,ZeM _ h1,Zfb kvs (m ++ [(kv.1,kv.2)]) (by rw[List.append_assoc];exact h),List.append_assoc];rfl
theorem ZeX:∀{kvs:List (Key×V)}{k:Key}{v:V},Zbg kvs k=some v->(k,v)∈kvs
 | [],k,v,h=>by cases h
 | p::r,k,v,h=>by
  by_cases e:p.1=k
  ·rw[ZaH e] at h;injection h with h;rw[<- e,<- h];exact List.mem_cons_self ..
  ·rw[Zaw e] at h;exact List.mem_cons_of_mem _ (ZeX h)
theorem Zjv{kvs:List (Key×V)}{k:Key}(h:k∈kvs.map (·.1)):∃v,Zbg kvs k=some v:=by
 cases e:Zbg kvs k with
 | none=>exact absurd h (ZjG e)
 | some v=>exact⟨v,rfl⟩
def ChC(H:Hp)(c:Addr)(n:Int)(rs:List (Int×Str×Pa)):Prop := ∃rt zs,H c=some (.tup [.int n,.ref rt])/\H rt=some (.tup zs)/\RlL H zs rs/\rs.length<=100/\∀r∈rs,r.2.2.sz<=20/\∀k∈r.2.2.ks,0<=k/\k<n
theorem ChC.tk{H H':Hp}{c:Addr}{n:Int}{rs:List (Int×Str×Pa)}(h:ChC H c n rs)(k:TK H H'):ChC H' c n rs:=by
 obtain⟨rt,zs,h1,h2,h3,h4⟩:=h;exact⟨rt,zs,k _ _ h1,k _ _ h2,h3.tk k,h4⟩
theorem ChC.chr{H:Hp}{c:Addr}{n:Int}{rs:List (Int×Str×Pa)}(h:ChC H c n rs):ChR H c rs:=by
 obtain⟨rt,zs,h1,h2,h3,h4,h5⟩:=h;exact⟨n,rt,zs,h1,h2,h3,h4,fun r hr=>(h5 r hr).1⟩
theorem ZdA:∀(rs:List (Int×Str×Pa))(f:Kn)(i:Int)(t:Str)(p:Pa),rs.foldl ZcT f i t=some p->f i t=some p\/∃r∈rs,r.2.2=p
 | [],_,_,_,_,h=>.inl h
 | r::rs,f,i,t,p,h=>by
  rcases ZdA rs (ZcT f r) i t p h with h|⟨r',h1,h2⟩
  ·unfold ZcT at h
   split at h
   ·injection h with h;exact .inr ⟨r,List.mem_cons_self ..,h⟩
   ·exact .inl h
  ·exact .inr ⟨r',List.mem_cons_of_mem _ h1,h2⟩
theorem ChC.knv{H:Hp}{c:Addr}{n:Int}{rs:List (Int×Str×Pa)}(h:ChC H c n rs):KnV (Z4 rs) n:=by
 obtain⟨rt,zs,h1,h2,h3,h4,h5⟩:=h;refine⟨fun i t p e=>?_,fun i t p e=>?_⟩
 ·rcases ZdA rs _ i t p e with h|⟨r,g1,rfl⟩
  ·cases h
  ·exact(h5 r g1).1
 ·rcases ZdA rs _ i t p e with h|⟨r,g1,rfl⟩
  ·cases h
  ·exact(h5 r g1).2
def Ziw{D:Type}(S:Sns D)(C:Addr):Sp:=fun vs H Q _=>∃(ch wl se dx:Addr)(m0 n:Int)(rs:List (Int×Str×Pa))(G:Gr Str),vs=[.ref ch,.ref wl,.int m0,.ref se]/\ChC H ch n rs/\n<=100/\0<=m0/\m0<n/\H wl=some (.lst ((words SL G).map V.str))/\ZaW SL G/\gsz G<=400/\H se=some (.ins C dx [])/\S.Ok (chS S (Z4 rs) G m0) /\
 ∀(v:V)(H':Hp),Zu H H'->S.R H' v (chS S (Z4 rs) G m0)->Q v H'
def NoL{D:Type}(S:Sns D)(H:Hp)(us:List V)(i:Nat):Prop := ∃kvs:List (Key×V),Paired (fun(y:V)(kv:Key×V)=>∃t,y=V.ref t/\H t=some (.tup [kV kv.1,kv.2])) us kvs/\kvs.map (·.1)=(List.range i).map (fun j:Nat=>(Sum.inl (j:Int):Key))/\∀kv∈kvs,S.R H kv.2 S.no
theorem ZgI{H H':Hp}(k:TK H H'):∀{us:List V}{kvs:List (Key×V)},Paired (fun(y:V)(kv:Key×V)=>∃t,y=V.ref t/\H t=some (.tup [kV kv.1,kv.2])) us kvs->Paired (fun(y:V)(kv:Key×V)=>∃t,y=V.ref t/\H' t=some (.tup [kV kv.1,kv.2])) us kvs
 | _,_,.nil=>.nil
 | _,_,.cons ⟨t,e,h⟩ r=>.cons ⟨t,e,k _ _ h⟩ (ZgI k r)
def TlQ{D:Type}(S:Sns D)(kn:Kn)(n:Int)(G:Gr Str)(Mx:List (List Int))(H3 H:Hp)(z:V)(q:Nat):Prop := ∃(dq:Addr)(kvs:List (Key×V)),z=V.ref dq/\H dq=some (.dK kvs)/\H3 dq=none/\∀m,0<=m->m<n->(q∈(prs 0 G).map (·.1)->∃ms,Mx[q]?= some ms/\m∈ms)->∃v,Zbg kvs (Sum.inl m)=some v/\S.R H v (chS S kn (atG G q) m)
theorem TlQ.keep{D:Type}{S:Sns D}{kn:Kn}{n:Int}{G:Gr Str}{Mx:List (List Int)}{H3 H H':Hp}{z:V}{q:Nat}{ex:List Addr}(h:TlQ S kn n G Mx H3 H z q)(k:Zgj ex H H')(tk:TK H H')(hx:∀b∈ex,∀kvs,H b≠some (.dK kvs)\/H3 b≠none):TlQ S kn n G Mx H3 H' z q:=by
 obtain⟨dq,kvs,e,h1,h2,h3⟩:=h;refine⟨dq,kvs,e,k _ _ (fun z=>?_) h1,h2,fun m a b c=>?_⟩
 ·rcases hx dq z kvs with h|h
  ·exact h h1
  ·exact h h2
 ·obtain⟨v,g1,g2⟩:=h3 m a b c;exact⟨v,g1,S.mono tk g2⟩
theorem ZfR{ps:List Int}(hf:ps.Pairwise (· > ·)){i j:Nat}{a b:Int}(h1:ps[i]?= some a)(h2:ps[j]?= some b)(h:a<b):j<i:=by
 obtain⟨l1,e1⟩:=List.getElem?_eq_some_iff.mp h1;obtain⟨l2,e2⟩:=List.getElem?_eq_some_iff.mp h2;rcases Nat.lt_trichotomy j i with z|z|z
 ·exact z
 ·subst z;rw[e1] at e2;lia
 ·have:=List.pairwise_iff_getElem.mp hf i j l1 l2 z;rw[e1,e2] at this;lia
theorem Zgh(kn:Kn):∀(g:Gr Str)(ms:List Int),ms.Nodup->∀x∈Zc7 kn ms g,x.Nodup
 | .nil,_,_,_,h=>nomatch h
 | .cons t w o,ms,hm,x,h=>by
  rcases List.mem_cons.mp h with rfl|h
  ·exact hm
  ·rcases List.mem_append.mp h with h|h
   ·exact Zgh kn w _ ZhZ x h
   ·rcases List.mem_cons.mp h with rfl|h
    ·exact ZhZ
    ·exact Zgh kn o ms hm x h
theorem Zlq{k p:Nat}(h:p<k):ixN k (p:Int)=some p:=by
 unfold ixN;rw[if_pos (by lia),if_pos (by lia)];rfl
theorem Zek{α β : Type}{F : α -> β -> Prop}:∀{l:List α}{k:List β},Paired F l k->∀(i:Nat)(y : β),k[i]?= some y->∃x,l[i]?= some x/\F x y
 | _,_,.cons h _,0,y,e=>⟨_,rfl,by injection e with e;subst e;exact h⟩
 | _,_,.cons _ t,i+1,y,e=>Zek t i y e
set_option maxHeartbeats 4000000 in
theorem Zei{D:Type}(S:Sns D){C:Addr}(B:∀x∈Zcb,mg x=none)(c_Sense:Cls K C)(g_Sense_nothing:HasM P w K mg base C "nothing" ["self"] 1 (Zhl S)) (g_Sense_beside:HasM P w K mg base C "beside" ["self","one","other"] 1 (Zhm S))
  (g_parts_by_rule:Has P w K mg base "parts_by_rule" ["changer"] 1 ZeU) (g_modes_at:Has P w K mg base "modes_at" ["known","words","mode"] 24 ZkZ) (g_closings:Has P w K mg base "closings" ["words"] 1 (Zgo K)) (g_come_of_parts:Has P w K mg base "come_of_parts" ["parts","kids","sense"] 24 (ZhI S C 23)) (g_parts_for:Has P w K mg base "parts_for" ["known","mode","tag"] 1 ZaU)
  (F:Fun K "come_of" "come_of" ZL f fd):FnOk P w K mg base CX0 25 f fd ["changer","words","mode","sense"] (Ziw S C):=by
 refine F.ok Zau (fun vs H Q E h=>?_) (fun cdv A outer s H vs Q E hr h=>?_)
 ·obtain⟨ch,wl,se,dx,m0,n,rs,G,rfl,_⟩:=h;rfl
 obtain⟨ch,wl,se,dx,m0,n,rs,G,rfl,hch,hn,m00,m0n,hwl,hc,hz,hse,hok,qq⟩:=h;have hu1:(A.deeper (PyProof.Rows.envOfC (Str.ofString "come_of") (Zg ZL) s.heap.objs.size f cdv)).units+1<cLine:=by have:=hr.un;lia
 have hwz:=ZM G;have kv:=hch.knv;have hnd:=ZlL hc;refine Zr ((Ze ZL).drop 5) (Zj (ZS (ZcG hu1 (ZG Z3 (pv 7) Zh (fun _ _=>rfl)) (pv 2) (fun _ _=>rfl)))) (fun u5 h5 e5=>?_);refine Zr ((ZF ((Ze ZL).getD 4 (.Pass ⟨0,0,0,0⟩))).drop 3) (Zj (Zcc (pv 10) (Zll (pv 7) (pv 8) set_list))) (fun u4_3 h4_3 e4_3=>?_);refine Zr ((ZF ((ZF ((Ze ZL).getD 4 (.Pass ⟨0,0,0,0⟩))).getD 2 (.Pass ⟨0,0,0,0⟩))).drop 1) (Zj (ZdD hu1 (pv 10) (pv 11) (Zf2 g_Sense_beside hr (pv 3) c_Sense (Za (pv 12) (Za (ZcG hu1 (pv 9) (pv 11) (fun _ _=>rfl)) Zf))) rfl)) (fun u4_2_1 h4_2_1 e4_2_1=>?_);refine Zr ((ZF ((ZF ((Ze ZL).getD 4 (.Pass ⟨0,0,0,0⟩))).getD 2 (.Pass ⟨0,0,0,0⟩))).drop 0) (Zd (Zn (i:=12) Zau.nd rfl (Or.inl rfl) (ZR g_come_of_parts hr rfl (Za (ZR g_parts_for hr rfl (Za (pv 4) (Za (pv 11) (Za (ZG Z3 (pv 1) (pv 8) (fun _ _=>rfl)) Zf)))) (Za (ZG Z3 (pv 7) (Zy Zal (pv 8) Zh) (fun _ _=>rfl)) (Za (pv 3) Zf))))) h4_2_1) (fun u4_2_0 h4_2_0 e4_2_0=>?_);refine Zr ((ZF ((Ze ZL).getD 4 (.Pass ⟨0,0,0,0⟩))).drop 2) (Zd (Zh4 (ZaB PassesOwn.never rfl (ZhQ (ZG Z3 (pv 5) (pv 8) (fun _ _=>rfl))) (Zt (i:=11) Zau.nd rfl (Or.inl rfl))
   h4_2_0)) h4_3) (fun u4_2 h4_2 e4_2=>?_)
 refine Zr ((ZF ((Ze ZL).getD 4 (.Pass ⟨0,0,0,0⟩))).drop 1) (Zd (Zn (i:=10) Zau.nd rfl (Or.inl rfl) Zc3) h4_2) (fun u4_1 h4_1 e4_1=>?_);refine Zr ((ZF ((Ze ZL).getD 4 (.Pass ⟨0,0,0,0⟩))).drop 0) (Zd (Zn (i:=9) Zau.nd rfl (Or.inl rfl) (ZG Z3 (pv 7) (Zy Zal (ZcG hu1 (pv 6) (pv 8) (fun _ _=>rfl)) Zh) (fun _ _=>rfl))) h4_1) (fun u4_0 h4_0 e4_0=>?_);refine Zr ((Ze ZL).drop 4) (Zd (ZaB PassesOwn.never rfl (ZbL (Zd1 rfl rfl (B "sorted" (by decide)) (Za (pv 6) Zf) ZdE)) (Zt (i:=8) Zau.nd rfl (Or.inl rfl))
   h4_0) h5) (fun u4 h4 e4=>?_)
 refine Zr ((Ze ZL).drop 3) (Zd (Zn (i:=7) Zau.nd rfl (Or.inl rfl) (Zy Zfd (Zas (Za (ZaM (ZdX rfl) rfl (B "dict" (by decide)) Zh1 (Za (Zf0 (cl:=_) ["each"] [("sense",3)] (Zbq rfl (B "range" (by decide)) (Za (ZG ZQ (pv 0) Zh (fun _ _=>rfl)) Zf)) (fun _ _ _ _=>(Zt (i:=0) (show List.Nodup (["each","sense"]:List Str) by decide) rfl (Or.inl rfl))) (fun _ _ _ _=>(ZK (Za (pv 0) (Za (Zg2 g_Sense_nothing hr (pv 1) c_Sense) Zf)))) rfl rfl (by decide) rfl (by decide) (Zkd (by(repeat' first|exact List.forall_mem_nil _|refine List.forall_mem_cons.mpr ⟨?_,?_⟩) <;> rfl)) (ZhR (by(repeat' first|exact List.forall_mem_nil _|refine List.forall_mem_cons.mpr ⟨?_,?_⟩) <;> first|(intro h;exact⟨_,rfl⟩)|(intro h;exact absurd h (by decide)))) (fun _=>by(repeat' first|exact List.forall_mem_nil _|refine List.forall_mem_cons.mpr ⟨?_,?_⟩) <;> exact⟨rfl,rfl,Or.inl rfl⟩) (fun _=>rfl)) Zf)) Zf)) (Zy Zal (ZaG Zba rfl (B "len" (by decide)) PySem.boot_len (Za (pv 1) Zf)) Zh))) h4) (fun u3 h3 e3=>?_)
 refine Zr ((Ze ZL).drop 2) (Zd (Zn (i:=6) Zau.nd rfl (Or.inl rfl) (ZR g_closings hr rfl (Za (pv 1) Zf))) h3) (fun u2 h2 e2=>?_);refine Zr ((Ze ZL).drop 1) (Zd (Zn (i:=5) Zau.nd rfl (Or.inl rfl) (ZR g_modes_at hr rfl (Za (pv 4) (Za (pv 1) (Za (pv 2) Zf))))) h2) (fun u1 h1 e1=>?_);refine Zr ((Ze ZL).drop 0) (Zd (Zn (i:=4) Zau.nd rfl (Or.inl rfl) (ZR g_parts_by_rule hr rfl (Za (pv 0) Zf))) h1) (fun u0 h0 e0=>?_);refine⟨u0,h0,?_⟩;refine Zo e0 ?_;refine⟨_,rfl,ch,rs,rfl,hch.chr,fun dk m H1 s1 hdk0 hdk hkn=>?_⟩;refine Zo e1 ?_;refine⟨_,rfl,_,rfl,_,rfl,dk,wl,m0,m,Z4 rs,n,G,rfl,hdk,hkn,kv,by lia,m00,m0n,s1 _ _ hwl,hc,by lia,fun mo mzs H2 s2 hmo0 hmo hml=>?_⟩;have s12:=s1.trans s2;refine Zo e2 ?_;refine⟨_,rfl,wl,_,rfl,SqL.of (s12 _ _ hwl),ZdR hc,by lia,fun dc H3 s3 hdc0 hdc=>?_⟩;rw[Zi5 hc] at hdc;have s13:=s12.trans s3;have hml3:=hml.same s3;have hmo3:=s3 _ _ hmo;have hdk3:=s3 _ _ (s2 _ _ hdk);have hkn3:=hkn.tk (s2.trans s3).tk;clear hml hmo hdk hkn;refine Zo e3 ?_;obtain⟨rt,rzs,hch1,hch2⟩:=id hch;refine⟨_,rfl,ch,_,0,_,rfl,rfl,SqT.of (s13 _ _ hch1),rfl,n,rfl,by lia,by lia,fun pc hpc=>?_⟩;refine Zhf (lo:=0) (n:=n.toNat) (p:=pc) (fun i us σ H4=>∃v0:Option V,σ =[v0,some (.ref se)]/\Zu H3 H4/\H4 pc=some (.lst us)/\us.length=i/\NoL S H4 us i)
  ⟨none,rfl,Zu.new hpc,Zb,rfl,[],.nil,rfl,fun _ h=>(nomatch h)⟩ ?_ ?_ ?_
 ·rintro i us σ H4 _ ⟨_,_,_,h,_⟩;exact h
 ·rintro i us σ H4 hi ⟨v0,rfl,s4,hp4,hul,kvs,pk,kk,kr⟩;refine⟨_,rfl,_,rfl,se,dx,[],rfl,(s13.trans s4) _ _ hse,rfl,se,rfl,fun v H5 s5 r5=>?_⟩;refine⟨(by show 2<=sizeLine;decide),fun t ht=>?_⟩;have s6:=Zu.new (o:=.tup [.int (0+(i:Int)),v]) ht;have hp6:=s6 _ _ (s5 _ _ hp4);refine⟨hp6,Zx (by lia),CW.next hi ⟨_,rfl,(s4.trans (s5.trans s6)).upd_new hpc,Zb,by rw[List.length_append,List.length_singleton,hul],kvs ++ [(Sum.inl (i:Int),v)],?_,?_,fun kv hkv=>?_⟩⟩
  ·have tkl:=(s5.trans s6).tk.trans (TK.lst (o:=.lst (us ++ [.ref t])) hp6);refine Paired.app (ZgI tkl pk) (.cons ⟨t,rfl,?_⟩ .nil);rw[Zc (fun z=>by rw[z,s5 _ _ hp4] at ht;cases ht),Zb,Int.zero_add];rfl
  ·rw[List.map_append,kk,List.range_succ,List.map_append];rfl
  ·have tkl:=(s5.trans s6).tk.trans (TK.lst (o:=.lst (us ++ [.ref t])) hp6);rcases List.mem_append.mp hkv with h|h
   ·exact S.mono tkl (kr kv h)
   ·rw[List.mem_singleton.mp h];exact S.mono (s6.tk.trans (TK.lst (o:=.lst (us ++ [.ref t])) hp6)) r5
 rintro us σ H4 ⟨v0,rfl,s4,hp4,hul,kvs0,pk,kk,kr⟩;have hknd:(kvs0.map (·.1)).Nodup:=by
  rw[kk];refine List.pairwise_map.mpr ((List.nodup_range (n:=n.toNat)).imp fun{x y} hxy z=>hxy ?_);injection z with z;lia
 refine⟨pc,us,kvs0,rfl,SqL.of hp4,by lia,pk,fun d0 hd0=>?_⟩;have hput:putAll kvs0=kvs0:=by
  have:=Zfb kvs0 [] (by rw[List.nil_append];exact hknd);rw[List.nil_append] at this;exact this
 rw[hput];have s5:=Zu.new (o:=.dK kvs0) hd0;refine⟨(by show 1<=sizeLine;decide),fun l1 hl1=>?_⟩;have s6:=Zu.new (o:=.lst [.ref d0]) hl1;have s46:=s4.trans (s5.trans s6);refine⟨_,rfl,wl,_,rfl,.inl (SqL.of ((s13.trans s46) _ _ hwl)),_,_,rfl,rfl,l1,_,_,rfl,rfl,Zb,by lia,by rw[List.length_map];lia,ZaA (by rw[List.length_map];show 1*_<=_;lia),fun T hT=>?_⟩;have hrep:(List.replicate (((((words SL G).map V.str).length:Nat):Int)+1).toNat [V.ref d0]).flatten=List.replicate (2*gsz G+1) (V.ref d0):=by
  rw[List.length_map,hwz,show(((2*gsz G:Nat):Int)+1).toNat=2*gsz G+1 by lia];generalize 2*gsz G+1=k
  induction k with
  | zero=>rfl
  | succ k ih=>rw[List.replicate_succ,List.flatten_cons,ih,List.replicate_succ];rfl
 rw[hrep];have s7:=Zu.new (o:=.lst (List.replicate (2*gsz G+1) (V.ref d0))) hT;have s37:=s46.trans s7;have hd07:=s7 _ _ (s6 _ _ (show(upd H4 d0 (.dK kvs0)) d0=some (.dK kvs0) from Zb));have hT7:(upd (upd (upd H4 d0 (.dK kvs0)) l1 (.lst [.ref d0])) T (.lst (List.replicate (2*gsz G+1) (V.ref d0)))) T=some (.lst (List.replicate (2*gsz G+1) (V.ref d0))):=Zb;have tk47:TK H4 (upd (upd (upd H4 d0 (.dK kvs0)) l1 (.lst [.ref d0])) T (.lst (List.replicate (2*gsz G+1) (V.ref d0)))):=(s5.trans (s6.trans s7)).tk;have hT3:H3 T=none:=s46.free hT;have hd03:H3 d0=none:=s4.free hd0;show u4 _ _ _;generalize upd (upd (upd H4 d0 (.dK kvs0)) l1 (.lst [.ref d0])) T (.lst (List.replicate (2*gsz G+1) (V.ref d0)))=H7 at s37 hd07 hT7 tk47 ⊢;have base0:∀q,q<=2*gsz G->q∉(prs 0 G).map (·.1)->TlQ S (Z4 rs) n G (Zc7 (Z4 rs) [m0] G) H3 H7 (V.ref d0) q:=fun q hq hnq=>by
  refine⟨d0,kvs0,rfl,hd07,hd03,fun m h1 h2 _=>?_⟩;obtain⟨v,hv⟩:=Zjv (kvs:=kvs0) (k:=Sum.inl m) (by
   rw[kk];refine List.mem_map.mpr ⟨m.toNat,List.mem_range.mpr (by lia),?_⟩;rw[Int.toNat_of_nonneg h1])
  refine⟨v,hv,?_⟩;rw[Zig G 0 q (by rw[Nat.zero_add];exact hnq) hq];exact S.mono tk47 (kr _ (ZeX hv))
 refine Zo e4 ?_;have hkC:(kvC (prs 0 G)).map (·.1)=((prs 0 G).map fun x=>((x.1:Nat):Int)).map Sum.inl:=by
  unfold kvC;rw[List.map_map,List.map_map];rfl
 have hlC:(kvC (prs 0 G)).length<=90000:=by
  unfold kvC;rw[List.length_map,Zf3];lia
 refine⟨_,rfl,dc,_,_,rfl,s37 _ _ hdc,hlC,hkC,fun pl ps hpl hperm hfall=>?_⟩;have s8:=Zu.new (o:=.lst (ps.map V.int)) hpl;have tkeep:∀{z:V}{q:Nat},TlQ S (Z4 rs) n G (Zc7 (Z4 rs) [m0] G) H3 H7 z q->TlQ S (Z4 rs) n G (Zc7 (Z4 rs) [m0] G) H3 (upd H7 pl (.lst (ps.map V.int))) z q:=fun h=>h.keep (ex:=[]) (fun b o _ e=>s8 _ _ e) s8.tk (fun _ z=>nomatch z)
 refine⟨pl,rfl,⟨_,SqL.of Zb⟩,Zbu (K:=K) (a:=pl) (xs:=ps.map V.int) (fun i σ H9=>∃(v8 v9 v10 v11 v12:Option V)(tl:List V),σ =[some (.ref ch),some (.ref wl),some (.int m0),some (.ref se),some (.ref dk),some (.ref mo),some (.ref dc),some (.ref T),v8,v9,v10,v11,v12]/\Zgj [T] (upd H7 pl (.lst (ps.map V.int))) H9/\H9 T=some (.lst tl)/\tl.length=2*gsz G+1/\∀(q:Nat)(z:V),tl[q]?= some z->(q∈(prs 0 G).map (·.1)->∃j,j<i/\ps[j]?= some (q:Int))->TlQ S (Z4 rs) n G (Zc7 (Z4 rs) [m0] G) H3 H9 z q)
  ⟨none,none,none,none,none,_,rfl,fun b o _ h=>h,s8 _ _ hT7,List.length_replicate,fun q z hq hp=>?_⟩ ?_ ?_ ?_⟩
 ·have hq2:=(List.getElem?_eq_some_iff.mp hq).1;rw[List.length_replicate] at hq2;rw[List.getElem?_replicate,if_pos (by lia)] at hq;injection hq with hq;subst hq;refine tkeep (base0 q (by lia) fun hm=>?_);obtain⟨j,hj,_⟩:=hp hm;exact absurd hj (Nat.not_lt_zero _)
 ·rintro i σ H9 _ ⟨_,_,_,_,_,_,_,k9,_⟩;exact SqL.of (k9 _ _ (fun z=>by rw[List.mem_singleton.mp z,hT7] at hpl;cases hpl) Zb)
 ·rintro i x σ H9 hx ⟨v8,v9,v10,v11,v12,tl,rfl,k9,hT9,htl,hq9⟩;rw[List.getElem?_map] at hx;obtain⟨p0,hp0,rfl⟩:=Option.map_eq_some_iff.mp hx;obtain⟨⟨p,e⟩,hpe,hpp⟩:∃x∈prs 0 G,((x.1:Nat):Int)=p0:=by
   have:=hperm.mem_iff.mp (List.mem_of_getElem? hp0);exact List.mem_map.mp this
  have hpp:(p:Int)=p0:=hpp;subst hpp;obtain⟨i',t,w,o,ms,hi',a1,a2,a3,a4,a5,a6,b1,b2,b3,b4,b5⟩:=plc S kv G [m0] 0 p e (fun m hm=>by rw[List.mem_singleton.mp hm];exact⟨m00,m0n⟩) (fun m hm=>by rw[List.mem_singleton.mp hm];exact hok) hpe;obtain rfl:p=i':=by lia
  have keyQ:∀q,p<q->q∈(prs 0 G).map (·.1)->∃j,j<i/\ps[j]?= some (q:Int):=fun q hq hm=>by
   obtain⟨⟨q',e'⟩,h1,h2⟩:=List.mem_map.mp hm;have h2:q'=q:=h2;have h3:(q:Int)∈ps:=hperm.mem_iff.mpr (List.mem_map.mpr ⟨(q',e'),h1,by rw[<- h2]⟩);obtain⟨j,hj⟩:=List.getElem?_of_mem h3;exact⟨j,ZfR hfall hp0 hj (by lia),hj⟩
  have up9:∀b o',H3 b=some o'->H9 b=some o':=fun b o' h=>k9 b o' (fun z=>by rw[List.mem_singleton.mp z,hT3] at h;cases h) (s8 _ _ (s37 _ _ h));have s9:Zu H H9:=fun b o' h=>up9 _ _ (s13 _ _ h);obtain⟨z1,hz1⟩:∃z,tl[e+1]?= some z:=⟨tl[e+1]'(by lia),List.getElem?_eq_getElem (by lia)⟩;obtain⟨d1,kvs1,rfl,hd1,hd13,g1⟩:=hq9 (e+1) z1 hz1 (keyQ (e+1) (by lia));obtain⟨z2,hz2⟩:∃z,tl[p+1]?= some z:=⟨tl[p+1]'(by lia),List.getElem?_eq_getElem (by lia)⟩;obtain⟨d2,kvs2,rfl,hd2,hd23,g2⟩:=hq9 (p+1) z2 hz2 (keyQ (p+1) (by lia));have hcv:ZeQ H9 dc (V.int (p:Int)) (some (.int (e:Int))):=by
   have:=ZeQ.k (k:=Sum.inl (p:Int)) (up9 _ _ hdc);rw[ZjA hnd hpe] at this;exact this
  have at1:atI tl ((e:Int)+1)=some (.ref d1):=by rw[show(e:Int)+1=((e+1:Nat):Int) by lia];exact Za5 hz1
  have at2:atI tl ((p:Int)+1)=some (.ref d2):=by rw[show(p:Int)+1=((p+1:Nat):Int) by lia];exact Za5 hz2
  have atW:atI ((words SL G).map V.str) (p:Int)=some (.str t):=Za5 (by rw[List.getElem?_map,a5];rfl);obtain⟨zm,hzm,dm,rfl,hdm,hdm0'⟩:=Zek hml3 p ms b1;have hdm0:=s1.free hdm0';have atM:atI mzs (p:Int)=some (.ref dm):=Za5 hzm;refine Zo e4_0 ?_;refine⟨_,rfl,_,rfl,_,rfl,dc,_,rfl,hcv,_,_,rfl,rfl,T,_,_,_,rfl,rfl,SqL.of hT9,at1,?_⟩;refine Zo e4_1 ?_;refine fun cd hcd=>?_;have s10:=Zu.new (o:=.dK []) hcd;have hcd3:H3 cd=none:=by
   cases h:H3 cd with
   | none=>rfl
   | some o' =>
    have:=up9 _ _ h;rw[hcd] at this;cases this
  have ncT:cd≠T:=fun z=>by rw[z,hT9] at hcd;cases hcd
  have ndmc:dm≠cd:=fun z=>by rw[<- z,hdm] at hcd3;cases hcd3
  have ndmT:dm≠T:=fun z=>by rw[z,hT3] at hdm;cases hdm
  have nd1:d1≠dm:=fun z=>by rw[z,hdm] at hd13;cases hd13
  have nd2:d2≠dm:=fun z=>by rw[z,hdm] at hd23;cases hd23
  have nd1c:d1≠cd:=fun z=>by rw[z,hcd] at hd1;cases hd1
  have nd2c:d2≠cd:=fun z=>by rw[z,hcd] at hd2;cases hd2
  have hdmb:(upd H9 cd (.dK [])) dm=some (.dK (kvM ms)):=s10 _ _ (up9 _ _ hdm);refine Zo e4_2 ?_;refine⟨_,rfl,_,rfl,mo,_,_,_,rfl,rfl,SqL.of (s10 _ _ (up9 _ _ hmo3)),atM,dm,kvM ms,rfl,hdmb,fun ob=>?_⟩;have tkf:TK H9 (upd (upd H9 cd (.dK [])) dm (.frz ob (.dK (kvM ms)))):=s10.tk.trans fun b ys e'=>by rw[Zc (fun z=>by rw[z,hdmb] at e';cases e')];exact e'
  have hkl:(kvM ms).length=ms.length:=List.length_map ..;have upf:∀b o',b≠dm->H9 b=some o'->(upd (upd H9 cd (.dK [])) dm (.frz ob (.dK (kvM ms)))) b=some o':=fun b o' hb h=>by
   rw[Zc hb];exact s10 _ _ h
  refine ZgJ (d:=dm) (ob:=ob) (kvs:=kvM ms) (fun j σ H11=>∃(v11 v12:Option V)(kvc:List (Key×V)),σ =[some (.ref ch),some (.ref wl),some (.int m0),some (.ref se),some (.ref dk),some (.ref mo),some (.ref dc),some (.ref T),some (.int (p:Int)),some (.ref d1),some (.ref cd),v11,v12]/\(∀b o',b≠cd->(upd (upd H9 cd (.dK [])) dm (.frz ob (.dK (kvM ms)))) b=some o'->H11 b=some o')/\H11 cd=some (.dK kvc)/\kvc.length<=j/\∀m'∈ms.take j,∃v,Zbg kvc (Sum.inl m')=some v/\S.R H11 v (chS S (Z4 rs) (.cons t w o) m'))
   ⟨_,_,[],rfl,fun _ _ _ h=>h,by rw[Zc ndmc.symm];exact Zb,Nat.le_refl _,fun _ h=>(nomatch h)⟩ ?_ ?_ ?_
  ·rintro j σ H11 _ ⟨_,_,_,_,k11,_⟩;exact k11 _ _ ndmc Zb
  ·rintro j kx vx σ H11 hk ⟨v11,v12,kvc,rfl,k11,hc11,hlc,hvc⟩;obtain⟨m',hm',rfl⟩:∃m',ms[j]?= some m'/\kx=Sum.inl m':=by
    unfold kvM at hk;rw[List.getElem?_map] at hk;obtain⟨m',h1,h2⟩:=Option.map_eq_some_iff.mp hk;injection h2 with h2 h3;exact⟨m',h1,h2.symm⟩
   have hmm:=List.mem_of_getElem? hm';have hmv:=b4 m' hmm;have hjl:=(List.getElem?_eq_some_iff.mp hm').1;have tk11:TK H9 H11:=fun b ys e'=>k11 b _ (fun z=>by rw[z,hcd] at e';cases e') (tkf _ _ e');have up11:∀b o',b≠dm->H9 b=some o'->H11 b=some o':=fun b o' hb h=>k11 b o' (fun z=>by rw[z,hcd] at h;cases h) (upf b o' hb h);have hT11:=up11 _ _ ndmT.symm hT9;have hwl11:=up11 _ _ (fun z=>by rw[z,hdm0] at hwl;cases hwl) (s9 _ _ hwl);have hdk11:H11 dk=some (.dT m):=up11 _ _ (fun z=>by rw[z,hdm] at hdk3;cases hdk3) (up9 _ _ hdk3);have hse11:H11 se=some (.ins C dx []):=up11 _ _ (fun z=>by rw[z,hdm0] at hse;cases hse) (s9 _ _ hse);have hd111:=up11 _ _ nd1 hd1;have hd211:=up11 _ _ nd2 hd2;have tk311:TK H3 H11:=fun b ys e'=>tk11 _ _ (up9 _ _ e');have psz:=kv.psz m' t;have pdp:=(paC (Z4 rs) m' t).ZdT;have okm:=b5 m' hmm;refine Zo e4_2_0 ?_;refine⟨_,rfl,_,rfl,_,rfl,_,rfl,wl,_,_,_,rfl,rfl,SqL.of hwl11,atW,dk,m,Z4 rs,m',t,rfl,hdk11,hkn3.tk tk311,fun q ys H12 s12' hq rp=>?_⟩;refine⟨_,rfl,_,rfl,_,_,rfl,rfl,T,_,_,_,rfl,rfl,SqL.of (s12' _ _ hT11),at2,_,rfl,q,d2,se,dx,ys,paC (Z4 rs) m' t,kvs2,chS S (Z4 rs) w,rfl,hq,rp,by lia,s12' _ _ hd211,fun k hk=>?_,s12' _ _ hse11,S.okl okm,fun v H13 s13' rv=>?_⟩
   ·obtain⟨h1,h2⟩:=kv.pks hmv k hk;obtain⟨v,e1,e2⟩:=g2 k h1 h2 fun hm=>by
     have hw:w ≠ .nil:=fun z=>by
      obtain⟨⟨q',e'⟩,x1,x2⟩:=List.mem_map.mp hm;have x2:q'=p+1:=x2;obtain⟨i2,x3,t',w',o',x4,_⟩:=Zg0 G 0 q' e' x1;rw[show i2=p+1 by lia,a3,z] at x4;cases x4
     exact⟨_,b2 hw,(ZeO k).mpr ⟨m',hmm,hk⟩⟩
    rw[a3] at e2;exact⟨v,e1,S.mono (tk11.trans s12'.tk) e2⟩
   show u4_2_1 _ _ _;refine Zo e4_2_1 ?_;have s113:=s12'.trans s13';obtain⟨u,eu,ru⟩:=g1 m' hmv.1 hmv.2 fun hm=>by
    have ho:o ≠ .nil:=fun z=>by
     obtain⟨⟨q',e'⟩,x1,x2⟩:=List.mem_map.mp hm;have x2:q'=e+1:=x2;obtain⟨i2,x3,t',w',o',x4,_⟩:=Zg0 G 0 q' e' x1;rw[show i2=p+2*gsz w+2 by lia,a4,z] at x4;cases x4
    refine⟨_,?_,hmm⟩;rw[show e+1=p+2*gsz w+2 by lia];exact b3 ho
   rw[show e+1=p+2*gsz w+2 by lia,a4] at ru;have hg1:=ZeQ.k (k:=Sum.inl m') (s113 _ _ hd111);rw[eu] at hg1;refine⟨_,rfl,se,dx,[],rfl,s113 _ _ hse11,rfl,_,rfl,_,rfl,_,rfl,d1,_,rfl,hg1,se,v,u,_,_,rfl,rv,S.mono (tk11.trans s113.tk) ru,okm,fun v' H14 s14 r4=>?_⟩;have s114:=s113.trans s14;have hc14:=s114 _ _ hc11;refine⟨_,rfl,_,rfl,cd,_,rfl,Zix.k (k:=Sum.inl m') hc14 (Zx ?_),?_⟩
   ·have:=ZjS n.toNat ms (Zgh (Z4 rs) G [m0] (by simp) ms (List.mem_of_getElem? b1)) fun x hx=>by
     have:=b4 x hx;lia
    lia
   have tkd:TK H14 (upd H14 cd (.dK (putK kvc (Sum.inl m') v'))):=fun b ys e'=>by rw[Zc (fun z=>by rw[z,hc14] at e';cases e')];exact e'
   refine⟨_,_,putK kvc (Sum.inl m') v',rfl,fun b o' hb h=>?_,Zb,?_,fun m2 hm2=>?_⟩
   ·rw[Zc hb];exact s114 _ _ (k11 b o' hb h)
   ·have:=ZaQ kvc (Sum.inl m') v';lia
   ·rw[ZeP];by_cases c:(Sum.inl m2:Key)=Sum.inl m'
    ·rw[if_pos c];injection c with c;rw[c];exact⟨v',rfl,S.mono tkd r4⟩
    ·rw[if_neg c];rw[Za3 hm'] at hm2;rcases List.mem_append.mp hm2 with h|h
     ·obtain⟨v2,e1,e2⟩:=hvc m2 h;exact⟨v2,e1,S.mono (s114.tk.trans tkd) e2⟩
     ·exact absurd (by rw[List.mem_singleton.mp h]) c
  ·rintro σ H11 ⟨v11,v12,kvc,rfl,k11,hc11,hlc,hvc⟩;rw[hkl,List.take_length] at hvc;refine⟨dm,ob,kvM ms,k11 _ _ ndmc Zb,fun o' u' z=>?_,?_⟩
   ·have z:H dm=some (.frz o' u'):=z;rw[hdm0] at z;cases z
   have tkt:TK H11 (upd H11 dm (.dK (kvM ms))):=fun b ys e'=>by rw[Zc (fun z=>by rw[z,k11 _ _ ndmc Zb] at e';cases e')];exact e'
   have k12:∀b o',b≠cd->H9 b=some o'->(upd H11 dm (.dK (kvM ms))) b=some o':=fun b o' hb h=>by
    by_cases hbd:b=dm
    ·rw[hbd] at h ⊢;rw[Zb,<- h,up9 _ _ hdm]
    ·rw[Zc hbd];exact k11 b o' hb (upf b o' hbd h)
   have hc12:(upd H11 dm (.dK (kvM ms))) cd=some (.dK kvc):=by rw[Zc ndmc.symm];exact hc11
   have hvc12:∀m'∈ms,∃v,Zbg kvc (Sum.inl m')=some v/\S.R (upd H11 dm (.dK (kvM ms))) v (chS S (Z4 rs) (.cons t w o) m'):=fun m' hm'=>by
    obtain⟨v,h1,h2⟩:=hvc m' hm';exact⟨v,h1,S.mono tkt h2⟩
   show u4_3 _ _ _;generalize upd H11 dm (.dK (kvM ms))=H12 at k12 hc12 hvc12 ⊢;refine Zo e4_3 ?_;have hT12:=k12 _ _ ncT.symm hT9;refine⟨_,rfl,_,rfl,_,rfl,T,tl,(p:Int),p,rfl,rfl,hT12,Zlq (by lia),?_⟩;have tk12:TK H9 H12:=fun b ys e'=>k12 b _ (fun z=>by rw[z,hcd] at e';cases e') e';have tk13:TK H12 (upd H12 T (.lst (tl.set p (.ref cd)))):=TK.lst hT12;have kT:Zgj [T] H9 (upd H12 T (.lst (tl.set p (.ref cd)))):=fun b o' hb h=>by
    rw[Zc (fun z=>hb (List.mem_singleton.mpr z))];exact k12 b o' (fun z=>by rw[z,hcd] at h;cases h) h
   refine⟨_,_,_,_,_,tl.set p (.ref cd),rfl,k9.trans kT,Zb,by rw[List.length_set];exact htl,fun q z hq hj=>?_⟩;by_cases c:q=p
   ·subst c;rw[List.getElem?_set_self (by lia)] at hq;injection hq with hq;subst hq;refine⟨cd,kvc,rfl,by rw[Zc ncT];exact hc12,hcd3,fun m' h1 h2 h3=>?_⟩;obtain⟨ms2,h4,h5⟩:=h3 (List.mem_map.mpr ⟨(q,e),hpe,rfl⟩);rw[b1] at h4;injection h4 with h4;subst h4;obtain⟨v,e1,e2⟩:=hvc12 m' h5;rw[a1];exact⟨v,e1,S.mono tk13 e2⟩
   ·rw[List.getElem?_set_ne (fun z=>c z.symm)] at hq;refine(hq9 q z hq fun hm=>?_).keep kT (tk12.trans tk13) fun b hb kvs'=>.inl fun z=>?_
    ·obtain⟨j,hj1,hj2⟩:=hj hm;refine⟨j,?_,hj2⟩;rcases Nat.lt_or_eq_of_le (Nat.le_of_lt_succ hj1) with h|h
     ·exact h
     ·subst h;rw[hp0] at hj2;injection hj2 with hj2;exact absurd (by lia) c
    ·rw[List.mem_singleton.mp hb,hT9] at z;cases z
 ·rintro σ H9 ⟨v8,v9,v10,v11,v12,tl,rfl,k9,hT9,htl,hq9⟩;rw[List.length_map] at hq9;show u5 _ _ _;refine Zo e5 ?_;obtain⟨z0,hz0⟩:∃z,tl[0]?= some z:=⟨tl[0]'(by lia),List.getElem?_eq_getElem (by lia)⟩;obtain⟨d1,kvs1,rfl,hd1,hd13,g1⟩:=hq9 0 z0 hz0 fun hm=>by
   obtain⟨⟨q',e'⟩,h1,h2⟩:=List.mem_map.mp hm;have h2:q'=0:=h2;have h3:((0:Nat):Int)∈ps:=hperm.mem_iff.mpr (List.mem_map.mpr ⟨(q',e'),h1,by rw[h2]⟩);obtain⟨j,hj⟩:=List.getElem?_of_mem h3;exact⟨j,(List.getElem?_eq_some_iff.mp hj).1,hj⟩
  obtain⟨v,e1,e2⟩:=g1 m0 m00 m0n fun hm=>by
   refine⟨[m0],?_,List.mem_cons_self ..⟩;cases G with
   | nil=>cases hm
   | cons t w o=>rfl
  rw[Zcu] at e2;have hg:=ZeQ.k (k:=Sum.inl m0) hd1;rw[e1] at hg;refine⟨_,rfl,T,_,0,_,rfl,rfl,SqL.of hT9,Za5 hz0,_,rfl,d1,_,rfl,hg,qq v H9 (fun b o' h=>?_) e2⟩;exact k9 b o' (fun z=>by rw[List.mem_singleton.mp z,s13.free hT3] at h;cases h) (s8 _ _ (s37 _ _ (s13 _ _ h)))
theorem Ze4{n:Nat}(h:n<=100000):((n:Nat):Int).natAbs.log2<1920:=by
 rw[Int.natAbs_natCast];by_cases h0:n=0
 ·rw[h0];decide
 ·exact(Nat.log2_lt h0).mpr (Nat.lt_of_le_of_lt h (Nat.lt_of_lt_of_le (by decide:100000<2 ^ 17) (Nat.pow_le_pow_right (by decide) (by decide))))
def Zh0(C:Addr):Sp:=fun vs H Q E=>∃a b:Nat,vs=[.int (a:Int),.int (b:Int)]/\a<=40000/\b<=40000/\(a<=300->b<=100->Q .non H)/\(¬ (a<=300/\b<=100)->∀H',Zu H H'->E (.ref C) none H')
theorem ZdP(B:∀x∈Zcb,mg x=none)(Cc:∃t:Tok,mg "MOST_TAGS" = some (.int 300 t)) (Cd:∃t:Tok,mg "DEEPEST_GROVE" = some (.int 100 t)) (xc:XC K mg X_GroveError X_TooBig) (F:Fun K "refuse_great" "refuse_great" Zat f fd):FnOk P w K mg base (CXE P w) 1 f fd ["tags","deep"] (Zh0 X_TooBig):=by
 refine F.okX Zdo (fun vs H Q E h=>?_) (fun cdv A outer s H vs Q E hr h=>?_)
 ·obtain⟨a,b,rfl,_⟩:=h;rfl
 obtain⟨a,b,rfl,ha,hb,q1,q2⟩:=h;obtain⟨t1,c_MOST_TAGS⟩:=Cc;obtain⟨t2,c_DEEPEST_GROVE⟩:=Cd;refine⟨_,(Zj (Zbi (PW.pt (Zhh (Z2 Zhe (pv 0) (ZfZ (v:=.int 300) rfl c_MOST_TAGS ⟨_,rfl⟩) (Zaf _)) (Zfj (Z2 Zhe (pv 1) (ZfZ (v:=.int 100) rfl c_DEEPEST_GROVE ⟨_,rfl⟩) (Zaf _)))))
   (Zj (ZiA xc.top_TooBig xc.ini_TooBig xc.n_TooBig ZfD hr rfl (Za (ZhU (ZdF Zan (ZdF (Zlr (pv 0)) (ZdF Zan (ZdF (Zlr (pv 1)) (ZdF Zan Zls)))))) Zf)))
   ZaR)),?_⟩
 have la:=PyProof.Rows.len_str_of_int (a:Int);have lb:=PyProof.Rows.len_str_of_int (b:Int);rw[Int.natAbs_natCast] at la lb;have l1:(Str.ofString "a grove of ").length=11:=by decide
 have l2:(Str.ofString " tags that is ").length=14:=by decide
 have l3:(Str.ofString " deep").length=5:=by decide
 have e0:(Str.empty++Str.ofString "a grove of ").length=11:=by decide
 have bad : ¬ (a<=300/\b<=100)->Zi2 X_TooBig (fun _=>E) (Zjt (Zi1 (Zd6 (tC (V.str (Str.ofString "a grove of "))) (Zd6 (tFv (ZlV 0)) (Zd6 (tC (V.str (Str.ofString " tags that is "))) (Zd6 (tFv (ZlV 1)) (Zd6 (tC (V.str (Str.ofString " deep"))) ZlQ)))))) Zlm) { nx:=fun _ H'=>Q V.non H',rt:=Q } (L2.start [Str.ofString "tags",Str.ofString "deep"] [V.int a,V.int b]) H:=fun c=>by
  refine⟨_,rfl,by rw[e0,sizeLine_eq];lia,_,rfl,.inr ⟨_,rfl,Ze4 (by lia),_,rfl,?_,?_⟩⟩
  ·rw[strLen_append,e0,sizeLine_eq];lia
  refine⟨_,rfl,?_,_,rfl,.inr ⟨_,rfl,Ze4 (by lia),_,rfl,?_,?_⟩⟩
  ·rw[strLen_append,strLen_append,e0,l2,sizeLine_eq];lia
  ·rw[strLen_append,strLen_append,strLen_append,e0,l2,sizeLine_eq];lia
  refine⟨_,rfl,?_,?_,?_⟩
  ·rw[strLen_append,strLen_append,strLen_append,strLen_append,e0,l2,l3,sizeLine_eq];lia
  ·rw[strLen_append,strLen_append,strLen_append,strLen_append,e0,l2,l3,sizeLine_eq];lia
  exact⟨(by show 1<=1000;decide),fun y hy=>q2 c _ (Zu.new hy)⟩
 refine⟨_,rfl,_,_,rfl,rfl,_,rfl,Zd8 (fun c=>?_) (fun c=>?_)⟩
 ·exact bad fun z=>by have:=of_decide_eq_true c;lia
 refine⟨_,rfl,_,_,rfl,rfl,_,rfl,Zd8 (fun c2=>?_) (fun c2=>?_)⟩
 ·exact bad fun z=>by have:=of_decide_eq_true c2;lia
 have z1 : ¬ (300:Int)<(a:Int):=fun z=>c (decide_eq_true z);have z2 : ¬ (100:Int)<(b:Int):=fun z=>c2 (decide_eq_true z);exact q1 (by lia) (by lia)
theorem ZeA:∀g:Gr Str,Zbs g<=gsz g
 | .nil=>Nat.le_refl _
 | .cons t w o=>by
  have h1:=ZeA w;have h2:=ZeA o;show max (Zbs w+1) (Zbs o)<=1+gsz w+gsz o;lia
def ZbE(C:Addr):Sp:=fun vs H Q E=>∃(ch gr:Addr)(m0 n:Int)(rs:List (Int×Str×Pa))(xs:List V)(G:Gr Str),vs=[.ref ch,.ref gr,.int m0]/\ChC H ch n rs/\n<=100/\0<=m0/\m0<n/\H gr=some (.tup xs)/\RepG H xs G/\ZaW SL G/\gsz G<=400/\gsz (chG (Z4 rs) G m0)<=40000 /\
 (gsz (chG (Z4 rs) G m0)<=300->Zbs (chG (Z4 rs) G m0)<=100->∀(r:Addr)(zs:List V)(H':Hp),Zu H H'->H' r=some (.tup zs)->RepG H' zs (chG (Z4 rs) G m0)->Q (.ref r) H') /\
 (¬ (gsz (chG (Z4 rs) G m0)<=300/\Zbs (chG (Z4 rs) G m0)<=100)->∀H',Zu H H'->E (.ref C) none H')
set_option maxHeartbeats 1000000 in
theorem Zg4{C_Bounds C_Groves T:Addr}(B:∀x∈Zcb,mg x=none)(g_Bounds:HasC0 K mg C_Bounds "Bounds") (g_Groves:HasC0 K mg C_Groves "Groves") (g_words_of:Has P w K mg base "words_of" ["grove"] 1 (Zgg K)) (g_come_ofB:Has P w K mg base "come_of" ["changer","words","mode","sense"] 25 (Ziw snB C_Bounds)) (g_come_ofG:Has P w K mg base "come_of" ["changer","words","mode","sense"] 25 (Ziw (snG 2000) C_Groves)) (g_refuse_great:HasX P w K mg base "refuse_great" ["tags","deep"] 1 (Zh0 X_TooBig))
  (F:FunD K "changed" "changed" ZbB f fd T):FnOk P w K mg base (CXE P w) 26 f fd ["changer","grove","mode"] (ZbE X_TooBig):=by
 refine F.okX ZcK (fun vs H Q E h=>?_) (fun cdv A outer s H vs Q E hr h=>?_)
 ·obtain⟨ch,gr,m0,n,rs,xs,G,rfl,_⟩:=h;rfl
 obtain⟨ch,gr,m0,n,rs,xs,G,rfl,hch,hn,m00,m0n,hgr,rp,hc,hz,hbg,q1,q2⟩:=h;have hdg:=ZeA (chG (Z4 rs) G m0);have hwz:=ZM G;have eB:chS snB (Z4 rs) G m0=(gsz (chG (Z4 rs) G m0),Zbs (chG (Z4 rs) G m0)):=(Zg3 (n:=0) (Z4 rs) G m0).symm;have eG:chS (snG 2000) (Z4 rs) G m0=chG (Z4 rs) G m0:=Zkm 2000 0 (Z4 rs) G m0;refine⟨_,(Zd (Zn (i:=3) ZcK.nd rfl (Or.inl rfl) (ZR g_words_of hr rfl (Za (pv 1) Zf)))
  (Zd (Zn (i:=4) ZcK.nd rfl (Or.inl rfl) (ZR g_come_ofB hr rfl (Za (pv 0) (Za (pv 3) (Za (pv 2) (Za (Zgx g_Bounds rfl) Zf))))))
  (Zd (ZV (Zh2 g_refuse_great ZfD hr rfl (Za (ZG ZQ (pv 4) Zh (fun _ _=>rfl)) (Za (ZG ZQ (pv 4) Zh (fun _ _=>rfl)) Zf))))
  (Zj (ZS (ZR g_come_ofG hr rfl (Za (pv 0) (Za (pv 3) (Za (pv 2) (Za (Zgx g_Groves rfl) Zf)))))))))),?_⟩
 refine⟨_,rfl,gr,xs,G,rfl,SqT.of hgr,rp,by lia,fun W H1 s1 _ hW=>?_⟩;refine⟨_,rfl,_,rfl,_,rfl,fun x dx hx hdx hne=>?_⟩;have s2:=making (C:=C_Bounds) hx hdx hne;have s12:=s1.trans s2;refine⟨ch,W,x,dx,m0,n,rs,G,rfl,hch.tk s12.tk,hn,m00,m0n,s2 _ _ hW,hc,hz,Zb,trivial,fun v H3 s3 rv=>?_⟩;obtain⟨bp,rfl,hbp⟩:=rv;rw[eB] at hbp;have hbp:H3 bp=some (.tup [.int (gsz (chG (Z4 rs) G m0):Int),.int (Zbs (chG (Z4 rs) G m0):Int)]):=hbp;have s13:=s12.trans s3;refine⟨_,rfl,bp,_,0,_,rfl,rfl,SqT.of hbp,rfl,_,rfl,bp,_,1,_,rfl,rfl,SqT.of hbp,rfl,_,_,rfl,by lia,by lia,fun b1 b2=>?_,fun b H' s4=>q2 (fun z=>b (by lia)) H' (s13.trans s4)⟩;refine⟨_,rfl,_,rfl,_,rfl,fun y dy hy hdy hney=>?_⟩;have s4:=making (C:=C_Groves) hy hdy hney;have s14:=s13.trans s4;refine⟨ch,W,y,dy,m0,n,rs,G,rfl,hch.tk s14.tk,hn,m00,m0n,(s3.trans s4) _ _ (s2 _ _ hW),hc,hz,Zb,?_,fun v H5 s5 rv=>?_⟩
 ·show gsz (chS (snG 2000) (Z4 rs) G m0)<=2000;rw[eG];lia
 rw[eG] at rv;obtain⟨r,zs,rfl,hr,rr⟩:=rv;exact q1 (by lia) (by lia) r zs H5 (s14.trans s5) hr rr
structure PgS(H H1:Hp)(R T:Addr)(as:List Addr)(gs:List Pa)(ts:List Str):Prop where
 sm:Zu H H1
 hT:H1 T=some (.lst ((ts.map V.str).reverse))
 hR:H1 R=some (.lst ((as.map V.ref).reverse))
 rows:Paired (fun a g=>∃xs,H1 a=some (.lst xs)/\RepP H1 xs g) as gs
 nd:(R::T::as).Nodup
 fr:∀b∈R::T::as,H b=none
 gl:gs.length=ts.length+1
section
variable{H H1:Hp}{R T:Addr}{as:List Addr}{gs:List Pa}{ts:List Str}
theorem ZdJ{H1:Hp}:∀{as:List Addr}{gs:List Pa},Paired (fun a g=>∃xs,H1 a=some (.lst xs)/\RepP H1 xs g) as gs->∀b∈as,∃o,H1 b=some o
 | _,_,.cons ⟨xs,h,_⟩ t,b,hb=>by
  rcases List.mem_cons.mp hb with rfl|hb
  ·exact⟨_,h⟩
  ·exact ZdJ t b hb
theorem ZbD{H1 H2:Hp}(k:TK H1 H2):∀{as:List Addr}{gs:List Pa},Paired (fun a g=>∃xs,H1 a=some (.lst xs)/\RepP H1 xs g) as gs->(∀b∈as,∀o,H1 b=some o->H2 b=some o)->Paired (fun a g=>∃xs,H2 a=some (.lst xs)/\RepP H2 xs g) as gs
 | _,_,.nil,_=>.nil
 | _,_,.cons ⟨xs,h,r⟩ t,kb=>.cons ⟨xs,kb _ (List.mem_cons_self ..) _ h,r.mono k⟩ (ZbD k t fun b hb=>kb b (List.mem_cons_of_mem _ hb))
theorem PgS.nR(h:PgS H H1 R T as gs ts):∀b∈as,b≠R:=fun b hb e=>(List.nodup_cons.mp h.nd).1 (by rw[<- e];exact List.mem_cons_of_mem _ hb)
theorem PgS.nT(h:PgS H H1 R T as gs ts):∀b∈as,b≠T:=fun b hb e=>(List.nodup_cons.mp (List.nodup_cons.mp h.nd).2).1 (by rw[<- e];exact hb)
theorem PgS.RT(h:PgS H H1 R T as gs ts):R≠T:=fun e=>(List.nodup_cons.mp h.nd).1 (by rw[e];exact List.mem_cons_self ..)
theorem PgS.opened{wd:Str}{l:Addr}(h:PgS H H1 R T as gs ts)(hl:(upd H1 T (.lst ((ts.map V.str).reverse ++ [.str wd]))) l=none):PgS H (upd (upd (upd H1 T (.lst ((ts.map V.str).reverse ++ [.str wd]))) l (.lst [])) R (.lst ((as.map V.ref).reverse ++ [.ref l]))) R T (l::as) (.nil::gs) (wd::ts):=by
 obtain⟨nlT,hl1⟩:=Zk hl;have nlR:R≠l:=Zm h.hR hl1;have hRT:=h.RT;have hRb:(upd (upd H1 T (.lst ((ts.map V.str).reverse ++ [.str wd]))) l (.lst [])) R=some (.lst (as.map V.ref).reverse):=by
  rw[Zc nlR,Zc hRT];exact h.hR
 have tk:TK H1 (upd (upd (upd H1 T (.lst ((ts.map V.str).reverse ++ [.str wd]))) l (.lst [])) R (.lst ((as.map V.ref).reverse ++ [.ref l]))):=((TK.lst h.hT).trans (TK.new hl)).trans (TK.lst hRb);have nla:l∉as:=fun hb=>by
  obtain⟨o,ho⟩:=ZdJ h.rows l hb;rw[hl1] at ho;cases ho
 obtain⟨ndR,ndT⟩:=List.nodup_cons.mp h.nd;obtain⟨ndT',ndA⟩:=List.nodup_cons.mp ndT;refine⟨((h.sm.upd_new (h.fr T (by simp))).upd_new (h.sm.free hl1)).upd_new (h.fr R (by simp)),?_,?_,.cons ⟨[],?_,.nil⟩ (ZbD tk h.rows fun b hb o ho=>?_),?_,?_,by rw[List.length_cons,List.length_cons,h.gl]⟩
 ·rw[Zc hRT.symm,Zc nlT.symm,Zb,List.map_cons,List.reverse_cons]
 ·rw[Zb,List.map_cons,List.reverse_cons]
 ·rw[Zc nlR.symm];exact Zb
 ·rw[Zc (h.nR b hb),Zc (Zm ho hl1),Zc (h.nT b hb)];exact ho
 ·refine List.nodup_cons.mpr ⟨fun h=>?_,List.nodup_cons.mpr ⟨fun h=>?_,List.nodup_cons.mpr ⟨nla,ndA⟩⟩⟩
  ·rcases List.mem_cons.mp h with h|h
   ·exact hRT h
   ·rcases List.mem_cons.mp h with h|h
    ·exact nlR h
    ·exact ndR (List.mem_cons_of_mem _ h)
  ·rcases List.mem_cons.mp h with h|h
   ·exact nlT h.symm
   ·exact ndT' h
 ·intro b hb;simp only[List.mem_cons] at hb;rcases hb with rfl|rfl|rfl|hb
  ·exact h.fr _ (by simp)
  ·exact h.fr _ (by simp)
  ·exact h.sm.free hl1
  ·exact h.fr b (by simp[hb])
theorem PgS.put{b0 pt:Addr}{g0 q:Pa}{vs:List V}{a1:List Addr}{g1:List Pa}(h:PgS H H1 R T (b0::a1) (g0::g1) ts)(h0:H1 b0=some (.lst vs))(r0:RepP H1 vs g0)(s:Zu H1 H2)(hq:RepP (upd H2 b0 (.lst (vs ++ [.ref pt]))) [.ref pt] q):PgS H (upd H2 b0 (.lst (vs ++ [.ref pt]))) R T (b0::a1) (g0.app q::g1) ts:=by
 have tk:TK H1 (upd H2 b0 (.lst (vs ++ [.ref pt]))):=s.tk.trans (TK.lst (s _ _ h0));have nb:∀b∈a1,b≠b0:=fun b hb e=>(List.nodup_cons.mp (List.nodup_cons.mp (List.nodup_cons.mp h.nd).2).2).1 (by rw[<- e];exact hb);have hrows:=h.rows;cases hrows with
 | cons r t =>
  refine⟨(h.sm.trans s).upd_new (h.fr b0 (by simp)),?_,?_,.cons ⟨_,Zb,(r0.mono tk).app hq⟩ (ZbD tk t fun b hb o ho=>?_),h.nd,h.fr,h.gl⟩
  ·rw[Zc (h.nT b0 (List.mem_cons_self ..)).symm];exact s _ _ h.hT
  ·rw[Zc (h.nR b0 (List.mem_cons_self ..)).symm];exact s _ _ h.hR
  ·rw[Zc (nb b hb)];exact s _ _ ho
theorem PgS.two(h:PgS H H1 R T as gs (t::ts)):∃b0 b1 a2 g0 g1 g2 vs0 vs1,as=b0::b1::a2/\gs=g0::g1::g2/\H1 b0=some (.lst vs0)/\RepP H1 vs0 g0/\H1 b1=some (.lst vs1)/\RepP H1 vs1 g1/\H1 R=some (.lst (((b1::a2).map V.ref).reverse ++ [.ref b0]))/\H1 T=some (.lst ((ts.map V.str).reverse ++ [.str t])):=by
 have hgl:=h.gl;have hR:=h.hR;have hT:=h.hT;have hrows:=h.rows;cases gs with
 | nil=>simp at hgl
 | cons g0 gs =>
  cases gs with
  | nil=>simp at hgl
  | cons g1 gs =>
   cases hrows with
   | @cons b0 _ as _ r0 hrows =>
    cases hrows with
    | @cons b1 _ as _ r1 hrows =>
     obtain⟨vs0,h00,r00⟩:=r0;obtain⟨vs1,h11,r11⟩:=r1;refine⟨b0,b1,as,g0,g1,gs,vs0,vs1,rfl,rfl,h00,r00,h11,r11,?_,?_⟩
     ·rw[hR,List.map_cons,List.reverse_cons]
     ·rw[hT,List.map_cons,List.reverse_cons]
theorem PgS.popped{b0:Addr}{g0:Pa}{a1:List Addr}{g1:List Pa}{t:Str}{l:Addr}{vs0:List V}(h:PgS H H1 R T (b0::a1) (g0::g1) (t::ts))(hl:(upd H1 R (.lst ((a1.map V.ref).reverse))) l=none):PgS H (upd (upd (upd H1 R (.lst ((a1.map V.ref).reverse))) l (.tup vs0)) T (.lst ((ts.map V.str).reverse))) R T a1 g1 ts:=by
 obtain⟨nlR,hl1⟩:=Zk hl;have hRT:=h.RT;have nlT:T≠l:=Zm h.hT hl1;have hTb:(upd (upd H1 R (.lst ((a1.map V.ref).reverse))) l (.tup vs0)) T=some (.lst (((t::ts).map V.str).reverse)):=by
  rw[Zc nlT,Zc hRT.symm];exact h.hT
 have tk:TK H1 (upd (upd (upd H1 R (.lst ((a1.map V.ref).reverse))) l (.tup vs0)) T (.lst ((ts.map V.str).reverse))):=((TK.lst h.hR).trans (TK.new hl)).trans (TK.lst hTb);have hgl:=h.gl;have hrows:=h.rows;have nRs:=h.nR;have nTs:=h.nT;cases hrows with
 | cons r rt =>
  obtain⟨ndR,ndT⟩:=List.nodup_cons.mp h.nd;obtain⟨ndT',ndA⟩:=List.nodup_cons.mp ndT;refine⟨((h.sm.upd_new (h.fr R (by simp))).upd_new (h.sm.free hl1)).upd_new (h.fr T (by simp)),Zb,?_,ZbD tk rt fun b hb o ho=>?_,?_,fun b hb=>h.fr b ?_,by simp at hgl ⊢;lia⟩
  ·rw[Zc hRT,Zc nlR.symm];exact Zb
  ·rw[Zc (nTs b (List.mem_cons_of_mem _ hb)),Zc (Zm ho hl1),Zc (nRs b (List.mem_cons_of_mem _ hb))];exact ho
  ·refine List.nodup_cons.mpr ⟨fun z=>ndR ?_,List.nodup_cons.mpr ⟨fun z=>ndT' (List.mem_cons_of_mem _ z),(List.nodup_cons.mp ndA).2⟩⟩;rcases List.mem_cons.mp z with z|z
   ·exact absurd z hRT
   ·exact List.mem_cons_of_mem _ (List.mem_cons_of_mem _ z)
  ·simp only[List.mem_cons] at hb ⊢;rcases hb with h|h|h
   ·exact .inl h
   ·exact .inr (.inl h)
   ·exact .inr (.inr (.inr h))
end
theorem PgS.shutting{H H1:Hp}{R T b0 b1 l l2:Addr}{a2:List Addr}{g0 g1:Pa}{g2:List Pa}{t:Str}{ts:List Str}{vs0 vs1:List V}(h:PgS H H1 R T (b0::b1::a2) (g0::g1::g2) (t::ts))(h0:H1 b0=some (.lst vs0))(r0:RepP H1 vs0 g0)(h1:H1 b1=some (.lst vs1))(r1:RepP H1 vs1 g1)
  (hl:(upd H1 R (.lst ((b1::a2).map V.ref).reverse)) l=none) (hl2:(upd (upd (upd H1 R (.lst ((b1::a2).map V.ref).reverse)) l (.tup vs0)) T (.lst (ts.map V.str).reverse)) l2=none) :
  (upd H1 R (.lst ((b1::a2).map V.ref).reverse)) b0=some (.lst vs0)/\(upd (upd H1 R (.lst ((b1::a2).map V.ref).reverse)) l (.tup vs0)) R=some (.lst ((a2.map V.ref).reverse ++ [.ref b1]))/\(upd (upd H1 R (.lst ((b1::a2).map V.ref).reverse)) l (.tup vs0)) b1=some (.lst vs1)/\(upd (upd H1 R (.lst ((b1::a2).map V.ref).reverse)) l (.tup vs0)) T=some (.lst ((ts.map V.str).reverse ++ [.str t])) /\
  (upd (upd (upd (upd H1 R (.lst ((b1::a2).map V.ref).reverse)) l (.tup vs0)) T (.lst (ts.map V.str).reverse)) l2 (.tup [.str "tag",.str t,.ref l])) b1=some (.lst vs1) /\
  PgS H (upd (upd (upd (upd (upd H1 R (.lst ((b1::a2).map V.ref).reverse)) l (.tup vs0)) T (.lst (ts.map V.str).reverse)) l2 (.tup [.str "tag",.str t,.ref l])) b1 (.lst (vs1 ++ [.ref l2]))) R T (b1::a2) (g1.app (.tag t g0 .nil)::g2) ts:=by
 have hp:=h.popped (vs0:=vs0) hl;obtain⟨nlR,hl1⟩:=Zk hl;have n0R:=h.nR b0 (by simp);have n1R:=h.nR b1 (by simp);have n1T:=h.nT b1 (by simp);have n1l:b1≠l:=Zm h1 hl1;have nTl:T≠l:=Zm h.hT hl1;have h1p:(upd (upd H1 R (.lst ((b1::a2).map V.ref).reverse)) l (.tup vs0)) b1=some (.lst vs1):=by
  rw[Zc n1l,Zc n1R];exact h1
 have hTp:(upd (upd H1 R (.lst ((b1::a2).map V.ref).reverse)) l (.tup vs0)) T=some (.lst ((ts.map V.str).reverse ++ [.str t])):=by
  rw[Zc nTl,Zc h.RT.symm,h.hT,List.map_cons,List.reverse_cons]
 have h1q:(upd (upd (upd H1 R (.lst ((b1::a2).map V.ref).reverse)) l (.tup vs0)) T (.lst (ts.map V.str).reverse)) b1=some (.lst vs1):=by
  rw[Zc n1T];exact h1p
 have tkq:TK H1 (upd (upd (upd H1 R (.lst ((b1::a2).map V.ref).reverse)) l (.tup vs0)) T (.lst (ts.map V.str).reverse)):=((TK.lst h.hR).trans (TK.new hl)).trans (TK.lst hTp);have s2:Zu (upd (upd (upd H1 R (.lst ((b1::a2).map V.ref).reverse)) l (.tup vs0)) T (.lst (ts.map V.str).reverse)) (upd (upd (upd (upd H1 R (.lst ((b1::a2).map V.ref).reverse)) l (.tup vs0)) T (.lst (ts.map V.str).reverse)) l2 (.tup [.str "tag",.str t,.ref l])):=Zu.new hl2;have n2b:l2≠b1:=fun z=>by rw[z,h1q] at hl2;cases hl2
 have tk5:=s2.tk.trans (TK.lst (o:=.lst (vs1 ++ [.ref l2])) (s2 _ _ h1q));refine⟨by rw[Zc n0R];exact h0,?_,h1p,hTp,s2 _ _ h1q,hp.put (pt:=l2) (q:=.tag t g0 .nil) h1q (r1.mono tkq) s2 (.tag (q:=l) ?_ ?_ ((r0.mono tkq).mono tk5) .nil)⟩
 ·rw[Zc nlR.symm,Zb,List.map_cons,List.reverse_cons]
 ·rw[Zc n2b];exact Zb
 ·refine tk5 _ _ ?_;rw[Zc nTl.symm];exact Zb
theorem PgS.start2{H:Hp}{a0 R T:Addr}(hT:H T=none)(h0:(upd H T (.lst [])) a0=none)(hR:(upd (upd H T (.lst [])) a0 (.lst [])) R=none):PgS H (upd (upd (upd H T (.lst [])) a0 (.lst [])) R (.lst [.ref a0])) R T [a0] [.nil] []:=by
 obtain⟨n0T,h0'⟩:=Zk h0;obtain⟨nR0,hR1⟩:=Zk hR;obtain⟨nRT,hR'⟩:=Zk hR1;refine⟨((Zu.new hT).upd_new h0').upd_new hR',?_,Zb,.cons ⟨[],?_,.nil⟩ .nil,?_,?_,rfl⟩
 ·rw[Zc nRT.symm,Zc n0T.symm];exact Zb
 ·rw[Zc nR0.symm];exact Zb
 ·simp[nRT,nR0,n0T.symm]
 ·intro b hb;simp only[List.mem_cons,List.not_mem_nil,or_false] at hb;rcases hb with rfl|rfl|rfl
  ·exact hR'
  ·exact hT
  ·exact h0'
theorem PgS.more{H H1 H2:Hp}{R T:Addr}{as:List Addr}{gs:List Pa}{ts:List Str}(h:PgS H H1 R T as gs ts)(s:Zu H1 H2):PgS H H2 R T as gs ts :=
 ⟨h.sm.trans s,s _ _ h.hT,s _ _ h.hR,ZbD s.tk h.rows fun b _ o e=>s b o e,h.nd,h.fr,h.gl⟩
structure PgB(tt:List Str)(md:Int)(gs:List Pa)(os:List Str)(k i:Nat):Prop where
 sz:(gs.map Pa.sz).sum+os.length<=i
 nk:(gs.map Pa.nk).sum<=k
 tg:∀g∈gs,∀x∈g.tags,x∈tt
 op:∀x∈os,x∈tt
 ks:∀g∈gs,∀x∈g.ks,0<=x/\x<md
theorem PgB.shut{tt:List Str}{md:Int}{g0 g1:Pa}{g2:List Pa}{t:Str}{os:List Str}{k i:Nat}(h:PgB tt md (g0::g1::g2) (t::os) k i):PgB tt md (g1.app (.tag t g0 .nil)::g2) os k i:=by
 obtain⟨h1,h2,h3,h4,h5⟩:=h;refine⟨?_,?_,fun g hg=>?_,fun x hx=>h4 x (List.mem_cons_of_mem _ hx),fun g hg=>?_⟩
 ·simp only[List.map_cons,List.sum_cons,List.length_cons,Pa.Zeg,Pa.sz] at h1 ⊢;lia
 ·simp only[List.map_cons,List.sum_cons,Pa.ZgU,Pa.nk] at h2 ⊢;lia
 ·rcases List.mem_cons.mp hg with rfl|hg
  ·intro x hx;rw[Pa.Zc8] at hx;rcases List.mem_append.mp hx with hx|hx
   ·exact h3 g1 (by simp) x hx
   ·simp only[Pa.tags,List.append_nil,List.mem_cons] at hx;rcases hx with rfl|hx
    ·exact h4 _ (List.mem_cons_self ..)
    ·exact h3 g0 (by simp) x hx
  ·exact h3 g (by simp[hg])
 ·rcases List.mem_cons.mp hg with rfl|hg
  ·intro x hx;rw[Pa.Zbf] at hx;rcases List.mem_append.mp hx with hx|hx
   ·exact h5 g1 (by simp) x hx
   ·simp only[Pa.ks,List.append_nil] at hx;exact h5 g0 (by simp) x hx
  ·exact h5 g (by simp[hg])
def ZeC(K:PySem.W.Frag):Sp:=fun vs H Q _=>∃(a:Addr)(ns:List Int)(st m:Int),vs=[.ref a,.int st,.int m]/\SqL K H a (ns.map V.int)/\ns.length<=63/\0<=m/\m<=400 /\
 ∀(r:Addr)(xs:List Int)(H':Hp),Zu H H'->H r=none->H' r=some (.lst (xs.map V.int))->xs.length=m.toNat->(∀x∈xs,0<=x/\x<2147483647)->Q (.ref r) H'
theorem Ze3(B:∀x∈Zcb,mg x=none)(g_l_cell_at:Has P w K mg base "_law_cell_at" ["_law_script","_law_k"] 1 (ZgT K)) (F:Fun K "_law_numbers" "_law_numbers" Za2 f fd) :
  FnOk P w K mg base CX0 2 f fd ["_law_script","_law_first","_law_many"] (ZeC K):=by
 refine F.ok ZaS (fun vs H Q E h=>?_) (fun cdv A outer s H vs Q E hr h=>?_)
 ·obtain⟨a,ns,st,m,rfl,_⟩:=h;rfl
 obtain⟨a,ns,st,m,rfl,hS,h63,h0,h1,q⟩:=h;refine⟨_,(Zd (Zn (i:=3) ZaS.nd rfl (Or.inl rfl) (Zas Zf))
  (Zd (Zn (i:=4) ZaS.nd rfl (Or.inl rfl) (Zy Zal Zh (pv 1)))
  (Zd (ZaB PassesOwn.never rfl (Zbq rfl (B "range" (by decide)) (Za (pv 2) Zf)) (Zt (i:=5) ZaS.nd rfl (Or.inl rfl))
   (Zd (Zn (i:=6) ZaS.nd rfl (Or.inl rfl) (ZR g_l_cell_at hr rfl (Za (pv 0) (Za (Zy Zal Zh (Zy ZaT (Zy Zal (pv 1) (pv 5)) (ZaG (Zcn rfl) rfl (B "max" (by decide)) ZgZ (Za Zh (Za (Zy Zkh (ZaG Zba rfl (B "len" (by decide)) PySem.boot_len (Za (pv 0) Zf)) Zh) Zf))))) Zf))))
    (Zd (Zn (i:=4) ZaS.nd rfl (Or.inl rfl) (Zy ZaT (Zy Zal (Zy Zal (Zy ZiC (pv 4) Zh) (pv 6)) (Zy ZiC (pv 5) (pv 5))) Zh))
    (Zj (ZV (Zbe PySem.F.plainAttrs_list PySem.F.slot_list_append PySem.F.type_list_append ZD (pv 3) (Za (pv 4) Zf)))))))
  (Zj (ZS (pv 3)))))),?_⟩
 refine⟨by decide,fun p hp=>?_⟩;refine⟨_,rfl,_,_,rfl,rfl,?_⟩;refine⟨_,rfl,m,rfl,by lia,by lia,Zby (lo:=0) (n:=m.toNat) (fun i σ H1=>∃(xs:List Int)(num:Int)(v4 v5:Option V),σ =[some (.ref a),some (.int st),some (.int m),some (.ref p),some (.int num),v4,v5] /\
  Zu H H1/\H1 p=some (.lst (xs.map V.int))/\xs.length=i/\(∀x∈xs,0<=x/\x<2147483647)) ⟨[],_,none,none,rfl,Zu.new hp,Zb,rfl,fun _ h=>nomatch h⟩ ?_ ?_⟩
 ·rintro i σ H1 hi ⟨xs,num,v4,v5,rfl,sm,hp1,hl,hx⟩;have hS1:=sm.seq hS;refine⟨_,rfl,_,rfl,_,rfl,_,_,rfl,rfl,_,rfl,a,_,rfl,.inl hS1,_,_,rfl,rfl,_,_,rfl,_,_,rfl,rfl,?_,_,_,rfl,rfl,a,ns,_,rfl,hS1,h63,?_,fun v=>?_⟩
  ·exact ZiS _
  ·have:=Int.emod_nonneg (st+(0+(i:Int))) (Int.ne_of_gt (ZiS (((ns.map V.int).length:Int)-2)));lia
  refine⟨_,rfl,_,_,rfl,rfl,.inr ⟨by decide,by decide⟩,_,rfl,_,_,rfl,rfl,_,rfl,_,rfl,_,_,rfl,rfl,.inl ⟨by lia,by lia⟩,_,_,rfl,rfl,_,_,rfl,rfl,(by show(0:Int)<2147483647;decide),?_⟩;refine⟨_,rfl,.inl ⟨rfl,_,SqL.of hp1⟩,_,rfl,p,_,_,rfl,rfl,hp1,Zx (by rw[List.length_map];lia),?_⟩;refine⟨xs ++ [(num*48271+v+(0+(i:Int))*(0+(i:Int))) % 2147483647],_,_,_,rfl,sm.upd_new hp,?_,?_,?_⟩
  ·rw[Zb,List.map_append];rfl
  ·rw[List.length_append,hl];rfl
  ·intro x hx';rcases List.mem_append.mp hx' with hx'|hx'
   ·exact hx x hx'
   ·obtain rfl:=List.mem_singleton.mp hx';exact⟨Int.emod_nonneg _ (by decide),Int.emod_lt_of_pos _ (by decide)⟩
 ·rintro σ H1 ⟨xs,num,v4,v5,rfl,sm,hp1,hl,hx⟩;exact⟨_,rfl,q p xs H1 sm hp hp1 hl hx⟩
def ZeK:Sp:=fun vs H Q _=>∃c:Int,vs=[.int c]/\∀(r:Addr)(ts:List Str)(H':Hp),Zu H H'->H r=none->H' r=some (.lst (ts.map V.str))->ts.length=3->(∀t∈ts,Zk3 t/\t.length<=8)->Q (.ref r) H'
theorem ZeF{t:Str}(h:ZjI t)(hl:1<=t.length):Zk3 t:=⟨fun z=>by
 have:t.cps.toList.length=t.length:=Array.length_toList;rw[z,List.length_nil] at this;lia,h⟩
set_option maxHeartbeats 1000000 in
theorem Zh5(B:∀x∈Zcb,mg x=none)(F:Fun K "_law_tags" "_law_tags" Zax f fd):FnOk P w K mg base CX0 1 f fd ["_law_cell"] ZeK:=by
 refine F.ok Zbc (fun vs H Q E h=>?_) (fun cdv A outer s H vs Q E hr h=>?_)
 ·obtain⟨c,rfl,_⟩:=h;rfl
 obtain⟨c,rfl,q⟩:=h;refine Zr ((Ze Zax).drop 5) (Zj (ZS (Zas (Za (pv 3) (Za (Zy ZcI (pv 3) (pv 5)) (Za (Zy ZcI (pv 5) (pv 3)) Zf)))))) (fun u5 h5 e5=>?_);refine Zr ((Ze Zax).drop 4) (Zd (Zn (i:=5) Zbc.nd rfl (Or.inl rfl) (ZG Zka (pv 1) (Zy ZaT (Zy Zbw (pv 2) Zh) Zh) (fun _ _=>rfl))) h5) (fun u4 h4 e4=>?_);refine Zr ((ZF ((Ze Zax).getD 3 (.Pass ⟨0,0,0,0⟩))).drop 1) (Zj (Zn (i:=3) Zbc.nd rfl (Or.inl rfl) (Zy ZcI (pv 3) (ZG Zka (pv 1) (Zy ZaT (pv 2) Zh) (fun _ _=>rfl))))) (fun u3_1 h3_1 e3_1=>?_);refine Zr ((ZF ((Ze Zax).getD 3 (.Pass ⟨0,0,0,0⟩))).drop 0) (Zd (Zn (i:=2) Zbc.nd rfl (Or.inl rfl) (Zy ZaT (Zy Zal (Zy ZiC (pv 2) Zh) (pv 4)) Zh)) h3_1) (fun u3_0 h3_0 e3_0=>?_);refine Zr ((Ze Zax).drop 3) (Zd (ZaB PassesOwn.never rfl (Zbq rfl (B "range" (by decide)) (Za (Zy Zal Zh (Zy ZaT (pv 2) Zh)) Zf)) (Zt (i:=4) Zbc.nd rfl (Or.inl rfl))
   h3_0) h4) (fun u3 h3 e3=>?_)
 refine Zr ((Ze Zax).drop 2) (Zd (Zn (i:=3) Zbc.nd rfl (Or.inl rfl) Zan) h3) (fun u2 h2 e2=>?_);refine Zr ((Ze Zax).drop 1) (Zd (Zn (i:=2) Zbc.nd rfl (Or.inl rfl) (Zy Zal (Zy ZaT (pv 0) Zh) Zh)) h2) (fun u1 h1 e1=>?_);refine Zr ((Ze Zax).drop 0) (Zd (Zn (i:=1) Zbc.nd rfl (Or.inl rfl) Zan) h1) (fun u0 h0 e0=>?_);refine⟨u0,h0,?_⟩;have m0:=Int.emod_nonneg c (by decide:(1000003:Int)≠0);refine Zo e0 ?_;refine Zo e1 ?_;refine⟨_,rfl,_,_,rfl,rfl,(by show(0:Int)<1000003;decide),_,_,rfl,rfl,?_⟩;show u2 _ [some (.int c),some (.str ABC),some (.int (c % 1000003+11)),none,none,none] H;generalize c % 1000003+11=n0;refine Zo e2 ?_;show u3 _ _ _;refine Zo e3 ?_;have d0:=Int.emod_nonneg n0 (by decide:(7:Int)≠0);have d1:=Int.emod_lt_of_pos n0 (by decide:(0:Int)<7);refine⟨_,rfl,_,_,rfl,rfl,(by show(0:Int)<7;decide),_,_,rfl,rfl,_,rfl,(by show -2 ^ 62<=1+n0 % 7;lia),(by show 1+n0 % 7<2 ^ 62;lia),Zby (lo:=0) (n:=(1+n0 % 7).toNat) (fun i σ H1=>∃(nn:Int)(t:Str)(v4:Option V),σ =[some (.int c),some (.str ABC),some (.int nn),some (.str t),v4,none]/\H1=H/\t.length=i/\ZjI t) ⟨n0,Str.empty,none,rfl,rfl,rfl,fun _ h=>(nomatch h)⟩ ?_ ?_⟩
 ·rintro i σ H1 hi ⟨nn,t,v4,rfl,rfl,hl,hlt⟩;refine Zo e3_0 ?_;refine⟨_,rfl,_,_,rfl,rfl,.inr ⟨by decide,by decide⟩,_,rfl,_,_,rfl,rfl,_,_,rfl,rfl,(by show(0:Int)<2147483629;decide),?_⟩;show u3_1 _ _ _;refine Zo e3_1 ?_;obtain⟨ch,hc,c1,c2⟩:=Zj2 (i:=(nn*69621+(0+(i:Int))) % 2147483629 % 26) (Int.emod_nonneg _ (by decide)) (Int.emod_lt_of_pos _ (by decide));refine⟨_,rfl,_,rfl,_,rfl,_,_,rfl,rfl,(by show(0:Int)<26;decide),_,_,ch,rfl,rfl,(by decide),hc,_,_,rfl,rfl,?_,?_⟩
  ·show t.length+1<=sizeLine;exact ZaA (by lia)
  ·refine⟨_,_,_,rfl,rfl,?_,Zeq hlt fun x hx=>?_⟩
   ·rw[ZdK,hl];rfl
   ·rw[List.mem_singleton.mp hx];exact⟨c1,c2⟩
 ·rintro σ H1 ⟨nn,t,v4,rfl,rfl,hl,hlt⟩;have hl1:1<=t.length:=by lia
  have hl7:t.length<=7:=by lia
  show u4 _ _ _;refine Zo e4 ?_;obtain⟨ch,hc,c1,c2⟩:=Zj2 (i:=nn / 26 % 26) (Int.emod_nonneg _ (by decide)) (Int.emod_lt_of_pos _ (by decide));have lo:ZjI (⟨#[ch]⟩:Str):=fun x hx=>by
   rw[List.mem_singleton.mp hx];exact⟨c1,c2⟩
  have llo:(⟨#[ch]⟩:Str).length=1:=rfl;refine⟨_,rfl,_,rfl,_,_,rfl,rfl,⟨by decide,by decide⟩,_,_,rfl,rfl,(by show(0:Int)<26;decide),_,_,ch,rfl,rfl,(by decide),hc,?_⟩;show u5 _ _ _;refine Zo e5 ?_;refine⟨_,rfl,_,rfl,_,rfl,_,_,rfl,rfl,ZaA (by lia),_,rfl,_,rfl,_,_,rfl,rfl,ZaA (by lia),(by show 3<=sizeLine;decide),fun r hr=>?_⟩;refine q r [t,t++⟨#[ch]⟩,⟨#[ch]⟩++t] _ (Zu.new hr) hr Zb rfl fun x hx=>?_;simp only[List.mem_cons,List.not_mem_nil,or_false] at hx;rcases hx with rfl|rfl|rfl
  ·exact⟨ZeF hlt hl1,by lia⟩
  ·exact⟨ZeF (Zeq hlt lo) (by rw[ZdK];lia),by rw[ZdK];lia⟩
  ·exact⟨ZeF (Zeq lo hlt) (by rw[ZdK];lia),by rw[ZdK];lia⟩
def ZdM:Sp:=fun vs H Q _=>∃(na tg:Addr)(xs:List Int)(md:Int)(ts:List Str),vs=[.ref na,.ref tg,.int md]/\H na=some (.lst (xs.map V.int))/\xs.length<=6/\0<md/\md<100/\H tg=some (.lst (ts.map V.str))/\ts.length=3/\∀(r:Addr)(ys:List V)(p:Pa)(H':Hp),Zu H H'->H' r=some (.tup ys)->RepP H' ys p->p.nk<=1->p.sz<=xs.length->(∀x∈p.tags,x∈ts)->(∀k∈p.ks,0<=k/\k<md)->Q (.ref r) H'
set_option maxHeartbeats 8000000 in
theorem Zg5(B:∀x∈Zcb,mg x=none)(F:Fun K "_law_parts" "_law_parts" ZC f fd):FnOk P w K mg base CX0 1 f fd ["_law_numbers_here","_law_tags_here","_law_modes"] ZdM:=by
 refine F.ok ZaI (fun vs H Q E h=>?_) (fun cdv A outer s H vs Q E hr h=>?_)
 ·obtain⟨na,tg,xs,md,ts,rfl,_⟩:=h;rfl
 obtain⟨na,tg,xs,md,ts,rfl,hna,hx6,m0,m1,htg,ht4,q⟩:=h;refine Zr ((Ze ZC).drop 5) (Zj (ZS (ZaM ZaF rfl (B "tuple" (by decide)) ZbK (Za (ZG Z3 (pv 4) Zh (fun _ _=>rfl)) Zf)))) (fun u5 h5 e5=>?_);refine Zr ((ZF ((Ze ZC).getD 4 (.Pass ⟨0,0,0,0⟩))).drop 1) (Zj (ZV (Zbe PySem.F.plainAttrs_list PySem.F.slot_list_append PySem.F.type_list_append ZD (ZG Z3 (pv 4) (Ze1 ZcP Zh) (fun _ _=>rfl)) (Za (ZK (Za Zan (Za (ZbX PySem.F.plainAttrs_list PySem.F.slot_list_pop PySem.F.type_list_pop Zb3 (pv 3)) (Za (pv 8) Zf)))) Zf)))) (fun u4_1 h4_1 e4_1=>?_);refine Zr ((ZF ((Ze ZC).getD 4 (.Pass ⟨0,0,0,0⟩))).drop 0) (Zd (Zn (i:=8) ZaI.nd rfl (Or.inl rfl) (ZaM ZaF rfl (B "tuple" (by decide)) ZbK (Za (ZbX PySem.F.plainAttrs_list PySem.F.slot_list_pop PySem.F.type_list_pop Zb3 (pv 4)) Zf))) h4_1) (fun u4_0 h4_0 e4_0=>?_);refine Zr ((Ze ZC).drop 4) (Zd (ZgN PassesOwn.never (Z2 Zhe (ZaG Zba rfl (B "len" (by decide)) PySem.boot_len (Za (pv 3) Zf)) Zh (Zaf _))
   h4_0) h5) (fun u4 h4 e4=>?_)
 refine Zr ((ZF ((ZF ((Ze ZC).getD 3 (.Pass ⟨0,0,0,0⟩))).getD 1 (.Pass ⟨0,0,0,0⟩))).drop 1) (Zj (Zn (i:=5) ZaI.nd rfl (Or.inl rfl) (Zy Zal (pv 5) Zh))) (fun u3_1t1 h3_1t1 e3_1t1=>?_);refine Zr ((ZF ((ZF ((Ze ZC).getD 3 (.Pass ⟨0,0,0,0⟩))).getD 1 (.Pass ⟨0,0,0,0⟩))).drop 0) (Zd (ZV (Zbe PySem.F.plainAttrs_list PySem.F.slot_list_append PySem.F.type_list_append ZD (ZG Z3 (pv 4) (Ze1 ZcP Zh) (fun _ _=>rfl)) (Za (ZK (Za Zan (Za (Zy ZaT (Zy Zbw (pv 6) Zh) (pv 2)) Zf))) Zf))) h3_1t1) (fun u3_1t0 h3_1t0 e3_1t0=>?_);refine Zr ((ZhM ((ZF ((Ze ZC).getD 3 (.Pass ⟨0,0,0,0⟩))).getD 1 (.Pass ⟨0,0,0,0⟩))).drop 1) (Zj (ZV (Zbe PySem.F.plainAttrs_list PySem.F.slot_list_append PySem.F.type_list_append ZD (pv 4) (Za (Zas Zf) Zf)))) (fun u3_1e1 h3_1e1 e3_1e1=>?_);refine Zr ((ZhM ((ZF ((Ze ZC).getD 3 (.Pass ⟨0,0,0,0⟩))).getD 1 (.Pass ⟨0,0,0,0⟩))).drop 0) (Zd (ZV (Zbe PySem.F.plainAttrs_list PySem.F.slot_list_append PySem.F.type_list_append ZD (pv 3) (Za (ZG Z3 (pv 1) (Zy ZaT (Zy Zbw (pv 6) Zh) Zh) (fun _ _=>rfl)) Zf))) h3_1e1) (fun u3_1e0 h3_1e0 e3_1e0=>?_);refine Zr ((ZF ((Ze ZC).getD 3 (.Pass ⟨0,0,0,0⟩))).drop 1) (Zj (Zbi (PW.pt (Zlg (Z2 Zcr (Zy ZaT (Zy Zbw (pv 6) Zh) Zh) Zh (Zaf _)) (ZkE (Z2 Zkq (pv 5) Zh (Zaf _)))))
   h3_1t0
   h3_1e0)) (fun u3_1 h3_1 e3_1=>?_)
 refine Zr ((ZF ((ZF ((Ze ZC).getD 3 (.Pass ⟨0,0,0,0⟩))).getD 0 (.Pass ⟨0,0,0,0⟩))).drop 1) (Zj (ZV (Zbe PySem.F.plainAttrs_list PySem.F.slot_list_append PySem.F.type_list_append ZD (ZG Z3 (pv 4) (Ze1 ZcP Zh) (fun _ _=>rfl)) (Za (ZK (Za Zan (Za (ZbX PySem.F.plainAttrs_list PySem.F.slot_list_pop PySem.F.type_list_pop Zb3 (pv 3)) (Za (pv 8) Zf)))) Zf)))) (fun u3_0_1 h3_0_1 e3_0_1=>?_);refine Zr ((ZF ((ZF ((Ze ZC).getD 3 (.Pass ⟨0,0,0,0⟩))).getD 0 (.Pass ⟨0,0,0,0⟩))).drop 0) (Zd (Zn (i:=8) ZaI.nd rfl (Or.inl rfl) (ZaM ZaF rfl (B "tuple" (by decide)) ZbK (Za (ZbX PySem.F.plainAttrs_list PySem.F.slot_list_pop PySem.F.type_list_pop Zb3 (pv 4)) Zf))) h3_0_1) (fun u3_0_0 h3_0_0 e3_0_0=>?_);refine Zr ((ZF ((Ze ZC).getD 3 (.Pass ⟨0,0,0,0⟩))).drop 0) (Zd (ZaB PassesOwn.never rfl (Zbq rfl (B "range" (by decide)) (Za (ZaG (Zfr rfl) rfl (B "min" (by decide)) Zki (Za (ZaG Zba rfl (B "len" (by decide)) PySem.boot_len (Za (pv 3) Zf)) (Za (ZG Z3 (Zas (Za Zh (Za Zh (Za Zh (Za Zh Zf))))) (Zy ZaT (pv 6) Zh) (fun _ _=>rfl)) Zf))) Zf)) (Zt (i:=7) ZaI.nd rfl (Or.inl rfl))
   h3_0_0) h3_1) (fun u3_0 h3_0 e3_0=>?_)
 refine Zr ((Ze ZC).drop 3) (Zd (ZaB PassesOwn.never rfl (ZbL (pv 0)) (Zt (i:=6) ZaI.nd rfl (Or.inl rfl))
   h3_0) h4) (fun u3 h3 e3=>?_)
 refine Zr ((Ze ZC).drop 2) (Zd (Zn (i:=5) ZaI.nd rfl (Or.inl rfl) Zh) h3) (fun u2 h2 e2=>?_);refine Zr ((Ze ZC).drop 1) (Zd (Zn (i:=4) ZaI.nd rfl (Or.inl rfl) (Zas (Za (Zas Zf) Zf))) h2) (fun u1 h1 e1=>?_);refine Zr ((Ze ZC).drop 0) (Zd (Zn (i:=3) ZaI.nd rfl (Or.inl rfl) (Zas Zf)) h1) (fun u0 h0 e0=>?_);refine⟨u0,h0,?_⟩;refine Zo e0 ?_;refine⟨by decide,fun T hT=>?_⟩;show u1 _ _ _;refine Zo e1 ?_;refine⟨by decide,fun a0 h0=>⟨(by show 1<=sizeLine;decide),fun R hR=>?_⟩⟩;have g0:=PgS.start2 hT h0 hR;show u2 _ _ _;refine Zo e2 ?_;show u3 _ _ _;refine Zo e3 ?_;generalize upd (upd (upd H T (.lst [])) a0 (.lst [])) R (.lst [.ref a0])=H1 at g0 ⊢;refine⟨_,rfl,na,rfl,⟨_,SqL.of (g0.sm _ _ hna)⟩,Zbu (K:=K) (a:=na) (xs:=xs.map V.int) (fun i σ H2=>∃(as:List Addr)(gs:List Pa)(os:List Str)(kb:Nat)(v7 v8 v9:Option V),σ =[some (.ref na),some (.ref tg),some (.int md),some (.ref T),some (.ref R),some (.int (kb:Int)),v7,v8,v9]/\PgS H H2 R T as gs os/\PgB ts md gs os kb i/\kb<=1)
  ⟨_,_,_,0,none,none,none,rfl,g0,⟨Nat.le_refl _,Nat.zero_le _,fun g hg=>by rw[List.mem_singleton.mp hg];exact fun _ h=>(nomatch h),fun _ h=>(nomatch h),fun g hg=>by rw[List.mem_singleton.mp hg];exact fun _ h=>(nomatch h)⟩,Nat.zero_le _⟩ ?_ ?_ ?_⟩
 ·rintro i σ H2 _ ⟨_,_,_,_,_,_,_,_,hg,_⟩;exact SqL.of (hg.sm _ _ hna)
 ·rintro i x σ H2 hx ⟨as,gs,os,kb,v7,v8,v9,rfl,hg,hb,hkm⟩;obtain⟨hil,hix⟩:=List.getElem?_eq_some_iff.mp hx;rw[List.length_map] at hil;obtain rfl:x=V.int xs[i]:=by
   rw[<- hix,List.getElem_map]
  generalize xs[i]=num;have e0':=Int.emod_nonneg num (by decide:(4:Int)≠0);have e1':=Int.emod_lt_of_pos num (by decide:(0:Int)<4);obtain⟨cl,hcl⟩:=ZiE (ns:=[0,0,1,2]) e0' e1';have cl0:0<=cl:=by
   generalize num % 4=z at e0' e1' hcl;rcases(show z=0\/z=1\/z=2\/z=3 by lia) with rfl|rfl|rfl|rfl
   ·injection hcl with hcl;injection hcl with hcl;lia
   ·injection hcl with hcl;injection hcl with hcl;lia
   ·injection hcl with hcl;injection hcl with hcl;lia
   ·injection hcl with hcl;injection hcl with hcl;lia
  refine Zo e3_0 ?_;refine⟨_,rfl,T,_,rfl,.inl (SqL.of hg.hT),(by show 4<=sizeLine;decide),fun L hL=>?_⟩;have sL:Zu H2 (upd H2 L (.lst [.int 0,.int 0,.int 1,.int 2])):=Zu.new hL;have hgL:PgS H (upd H2 L (.lst [.int 0,.int 0,.int 1,.int 2])) R T as gs os:=hg.more sL;refine⟨_,rfl,_,_,rfl,rfl,(by show(0:Int)<4;decide),L,_,_,_,rfl,rfl,SqL.of Zb,hcl,_,_,rfl,?_⟩;generalize upd H2 L (.lst [.int 0,.int 0,.int 1,.int 2])=H3 at sL hgL ⊢;clear hg sL hL;have hbo:os.length<=6:=by
   have:=hb.sz;lia
  have hol:((os.map V.str).reverse.length:Int)=(os.length:Int):=by rw[List.length_reverse,List.length_map]
  obtain⟨c,hc,hcl2⟩:∃c:Nat,(if cl<((os.map V.str).reverse.length:Int) then cl else((os.map V.str).reverse.length:Int))=(c:Int)/\c<=os.length:=by
   rw[hol];by_cases z:cl<(os.length:Int)
   ·exact⟨cl.toNat,by rw[if_pos z];lia,by lia⟩
   ·exact⟨os.length,by rw[if_neg z],Nat.le_refl _⟩
  refine⟨(c:Int),(congrArg (fun z=>[V.int z]) hc),by lia,by lia,Zby (lo:=0) (n:=c) (fun j σ H4=>∃(as:List Addr)(gs:List Pa)(os':List Str)(v8 v9:Option V),σ =[some (.ref na),some (.ref tg),some (.int md),some (.ref T),some (.ref R),some (.int (kb:Int)),some (.int num),v8,v9]/\PgS H H4 R T as gs os'/\PgB ts md gs os' kb i/\os'.length+j=os.length)
   ⟨as,gs,os,v8,v9,rfl,hgL,hb,rfl⟩ ?_ ?_⟩
  ·rintro j σ H4 hj ⟨as,gs,os',v8,v9,rfl,hg,hb,hoj⟩;cases os' with
   | nil =>
    rw[List.length_nil] at hoj;lia
   | cons t os' =>
    obtain⟨b0,b1,a2,g0,g1,g2,vs0,vs1,rfl,rfl,h00,r00,h11,r11,hRs,hTs⟩:=hg.two;have hv1:=r11.length;have hsz1:g1.sz<=6:=by
     have:=hb.sz;simp only[List.map_cons,List.sum_cons] at this;lia
    refine Zo e3_0_0 ?_;refine⟨_,rfl,.inl ⟨rfl,_,SqL.of hRs⟩,R,_,_,rfl,rfl,hRs,ZaN _ _,?_⟩;rw[ZaL];have h0R:(upd H4 R (.lst ((b1::a2).map V.ref).reverse)) b0=some (.lst vs0):=by
     rw[Zc (hg.nR b0 (by simp))];exact h00
    refine⟨b0,vs0,rfl,.inl ⟨SqL.of h0R,fun l hl=>?_⟩⟩;refine Zo e3_0_1 ?_;have hRb:(upd (upd H4 R (.lst ((b1::a2).map V.ref).reverse)) l (.tup vs0)) R=some (.lst ((a2.map V.ref).reverse ++ [.ref b1])):=by
     rw[Zc (Zk hl).1.symm,Zb,List.map_cons,List.reverse_cons]
    have h1b:(upd (upd H4 R (.lst ((b1::a2).map V.ref).reverse)) l (.tup vs0)) b1=some (.lst vs1):=by
     rw[Zc (Zm h11 (Zk hl).2),Zc (hg.nR b1 (by simp))];exact h11
    have hTb:(upd (upd H4 R (.lst ((b1::a2).map V.ref).reverse)) l (.tup vs0)) T=some (.lst ((os'.map V.str).reverse ++ [.str t])):=by
     rw[Zc (Zm hg.hT (Zk hl).2),Zc hg.RT.symm];exact hTs
    refine⟨_,rfl,1,rfl,R,_,-1,.ref b1,rfl,rfl,SqL.of hRb,ZbH _ _,.inl ⟨rfl,_,SqL.of h1b⟩,_,rfl,.inl ⟨rfl,_,SqL.of hTb⟩,T,_,_,rfl,rfl,hTb,ZaN _ _,?_⟩;rw[ZaL];refine⟨_,rfl,(by show 3<=sizeLine;decide),fun l2 hl2=>?_⟩;obtain⟨_,_,_,_,z5,z6⟩:=hg.shutting h00 r00 h11 r11 hl hl2;refine⟨b1,_,_,rfl,rfl,z5,Zx (by lia),?_⟩;rw[List.length_cons] at hoj;exact⟨_,_,os',_,_,rfl,z6,hb.shut,by lia⟩
  ·rintro σ H4 ⟨as,gs,os',v8,v9,rfl,hg,hb,hoj⟩;clear hgL hoj;have hgl:=hg.gl;have hb1:=hb.sz;have hal:as.length=gs.length:=Paired.length hg.rows;have hol:os'.length<=6:=by lia
   show u3_1 _ _ _;refine Zo e3_1 ?_;have hb1':(gs.map Pa.sz).sum+os'.length<=i:=hb1;refine via (t:=u3_1e0) (R:=fun σ H5=>σ =[some (.ref na),some (.ref tg),some (.int md),some (.ref T),some (.ref R),some (.int (kb:Int)),some (.int num),v8,v9]/\H5=H4) ?_ fun fin=>?_
   ·rintro σ H5 ⟨rfl,rfl⟩;obtain⟨k,hk,hkl⟩:=Zmw (num / 12) (n:=3) (by decide);have hkl':k<ts.length:=by lia
    have hat:atI (ts.map V.str) (num / 12 % 3)=some (.str ts[k]):=by
     have:=ZiY (ws:=ts) (n:=k) hkl';rw[<- hk] at this;exact this
    refine Zo e3_1e0 ?_;refine⟨_,rfl,.inl ⟨rfl,_,SqL.of hg.hT⟩,_,rfl,_,rfl,_,_,rfl,rfl,⟨by decide,by decide⟩,_,_,rfl,rfl,(by show(0:Int)<3;decide),tg,_,_,_,rfl,rfl,SqL.of (hg.sm _ _ htg),hat,T,_,_,rfl,rfl,hg.hT,Zx (by rw[List.length_reverse,List.length_map];lia),?_⟩;have hRa2:(upd H5 T (.lst ((os'.map V.str).reverse ++ [.str ts[k]]))) R=some (.lst (as.map V.ref).reverse):=by
     rw[Zc hg.RT];exact hg.hR
    show u3_1e1 _ _ _;refine Zo e3_1e1 ?_;refine⟨_,rfl,.inl ⟨rfl,_,SqL.of hRa2⟩,by decide,fun l hl=>?_⟩;obtain⟨_,hl1⟩:=Zk hl;have hRb:(upd (upd H5 T (.lst ((os'.map V.str).reverse ++ [.str ts[k]]))) l (.lst [])) R=some (.lst (as.map V.ref).reverse):=by
     rw[Zc (Zm hg.hR hl1)];exact hRa2
    refine⟨R,_,_,rfl,rfl,hRb,Zx (by rw[List.length_reverse,List.length_map];lia),?_⟩;refine⟨_,_,_,kb,_,_,_,rfl,hg.opened hl,⟨?_,?_,fun g hg'=>?_,fun x hx=>?_,fun g hg'=>?_⟩,hkm⟩
    ·simp only[List.map_cons,List.sum_cons,List.length_cons,Pa.sz];lia
    ·simp only[List.map_cons,List.sum_cons,Pa.nk];have:=hb.nk;lia
    ·rcases List.mem_cons.mp hg' with rfl|hg'
     ·exact fun _ h=>(nomatch h)
     ·exact hb.tg g hg'
    ·rcases List.mem_cons.mp hx with rfl|hx
     ·exact List.getElem_mem hkl'
     ·exact hb.op x hx
    ·rcases List.mem_cons.mp hg' with rfl|hg'
     ·exact fun _ h=>(nomatch h)
     ·exact hb.ks g hg'
   ·refine⟨_,rfl,_,_,rfl,rfl,⟨by decide,by decide⟩,_,_,rfl,rfl,(by show(0:Int)<2;decide),rfl,_,rfl,Zd8 (fun c1=>?_) (fun c1=>ZeT (fin _ _ ⟨rfl,rfl⟩))⟩;refine⟨_,rfl,_,_,rfl,rfl,_,rfl,Zd8 (fun c2=>?_) (fun c2=>fin _ _ ⟨rfl,rfl⟩)⟩;have c2:(kb:Int)<1:=of_decide_eq_true c2;show u3_1t0 _ _ _;refine Zo e3_1t0 ?_;have hrows:=hg.rows;cases gs with
    | nil=>simp at hgl
    | cons g0 gs =>
     cases hrows with
     | @cons b0 _ a1 _ r0 hrows =>
      obtain⟨vs0,h00,r00⟩:=r0;have hRl:H4 R=some (.lst ((a1.map V.ref).reverse ++ [.ref b0])):=by rw[hg.hR,List.map_cons,List.reverse_cons]
      have hvl:=r00.length;have hsz0:g0.sz<=6:=by
       simp only[List.map_cons,List.sum_cons] at hb1;lia
      refine⟨_,rfl,1,rfl,R,_,-1,.ref b0,rfl,rfl,SqL.of hRl,ZbH _ _,.inl ⟨rfl,_,SqL.of h00⟩,_,rfl,_,_,rfl,rfl,⟨by decide,by decide⟩,_,rfl,_,_,rfl,rfl,m0,(by show 2<=sizeLine;decide),fun pt hpt=>?_⟩;have s5:Zu H4 (upd H4 pt (.tup [.str "kids",.int (num / 12 % md)])):=Zu.new hpt;have npb:pt≠b0:=fun z=>by rw[z,h00] at hpt;cases hpt
      refine⟨b0,_,_,rfl,rfl,s5 _ _ h00,Zx (by lia),?_⟩;show u3_1t1 _ _ _;refine Zo e3_1t1 ?_;refine⟨_,rfl,_,_,rfl,rfl,?_⟩;refine⟨_,_,_,kb+1,_,_,_,rfl,hg.put (q:=.kids (num / 12 % md) .nil) h00 r00 s5 (.kids (by rw[Zc npb];exact Zb) .nil),⟨?_,?_,fun g hg'=>?_,hb.op,fun g hg'=>?_⟩,by lia⟩
      ·simp only[List.map_cons,List.sum_cons,Pa.Zeg,Pa.sz] at hb1 ⊢;lia
      ·have hb2:=hb.nk;simp only[List.map_cons,List.sum_cons,Pa.ZgU,Pa.nk] at hb2 ⊢;lia
      ·rcases List.mem_cons.mp hg' with rfl|hg'
       ·intro x hx;rw[Pa.Zc8] at hx;rcases List.mem_append.mp hx with hx|hx
        ·exact hb.tg g0 (List.mem_cons_self ..) x hx
        ·cases hx
       ·exact hb.tg g (List.mem_cons_of_mem _ hg')
      ·rcases List.mem_cons.mp hg' with rfl|hg'
       ·intro x hx;rw[Pa.Zbf] at hx;rcases List.mem_append.mp hx with hx|hx
        ·exact hb.ks g0 (List.mem_cons_self ..) x hx
        ·have hx:x ∈ [num / 12 % md]:=hx;rw[List.mem_singleton.mp hx];exact⟨Int.emod_nonneg _ (by lia),Int.emod_lt_of_pos _ m0⟩
       ·exact hb.ks g (List.mem_cons_of_mem _ hg')
 ·rintro σ H2 ⟨as,gs,os,kb,v7,v8,v9,rfl,hg,hb,hkm⟩;rw[List.length_map] at hb;show u4 _ _ _;refine Zo e4 ?_
  let W:Nat->St->Hp->Prop:=fun n σ H3=>∃(as:List Addr)(gs:List Pa)(os:List Str)(v9:Option V),σ =[some (.ref na),some (.ref tg),some (.int md),some (.ref T),some (.ref R),some (.int (kb:Int)),v7,v8,v9]/\PgS H H3 R T as gs os/\PgB ts md gs os kb xs.length/\n=os.length
  refine⟨W,⟨_,as,gs,os,v9,rfl,hg,hb,rfl⟩,?_⟩;clear hb hg;rintro n σ H3 ⟨as,gs,os,v9,rfl,hg,hb,rfl⟩;refine⟨_,rfl,T,_,rfl,.inl (SqL.of hg.hT),_,_,rfl,rfl,_,rfl,Zd8 (fun cc=>?_) (fun cc=>?_)⟩
  ·cases os with
   | nil=>exact absurd (of_decide_eq_true cc) (by decide)
   | cons t os =>
    obtain⟨b0,b1,a2,g0,g1,g2,vs0,vs1,rfl,rfl,h00,r00,h11,r11,hRs,hTs⟩:=hg.two;have hv1:=r11.length;have hsz1:g1.sz<=6:=by
     have:=hb.sz;simp only[List.map_cons,List.sum_cons] at this;lia
    refine⟨fun σ' H'=>∃m',m'<(t::os).length/\W m' σ' H',fun _ _ h=>h,?_⟩;refine Zo e4_0 ?_;refine⟨_,rfl,.inl ⟨rfl,_,SqL.of hRs⟩,R,_,_,rfl,rfl,hRs,ZaN _ _,?_⟩;rw[ZaL];have h0R:(upd H3 R (.lst ((b1::a2).map V.ref).reverse)) b0=some (.lst vs0):=by
     rw[Zc (hg.nR b0 (by simp))];exact h00
    refine⟨b0,vs0,rfl,.inl ⟨SqL.of h0R,fun l hl=>?_⟩⟩;refine Zo e4_1 ?_;have hRb:(upd (upd H3 R (.lst ((b1::a2).map V.ref).reverse)) l (.tup vs0)) R=some (.lst ((a2.map V.ref).reverse ++ [.ref b1])):=by
     rw[Zc (Zk hl).1.symm,Zb,List.map_cons,List.reverse_cons]
    have h1b:(upd (upd H3 R (.lst ((b1::a2).map V.ref).reverse)) l (.tup vs0)) b1=some (.lst vs1):=by
     rw[Zc (Zm h11 (Zk hl).2),Zc (hg.nR b1 (by simp))];exact h11
    have hTb:(upd (upd H3 R (.lst ((b1::a2).map V.ref).reverse)) l (.tup vs0)) T=some (.lst ((os.map V.str).reverse ++ [.str t])):=by
     rw[Zc (Zm hg.hT (Zk hl).2),Zc hg.RT.symm];exact hTs
    refine⟨_,rfl,1,rfl,R,_,-1,.ref b1,rfl,rfl,SqL.of hRb,ZbH _ _,.inl ⟨rfl,_,SqL.of h1b⟩,_,rfl,.inl ⟨rfl,_,SqL.of hTb⟩,T,_,_,rfl,rfl,hTb,ZaN _ _,?_⟩;rw[ZaL];refine⟨_,rfl,(by show 3<=sizeLine;decide),fun l2 hl2=>?_⟩;obtain⟨_,_,_,_,z5,z6⟩:=hg.shutting h00 r00 h11 r11 hl hl2;refine⟨b1,_,_,rfl,rfl,z5,Zx (by lia),?_⟩;exact⟨os.length,by rw[List.length_cons];lia,_,_,os,_,rfl,z6,hb.shut,rfl⟩
  ·cases os with
   | cons t os =>
    refine absurd (decide_eq_true ?_) cc;show(0:Int)<((((t::os).map V.str).reverse.length:Nat):Int);rw[List.length_reverse,List.length_map,List.length_cons];lia
   | nil =>
    have hgl:=hg.gl;have hrows:=hg.rows;cases gs with
    | nil=>simp at hgl
    | cons g gs =>
     obtain rfl:gs=[]:=List.eq_nil_of_length_eq_zero (by simpa using hgl);cases hrows with
     | @cons b _ _ _ r hrows =>
      cases hrows;obtain⟨vs,hbb,hgr⟩:=r;refine Zo e5 ?_;refine⟨_,rfl,R,_,0,.ref b,rfl,rfl,SqL.of hg.hR,rfl,b,vs,rfl,.inl ⟨SqL.of hbb,fun r hr=>?_⟩⟩;have h1:=hb.sz;have h2:=hb.nk;simp only[List.map_cons,List.map_nil,List.sum_cons,List.sum_nil,List.length_nil] at h1 h2;exact q r vs g _ (hg.sm.upd_new (hg.sm.free hr)) Zb (hgr.mono (TK.new hr)) (by lia) (by lia) (hb.tg g (List.mem_cons_self ..)) (hb.ks g (List.mem_cons_self ..))
def RkL(H:Hp)(m:List (List Key×V))(rs:List (Int×Str×Pa)):Prop:=Paired (fun(kv:List Key×V)(r:Int×Str×Pa)=>kv.1=Za0 r.1 r.2.1/\∃q ys,kv.2=V.ref q/\H q=some (.tup ys)/\RepP H ys r.2.2) m rs
theorem RkL.tk{H H':Hp}(k:TK H H'):∀{m:List (List Key×V)}{rs:List (Int×Str×Pa)},RkL H m rs->RkL H' m rs
 | _,_,.nil=>.nil
 | _,_,.cons ⟨e,q,ys,h1,h2,h3⟩ t=>.cons ⟨e,q,ys,h1,k _ _ h2,h3.mono k⟩ (RkL.tk k t)
structure RsOk(tt:List Str)(md mo:Int)(rs:List (Int×Str×Pa)):Prop where
 nd:(rs.map fun r=>Za0 r.1 r.2.1).Nodup
 ok:∀r∈rs,r.2.1∈tt/\(r.2.2.nk:Int)<=mo/\r.2.2.sz<=6/\(∀x∈r.2.2.tags,x∈tt)/\∀k∈r.2.2.ks,0<=k/\k<md
theorem RkL.keys{H:Hp}:∀{m:List (List Key×V)}{rs:List (Int×Str×Pa)},RkL H m rs->m.map (·.1)=rs.map fun r=>Za0 r.1 r.2.1
 | _,_,.nil=>rfl
 | _,_,.cons ⟨e,_⟩ t=>by rw[List.map_cons,List.map_cons,e,RkL.keys t]
theorem RkL.put{H:Hp}{m:List (List Key×V)}{rs:List (Int×Str×Pa)}{tt:List Str}(h:RkL H m rs){md mo:Int}(ho:RsOk tt md mo rs){i:Int}{t:Str}{p:Pa}{q:Addr}{ys:List V}(hq:H q=some (.tup ys))(hp:RepP H ys p)(hi:t∈tt/\(p.nk:Int)<=mo/\p.sz<=6/\(∀x∈p.tags,x∈tt)/\∀k∈p.ks,0<=k/\k<md):∃rs',RkL H (putK m (Za0 i t) (.ref q)) rs'/\RsOk tt md mo rs'/\rs'.length<=rs.length+1:=by
 unfold putK;by_cases c:(m.any fun kv=>decide (kv.1=Za0 i t))=true
 ·rw[if_pos c]
  let g:Int×Str×Pa->Int×Str×Pa:=fun r=>if Za0 r.1 r.2.1=Za0 i t then(r.1,r.2.1,p) else r
  have hg:∀r,(fun r:Int×Str×Pa=>Za0 r.1 r.2.1) (g r)=Za0 r.1 r.2.1:=fun r=>by
   show Za0 (g r).1 (g r).2.1=_;by_cases z:Za0 r.1 r.2.1=Za0 i t
   ·simp only[g,if_pos z]
   ·simp only[g,if_neg z]
  refine⟨rs.map g,?_,⟨?_,fun r hr=>?_⟩,by rw[List.length_map];lia⟩
  ·clear c ho
   induction h with
   | nil=>exact .nil
   | @cons kv r m rs hh tl ih =>
    refine .cons ?_ ih;obtain⟨e,q',ys',e1,e2,e3⟩:=hh;by_cases z:kv.1=Za0 i t
    ·have z':Za0 r.1 r.2.1=Za0 i t:=by rw[<- e];exact z
     simp only[g,if_pos z,if_pos z'];exact⟨e,q,ys,rfl,hq,hp⟩
    ·have z' : ¬ Za0 r.1 r.2.1=Za0 i t:=by rw[<- e];exact z
     simp only[g,if_neg z,if_neg z'];exact⟨e,q',ys',e1,e2,e3⟩
  ·rw[List.map_map];have:((fun r:Int×Str×Pa=>Za0 r.1 r.2.1) ∘ g)=fun r=>Za0 r.1 r.2.1:=funext hg;rw[this];exact ho.nd
  ·obtain⟨r0,hr0,rfl⟩:=List.mem_map.mp hr;have:=ho.ok r0 hr0;by_cases z:Za0 r0.1 r0.2.1=Za0 i t
   ·simp only[g,if_pos z];exact⟨this.1,hi.2⟩
   ·simp only[g,if_neg z];exact this
 ·rw[if_neg c];refine⟨rs ++ [(i,t,p)],Paired.app h (.cons ⟨rfl,q,ys,rfl,hq,hp⟩ .nil),⟨?_,fun r hr=>?_⟩,by rw[List.length_append];exact Nat.le_refl _⟩
  ·rw[List.map_append];refine List.nodup_append.mpr ⟨ho.nd,by simp,fun x hx y hy e=>?_⟩;rw[<- h.keys] at hx;obtain⟨kv,hkv,rfl⟩:=List.mem_map.mp hx;have e2:y=Za0 i t:=by simpa using hy
   refine c (List.any_eq_true.mpr ⟨kv,hkv,decide_eq_true (e.trans e2)⟩)
  ·rcases List.mem_append.mp hr with hr|hr
   ·exact ho.ok r hr
   ·rw[List.mem_singleton.mp hr];exact hi
theorem Zk8(xs:List V)(n:Nat):ZdU xs none (some (n:Int))=xs.take n:=ZgL xs n
theorem ZkO(xs:List V)(i j:Nat)(h:i<=j)(hj:j<=xs.length):ZdU xs (some (i:Int)) (some (j:Int))=(xs.drop i).take (j-i):=by
 unfold ZdU;rw[HT.Zeo,HT.Zeo,Nat.min_eq_left hj,Nat.min_eq_left (by lia)]
def ZeS:Sp:=fun vs H Q _=>∃(na tg:Addr)(xs:List Int)(md:Int)(ts:List Str),vs=[.ref na,.ref tg,.int md]/\H na=some (.lst (xs.map V.int))/\xs.length=30/\(∀x∈xs,0<=x)/\0<md/\md<=3/\H tg=some (.lst (ts.map V.str))/\ts.length=3 /\
 ∀(d:Addr)(m:List (List Key×V))(rs:List (Int×Str×Pa))(H':Hp),Zu H H'->H d=none->H' d=some (.dT m)->RkL H' m rs->RsOk ts md 1 rs->rs.length<=12->Q (.ref d) H'
set_option maxHeartbeats 4000000 in
theorem Ziz(B:∀x∈Zcb,mg x=none)(g_l_parts:Has P w K mg base "_law_parts" ["_law_numbers_here","_law_tags_here","_law_modes"] 1 ZdM) (F:Fun K "_law_ways" "_law_ways" Zaq f fd):FnOk P w K mg base CX0 2 f fd ["_law_numbers_here","_law_tags_here","_law_modes"] ZeS:=by
 refine F.ok Zbo (fun vs H Q E h=>?_) (fun cdv A outer s H vs Q E hr h=>?_)
 ·obtain⟨na,tg,xs,md,ts,rfl,_⟩:=h;rfl
 obtain⟨na,tg,xs,md,ts,rfl,hna,hxl,hx0,m0,m1,htg,ht4,q⟩:=h;have hu1:(A.deeper (PyProof.Rows.envOfC (Str.ofString "_law_ways") (Zg Zaq) s.heap.objs.size f cdv)).units+1<cLine:=by have:=hr.un;lia
 refine Zr ((Ze Zaq).drop 3) (Zj (ZS (pv 3))) (fun u3 h3 e3=>?_);refine Zr ((ZF ((ZF ((Ze Zaq).getD 2 (.Pass ⟨0,0,0,0⟩))).getD 0 (.Pass ⟨0,0,0,0⟩))).drop 2) (Zj (Zn (i:=4) Zbo.nd rfl (Or.inl rfl) (Zy Zal (pv 4) Zh))) (fun u2_0_2 h2_0_2 e2_0_2=>?_);refine Zr ((ZF ((ZF ((Ze Zaq).getD 2 (.Pass ⟨0,0,0,0⟩))).getD 0 (.Pass ⟨0,0,0,0⟩))).drop 1) (Zd (Zbi (Z2 Zhe (Zy ZaT (pv 7) Zh) Zh (Zaf _))
   (Zj (ZdD hu1 (pv 3) (ZK (Za (pv 5) (Za (pv 6) Zf))) (ZR g_l_parts hr rfl (Za (Zc2 ZiJ (pv 0) (ZcF (Zy Zal (pv 4) Zh)) (ZcF (Zy Zal (Zy Zal (pv 4) Zh) (Zy ZaT (Zy Zbw (pv 7) Zh) Zh)))) (Za (pv 1) (Za (pv 2) Zf)))) rfl))
   ZaR) h2_0_2) (fun u2_0_1 h2_0_1 e2_0_1=>?_)
 refine Zr ((ZF ((ZF ((Ze Zaq).getD 2 (.Pass ⟨0,0,0,0⟩))).getD 0 (.Pass ⟨0,0,0,0⟩))).drop 0) (Zd (Zn (i:=7) Zbo.nd rfl (Or.inl rfl) (ZG Z3 (pv 0) (pv 4) (fun _ _=>rfl))) h2_0_1) (fun u2_0_0 h2_0_0 e2_0_0=>?_);refine Zr ((ZF ((Ze Zaq).getD 2 (.Pass ⟨0,0,0,0⟩))).drop 0) (Zj (ZaB PassesOwn.never rfl (ZbL (Zc2 ZiJ (pv 1) Zdj (ZcF Zh))) (Zt (i:=6) Zbo.nd rfl (Or.inl rfl))
   h2_0_0)) (fun u2_0 h2_0 e2_0=>?_)
 refine Zr ((Ze Zaq).drop 2) (Zd (ZaB PassesOwn.never rfl (Zbq rfl (B "range" (by decide)) (Za (pv 2) Zf)) (Zt (i:=5) Zbo.nd rfl (Or.inl rfl))
   h2_0) h3) (fun u2 h2 e2=>?_)
 refine Zr ((Ze Zaq).drop 1) (Zd (Zn (i:=4) Zbo.nd rfl (Or.inl rfl) Zh) h2) (fun u1 h1 e1=>?_);refine Zr ((Ze Zaq).drop 0) (Zd (Zn (i:=3) Zbo.nd rfl (Or.inl rfl) ZjM) h1) (fun u0 h0 e0=>?_);refine⟨u0,h0,?_⟩;refine Zo e0 ?_;refine fun d hd=>?_;have s0:Zu H (upd H d (.dT [])):=Zu.new hd;have hd0:(upd H d (.dT [])) d=some (.dT []):=Zb;show u1 _ _ _;refine Zo e1 ?_;show u2 _ _ _;refine Zo e2 ?_;generalize upd H d (.dT [])=H0 at s0 hd0 ⊢;refine⟨_,rfl,md,rfl,by lia,by lia,Zby (lo:=0) (n:=md.toNat) (fun i σ H1=>∃(v6 v7 v8:Option V)(m:List (List Key×V))(rs:List (Int×Str×Pa)),σ =[some (.ref na),some (.ref tg),some (.int md),some (.ref d),some (.int ((10*i:Nat):Int)),v6,v7,v8]/\Zu H H1/\H1 d=some (.dT m)/\RkL H1 m rs/\RsOk ts md 1 rs/\rs.length<=2*i)
  ⟨none,none,none,[],[],rfl,s0,hd0,.nil,⟨by simp,fun _ h=>(nomatch h)⟩,Nat.le_refl _⟩ ?_ ?_⟩
 ·rintro i σ H1 hi ⟨v6,v7,v8,m,rs,rfl,s1,hd1,hrk,hro,hrl⟩;have hi4:i<3:=by lia
  refine Zo e2_0 ?_;refine⟨_,rfl,_,rfl,tg,_,rfl,SqL.of (s1 _ _ htg),fun L hL=>?_⟩;have sL:Zu H1 (upd H1 L (.lst (ZdU (ts.map V.str) none (some 2)))):=Zu.new hL;have hLL:(upd H1 L (.lst (ZdU (ts.map V.str) none (some 2)))) L=some (.lst ((ts.take 2).map V.str)):=by
   rw[Zb,show(2:Int)=((2:Nat):Int) from rfl,Zk8,List.map_take]
  generalize upd H1 L (.lst (ZdU (ts.map V.str) none (some 2)))=H2 at sL hLL ⊢;have hL0:H L=none:=s1.free hL;have ndL:d≠L:=fun z=>by rw[<- z,hd1] at hL;cases hL
  refine⟨L,rfl,⟨_,SqL.of hLL⟩,Zbu (K:=K) (a:=L) (xs:=(ts.take 2).map V.str) (fun j σ H3=>∃(v7 v8:Option V)(m:List (List Key×V))(rs:List (Int×Str×Pa)),σ =[some (.ref na),some (.ref tg),some (.int md),some (.ref d),some (.int ((10*i+5*j:Nat):Int)),some (.int (0+(i:Int))),v7,v8]/\Zu H H3/\H3 L=some (.lst ((ts.take 2).map V.str))/\H3 d=some (.dT m)/\RkL H3 m rs/\RsOk ts md 1 rs/\rs.length<=2*i+j)
   ⟨v7,v8,m,rs,rfl,s1.trans sL,hLL,sL _ _ hd1,hrk.tk sL.tk,hro,hrl⟩ ?_ ?_ ?_⟩
  ·rintro j σ H3 _ ⟨_,_,_,_,_,_,h,_⟩;exact SqL.of h
  ·rintro j x σ H3 hx ⟨v7,v8,m,rs,rfl,s3,hL3,hd3,hrk,hro,hrl⟩;rw[List.getElem?_map] at hx;obtain⟨t,ht,rfl⟩:=Option.map_eq_some_iff.mp hx;have hj3:j<2:=by
    have:=(List.getElem?_eq_some_iff.mp ht).1;rw[List.length_take] at this;lia
   have htm:t∈ts:=List.mem_of_mem_take (List.mem_of_getElem? ht);have hat:10*i+5*j<xs.length:=by lia
   have hat6:10*i+5*j+5<=xs.length:=by lia
   have hna3:=s3 _ _ hna;have g0:atI (xs.map V.int) (((10*i+5*j:Nat)):Int)=some (.int (xs[10*i+5*j])):=Za5 (by rw[List.getElem?_map,List.getElem?_eq_getElem hat];rfl);refine Zo e2_0_0 ?_;refine⟨_,rfl,_,rfl,na,_,_,_,rfl,rfl,SqL.of hna3,g0,?_⟩;have n0:=hx0 _ (List.getElem_mem hat);show u2_0_1 _ [some (.ref na),some (.ref tg),some (.int md),some (.ref d),some (.int ((10*i+5*j:Nat):Int)),some (.int (0+(i:Int))),some (.str t),some (.int (xs[10*i+5*j]))] H3;generalize xs[10*i+5*j]=num at n0;have nxt:∀(H4:Hp)(m:List (List Key×V))(rs:List (Int×Str×Pa)),Zu H H4->H4 L=some (.lst ((ts.take 2).map V.str))->H4 d=some (.dT m)->RkL H4 m rs->RsOk ts md 1 rs->rs.length<=2*i+(j+1)->∀D:Ends,(∀(v7 v8:Option V),D.nx [some (.ref na),some (.ref tg),some (.int md),some (.ref d),some (.int ((10*i+5*(j+1):Nat):Int)),some (.int (0+(i:Int))),v7,v8] H4)->u2_0_2 D [some (.ref na),some (.ref tg),some (.int md),some (.ref d),some (.int ((10*i+5*j:Nat):Int)),some (.int (0+(i:Int))),some (.str t),some (.int num)] H4:=fun H4 m rs _ _ _ _ _ _ D hD=>by
    refine Zo e2_0_2 ?_;refine⟨_,rfl,_,_,rfl,rfl,?_⟩;have:=hD (some (.str t)) (some (.int num));rw[show((10*i+5*(j+1):Nat):Int)=((10*i+5*j:Nat):Int)+5 by lia] at this;exact this
   refine Zo e2_0_1 ?_;refine⟨_,rfl,_,_,rfl,rfl,(by show(0:Int)<4;decide),_,_,rfl,rfl,_,rfl,Zd8 (fun c=>?_) (fun c=>?_)⟩
   ·have b0:=Int.emod_nonneg (num / 4) (by decide:(5:Int)≠0);have b1:=Int.emod_lt_of_pos (num / 4) (by decide:(0:Int)<5);obtain⟨k,hk,hk6⟩:∃k:Nat,((10*i+5*j:Nat):Int)+1+num / 4 % 5=((10*i+5*j+1+k:Nat):Int)/\k<=4:=⟨(num / 4 % 5).toNat,by lia,by lia⟩;refine⟨_,rfl,_,rfl,_,_,rfl,rfl,_,rfl,_,rfl,_,_,rfl,rfl,_,rfl,_,_,rfl,rfl,⟨by decide,by decide⟩,_,_,rfl,rfl,(by show(0:Int)<5;decide),_,_,rfl,rfl,_,congrArg V.int hk,na,_,rfl,SqL.of hna3,fun C hC=>?_⟩;have sC:Zu H3 (upd H3 C (.lst (ZdU (xs.map V.int) (some (((10*i+5*j:Nat):Int)+1)) (some ((10*i+5*j+1+k:Nat):Int))))):=Zu.new hC;have hCC:(upd H3 C (.lst (ZdU (xs.map V.int) (some (((10*i+5*j:Nat):Int)+1)) (some ((10*i+5*j+1+k:Nat):Int))))) C=some (.lst (((xs.drop (10*i+5*j+1)).take k).map V.int)):=by
     rw[Zb,show((10*i+5*j:Nat):Int)+1=((10*i+5*j+1:Nat):Int) by lia,ZkO _ _ _ (by lia) (by rw[List.length_map];lia),List.map_take,List.map_drop,show 10*i+5*j+1+k-(10*i+5*j+1)=k by lia]
    show Zjt _ _ _ _ _;generalize upd H3 C (.lst (ZdU (xs.map V.int) (some (((10*i+5*j:Nat):Int)+1)) (some ((10*i+5*j+1+k:Nat):Int))))=H4 at sC hCC ⊢;have s34:=s3.trans sC;refine⟨_,rfl,_,rfl,C,tg,(xs.drop (10*i+5*j+1)).take k,md,ts,rfl,hCC,by rw[List.length_take];lia,m0,by lia,s34 _ _ htg,ht4,fun r ys p H5 s5 hr5 hp hnk hsz htags hks=>?_⟩;have s35:=s34.trans s5;have sz6:p.sz<=6:=by
     rw[List.length_take] at hsz;lia
    refine⟨_,rfl,_,rfl,_,rfl,(by show 2<=sizeLine;decide),fun kt hkt=>?_⟩;have s6:Zu H5 (upd H5 kt (.tup [.int (0+(i:Int)),.str t])):=Zu.new hkt;have hml:m.length=rs.length:=Paired.length hrk;have hd6:=s6 _ _ (s5 _ _ (sC _ _ hd3));refine⟨d,_,rfl,Zix.t (k:=Za0 (0+(i:Int)) t) hd6 Zb (Zx (by lia)),?_⟩;have tkd:TK (upd H5 kt (.tup [.int (0+(i:Int)),.str t])) (upd (upd H5 kt (.tup [.int (0+(i:Int)),.str t])) d (.dT (putK m (Za0 (0+(i:Int)) t) (.ref r)))):=fun b ys e=>by
     rw[Zc (Zlb e hd6 (fun z=>nomatch z))]
     exact e
    have tk:=(sC.trans (s5.trans s6)).tk.trans tkd;obtain⟨rs',g1,g2,g3⟩:=(hrk.tk tk).put hro (i:=0+(i:Int)) (t:=t) (tkd _ _ (s6 _ _ hr5)) ((hp.mono s6.tk).mono tkd) ⟨htm,by lia,sz6,htags,hks⟩;have hL7:(upd (upd H5 kt (.tup [.int (0+(i:Int)),.str t])) d (.dT (putK m (Za0 (0+(i:Int)) t) (.ref r)))) L=some (.lst ((ts.take 2).map V.str)):=by
     rw[Zc ndL.symm];exact s6 _ _ (s5 _ _ (sC _ _ hL3))
    exact nxt _ _ rs' ((s35.trans s6).upd_new hd) hL7 Zb g1 g2 (by lia) _ fun _ _=>⟨_,_,_,rs',rfl,(s35.trans s6).upd_new hd,hL7,Zb,g1,g2,by lia⟩
   ·exact nxt H3 m rs s3 hL3 hd3 hrk hro (by lia) _ fun _ _=>⟨_,_,m,rs,rfl,s3,hL3,hd3,hrk,hro,by lia⟩
  ·rintro σ H3 ⟨v7,v8,m,rs,rfl,s3,hL3,hd3,hrk,hro,hrl⟩;rw[List.length_map,List.length_take] at hrl ⊢;refine⟨some (.int (0+(i:Int))),v7,v8,m,rs,?_,s3,hd3,hrk,hro,by lia⟩;rw[show 10*i+5*min 2 ts.length=10*(i+1) by lia]
 ·rintro σ H1 ⟨v6,v7,v8,m,rs,rfl,s1,hd1,hrk,hro,hrl⟩;show u3 _ _ _;refine Zo e3 ?_;exact⟨_,rfl,q d m rs H1 s1 hd hd1 hrk hro (by lia)⟩
theorem RkL.mem{H:Hp}:∀{m:List (List Key×V)}{rs:List (Int×Str×Pa)},RkL H m rs->(rs.map fun r=>Za0 r.1 r.2.1).Nodup->∀r∈rs,∃q ys,Zbg m (Za0 r.1 r.2.1)=some (.ref q)/\H q=some (.tup ys)/\RepP H ys r.2.2
 | _,_,.cons (a:=kv) (b:=r0) ⟨e,q,ys,h1,h2,h3⟩ t,hn,r,hr=>by
  rw[List.map_cons,List.nodup_cons] at hn;rcases List.mem_cons.mp hr with rfl|hr
  ·refine⟨q,ys,?_,h2,h3⟩;unfold Zbg;rw[List.find?_cons_of_pos (by rw[e];exact decide_eq_true rfl)];exact congrArg some h1
  ·obtain⟨q',ys',g1,g2,g3⟩:=RkL.mem t hn.2 r hr;refine⟨q',ys',?_,g2,g3⟩;have hne : ¬ kv.1=Za0 r.1 r.2.1:=fun z=>hn.1 (by rw[<- e,z];exact List.mem_map.mpr ⟨r,hr,rfl⟩);unfold Zbg at g1 ⊢;rw[List.find?_cons_of_neg (by rw[decide_eq_false hne];decide)];exact g1
theorem RkL.absent{H:Hp}:∀{m:List (List Key×V)}{rs:List (Int×Str×Pa)},RkL H m rs->∀k,(∀r∈rs,Za0 r.1 r.2.1≠k)->Zbg m k=none
 | _,_,.nil,_,_=>rfl
 | _,_,.cons (a:=kv) (b:=r0) ⟨e,_⟩ t,k,h=>by
  have g:=RkL.absent t k fun r hr=>h r (List.mem_cons_of_mem _ hr);have hne : ¬ kv.1=k:=by rw[e];exact h r0 (List.mem_cons_self ..)
  unfold Zbg at g ⊢;rw[List.find?_cons_of_neg (by rw[decide_eq_false hne];decide)];exact g
def KnM(rs:List (Int×Str×Pa))(kn:Kn):Prop := ∀i t p,kn i t=some p↔(i,t,p)∈rs
theorem Zj4{rs:List (Int×Str×Pa)}(hn:(rs.map fun r=>Za0 r.1 r.2.1).Nodup):KnM rs (Z4 rs):=by
 have go:∀(rs:List (Int×Str×Pa))(f:Kn),(rs.map fun r=>Za0 r.1 r.2.1).Nodup->∀i t p,rs.foldl ZcT f i t=some p↔(i,t,p)∈rs\/((∀r∈rs,Za0 r.1 r.2.1≠Za0 i t)/\f i t=some p):=by
  intro rs
  induction rs with
  | nil=>intro f _ i t p;simp
  | cons r rs ih =>
   intro f hn i t p;rw[List.map_cons,List.nodup_cons] at hn;rw[List.foldl_cons,ih (ZcT f r) hn.2];unfold ZcT;by_cases c:i=r.1/\t=r.2.1
   ·rw[if_pos c];constructor
    ·rintro(h|⟨h,e⟩)
     ·exact .inl (List.mem_cons_of_mem _ h)
     ·injection e with e;rw[c.1,c.2,<- e];exact .inl (List.mem_cons_self ..)
    ·rintro(h|⟨h,_⟩)
     ·rcases List.mem_cons.mp h with h|h
      ·refine .inr ⟨fun r' hr' z=>hn.1 (List.mem_map.mpr ⟨r',hr',?_⟩),by rw[<- h]⟩;show Za0 r'.1 r'.2.1=_;rw[z,c.1,c.2]
      ·exact .inl h
     ·exact absurd (by rw[c.1,c.2]) (h r (List.mem_cons_self ..))
   ·rw[if_neg c];have hk:Za0 r.1 r.2.1≠Za0 i t:=fun z=>c ⟨(Zc1 z).1.symm,(Zc1 z).2.symm⟩;constructor
    ·rintro(h|⟨h,e⟩)
     ·exact .inl (List.mem_cons_of_mem _ h)
     ·exact .inr ⟨fun r' hr'=>(List.mem_cons.mp hr').elim (fun z=>z ▸ hk) (h r'),e⟩
    ·rintro(h|⟨h,e⟩)
     ·rcases List.mem_cons.mp h with h|h
      ·exact absurd (by rw[<- h]) hk
      ·exact .inl h
     ·exact .inr ⟨fun r' hr'=>h r' (List.mem_cons_of_mem _ hr'),e⟩
 intro i t p;have:=go rs (fun _ _=>none) hn i t p;unfold Z4;rw[this];simp
def dif:List Str->Int
 | []=>0
 | w::ws=>(if w=SL then 1 else -1)+dif ws
theorem Zcj:∀a b:List Str,dif (a++b)=dif a+dif b
 | [],b=>(Int.zero_add _).symm
 | w::a,b=>by
  show(if w=SL then(1:Int) else -1)+dif (a++b)=(if w=SL then(1:Int) else -1)+dif a+dif b
  rw[Zcj a b];lia
theorem Zbm:∀{g:Gr Str},ZaW SL g->dif (words SL g)=0
 | .nil,_=>rfl
 | .cons t w o,⟨h1,h2,h3⟩=>by
  show(if t=SL then(1:Int) else -1)+dif (words SL w++SL::words SL o)=0
  rw[Zcj,Zbm h2,if_neg h1];show -1+(0+((if SL=SL then(1:Int) else -1)+dif (words SL o)))=0
  rw[Zbm h3,if_pos rfl];rfl
theorem Zgk:∀(a b:List Str)(n:Nat),Can SL n (a++b)->dif a<=(n:Int)
 | [],_,n,_=>by
  show(0:Int)<=n;lia
 | w::a,b,n,h=>by
  show(if w=SL then(1:Int) else -1)+dif a<=n
  by_cases c:w=SL
  ·subst c;obtain⟨h1,h2⟩:=Zci.mp h;have:=Zgk a b (n-1) h2;rw[if_pos rfl];lia
  ·have:=Zgk a b (n+1) ((Zb0 c).mp h);rw[if_neg c];lia
def Zex:List Str->Int
 | []=>0
 | w::ws=>min 0 ((if w=SL then 1 else -1)+Zex ws)
theorem Zku:∀ws:List Str,Zex ws<=0
 | []=>Int.le_refl _
 | w::ws=>by
  show min 0 _<=(0:Int);lia
theorem Zcm:∀a b:List Str,Zex (a++b)=min (Zex a) (dif a+Zex b)
 | [],b=>by
  have:=Zku b;show Zex b=min 0 (0+Zex b);lia
 | w::a,b=>by
  show min 0 ((if w=SL then(1:Int) else -1)+Zex (a++b))=min (min 0 ((if w=SL then(1:Int) else -1)+Zex a)) ((if w=SL then(1:Int) else -1)+dif a+Zex b)
  rw[Zcm a b];generalize (if w=SL then(1:Int) else -1)=x
  lia
theorem ZiL:∀k:Nat,dif (List.replicate k SL)=(k:Int)/\Zex (List.replicate k SL)=0
 | 0=>⟨rfl,rfl⟩
 | k+1=>by
  obtain⟨h1,h2⟩:=ZiL k;rw[List.replicate_succ];refine⟨?_,?_⟩
  ·show(if SL=SL then(1:Int) else -1)+dif (List.replicate k SL)=_
   rw[if_pos rfl,h1];lia
  ·show min 0 ((if SL=SL then(1:Int) else -1)+Zex (List.replicate k SL))=_
   rw[if_pos rfl,h2];rfl
theorem ZcC:∀{g:Gr Str},ZaW SL g->Zex (words SL g)= -(Zbs g:Int)
 | .nil,_=>rfl
 | .cons t w o,⟨h1,h2,h3⟩=>by
  show min 0 ((if t=SL then(1:Int) else -1)+Zex (words SL w++SL::words SL o))= -((max (Zbs w+1) (Zbs o):Nat):Int)
  rw[Zcm,Zbm h2,ZcC h2,if_neg h1];show min 0 (-1+min (-(Zbs w:Int)) (0+min 0 ((if SL=SL then(1:Int) else -1)+Zex (words SL o))))=_
  rw[if_pos rfl,ZcC h3];lia
theorem Zk4{t:Str}(h:t≠SL):dif [t] = -1/\Zex [t] = -1:=by
 refine⟨?_,?_⟩
 ·show(if t=SL then(1:Int) else -1)+0= -1
  rw[if_neg h];rfl
 ·show min 0 ((if t=SL then(1:Int) else -1)+0)= -1
  rw[if_neg h];rfl
def Zdk:Sp:=fun vs H Q _=>∃(tg na:Addr)(xs:List Int)(ts:List Str),vs=[.ref tg,.ref na]/\H na=some (.lst (xs.map V.int))/\xs.length<=300/\H tg=some (.lst (ts.map V.str))/\ts.length=3/\(∀t∈ts,t≠SL) /\
 ∀(r:Addr)(ws:List Str)(H':Hp),Zu H H'->H r=none->H' r=some (.lst (ws.map V.str))->ws.length=2*xs.length->Can SL 0 ws->(∀w∈ws,w=SL\/w∈ts) -> -30<=Zex ws->Q (.ref r) H'
set_option maxHeartbeats 2000000 in
theorem Zhs(B:∀x∈Zcb,mg x=none)(F:Fun K "_law_words" "_law_words" Z5 f fd):FnOk P w K mg base CX0 1 f fd ["_law_tags_here","_law_numbers_here"] Zdk:=by
 refine F.ok Za8 (fun vs H Q E h=>?_) (fun cdv A outer s H vs Q E hr h=>?_)
 ·obtain⟨tg,na,xs,ts,rfl,_⟩:=h;rfl
 obtain⟨tg,na,xs,ts,rfl,hna,hxl,htg,ht4,htn,q⟩:=h;refine Zr ((Ze Z5).drop 3) (Zj (ZS (Zy Zlw (pv 2) (Zy Zfd (Zas (Za Zan Zf)) (pv 3))))) (fun u3 h3 e3=>?_);refine Zr ((ZF ((Ze Z5).getD 2 (.Pass ⟨0,0,0,0⟩))).drop 4) (Zj (Zn (i:=3) Za8.nd rfl (Or.inl rfl) (Zy Zkh (Zy Zal (pv 3) Zh) (pv 5)))) (fun u2_4 h2_4 e2_4=>?_);refine Zr ((ZF ((Ze Z5).getD 2 (.Pass ⟨0,0,0,0⟩))).drop 3) (Zd (ZV (Zbe PySem.F.plainAttrs_list PySem.F.slot_list_append PySem.F.type_list_append ZD (pv 2) (Za (ZG Z3 (pv 0) (Zy ZaT (Zy Zbw (pv 4) Zh) Zh) (fun _ _=>rfl)) Zf))) h2_4) (fun u2_3 h2_3 e2_3=>?_);refine Zr ((ZF ((Ze Z5).getD 2 (.Pass ⟨0,0,0,0⟩))).drop 2) (Zd (ZV (Zbe PySem.F.plainAttrs_list PySem.F.slot_list_extend PySem.F.type_list_extend ZdS (pv 2) (Za (Zy Zfd (Zas (Za Zan Zf)) (pv 5)) Zf))) h2_3) (fun u2_2 h2_2 e2_2=>?_);refine Zr ((ZF ((Ze Z5).getD 2 (.Pass ⟨0,0,0,0⟩))).drop 1) (Zd (Zbi (PW.pt (Zhh (Z2 Zkq (Zy ZaT (pv 4) Zh) Zh (Zaf _)) (Zfj (Z2 Zcr (pv 3) Zh (Zaf _)))))
   (Zj (Zn (i:=5) Za8.nd rfl (Or.inl rfl) (ZaG (Zfr rfl) rfl (B "min" (by decide)) Zki (Za (pv 3) (Za (Zy Zal Zh (Zy ZaT (Zy Zbw (pv 4) Zh) Zh)) Zf)))))
   ZaR) h2_2) (fun u2_1 h2_1 e2_1=>?_)
 refine Zr ((ZF ((Ze Z5).getD 2 (.Pass ⟨0,0,0,0⟩))).drop 0) (Zd (Zn (i:=5) Za8.nd rfl (Or.inl rfl) Zh) h2_1) (fun u2_0 h2_0 e2_0=>?_);refine Zr ((Ze Z5).drop 2) (Zd (ZaB PassesOwn.never rfl (ZbL (pv 1)) (Zt (i:=4) Za8.nd rfl (Or.inl rfl))
   h2_0) h3) (fun u2 h2 e2=>?_)
 refine Zr ((Ze Z5).drop 1) (Zd (Zn (i:=3) Za8.nd rfl (Or.inl rfl) Zh) h2) (fun u1 h1 e1=>?_);refine Zr ((Ze Z5).drop 0) (Zd (Zn (i:=2) Za8.nd rfl (Or.inl rfl) (Zas Zf)) h1) (fun u0 h0 e0=>?_);refine⟨u0,h0,?_⟩;refine Zo e0 ?_;refine⟨by decide,fun p hp=>?_⟩;have s0:Zu H (upd H p (.lst [])):=Zu.new hp;have hp0:(upd H p (.lst [])) p=some (.lst (([]:List Str).map V.str)):=Zb;show u1 _ _ _;refine Zo e1 ?_;show u2 _ _ _;refine Zo e2 ?_;generalize upd H p (.lst [])=H0 at s0 hp0 ⊢;refine⟨_,rfl,na,rfl,⟨_,SqL.of (s0 _ _ hna)⟩,Zbu (K:=K) (a:=na) (xs:=xs.map V.int) (fun i σ H2=>∃(ws:List Str)(op:Nat)(v5 v6:Option V),σ =[some (.ref tg),some (.ref na),some (.ref p),some (.int (op:Int)),v5,v6] /\
   Zu H H2/\H2 p=some (.lst (ws.map V.str))/\ws.length+op=2*i/\(∀tl,Can SL op tl->Can SL 0 (ws++tl))/\(∀w∈ws,w=SL\/w∈ts)/\op<=30/\dif ws= -(op:Int) /\ -30<=Zex ws)
   ⟨[],0,none,none,rfl,s0,hp0,rfl,fun _ h=>h,(fun _ h=>nomatch h),Nat.zero_le _,rfl,by decide⟩ ?_ ?_ ?_⟩
 ·rintro i σ H2 _ ⟨_,_,_,_,_,s2,_⟩;exact SqL.of (s2 _ _ hna)
 ·rintro i x σ H2 hi ⟨ws,op,v5,v6,rfl,sm,hp2,hlen,hcan,hws,op30,hdif,hlow⟩;obtain⟨hil,hix⟩:=List.getElem?_eq_some_iff.mp hi;rw[List.length_map] at hil;obtain rfl:x=V.int xs[i]:=by
   rw[<- hix,List.getElem_map]
  generalize xs[i]=num;have f1:=Int.emod_nonneg (num / 8) (by decide:(4:Int)≠0);have hmin:∃cl:Nat,(if 1+num / 8 % 4<(op:Int) then 1+num / 8 % 4 else(op:Int))=(cl:Int)/\cl<=op/\op+1-cl<=30:=by
   by_cases c:1+num / 8 % 4<(op:Int)
   ·exact⟨(1+num / 8 % 4).toNat,by rw[if_pos c];lia,by lia,by lia⟩
   ·exact⟨op,by rw[if_neg c],Nat.le_refl _,by lia⟩
  refine Zo e2_0 ?_;show u2_1 _ _ _;have tail:∀(cl:Nat),cl<=op->op+1-cl<=30->∀D:Ends,(∀ σ H3,(∃(ws:List Str)(op:Nat)(v5 v6:Option V),σ =[some (.ref tg),some (.ref na),some (.ref p),some (.int (op:Int)),v5,v6] /\
   Zu H H3/\H3 p=some (.lst (ws.map V.str))/\ws.length+op=2*(i+1)/\(∀tl,Can SL op tl->Can SL 0 (ws++tl))/\(∀w∈ws,w=SL\/w∈ts)/\op<=30/\dif ws= -(op:Int) /\ -30<=Zex ws)->D.nx σ H3)->u2_2 D [some (.ref tg),some (.ref na),some (.ref p),some (.int (op:Int)),some (.int num),some (.int (cl:Int))] H2:=fun cl hcl h30 D hD=>by
   refine Zo e2_2 ?_;refine⟨_,rfl,.inl ⟨rfl,_,SqL.of hp2⟩,by decide,fun b hb=>⟨_,rfl,b,_,_,rfl,rfl,Zb,by lia,by lia,ZaA (by show 1*_<=_;lia),fun c hc=>?_⟩⟩;have sb:Zu H2 (upd H2 b (.lst [.str SL])):=Zu.new hb;have sc:Zu (upd H2 b (.lst [.str SL])) (upd (upd H2 b (.lst [.str SL])) c (.lst (List.replicate ((cl:Int)).toNat [V.str SL]).flatten)):=Zu.new hc;have hcc:(upd (upd H2 b (.lst [.str SL])) c (.lst (List.replicate ((cl:Int)).toNat [V.str SL]).flatten)) c=some (.lst ((List.replicate cl SL).map V.str)):=by
    rw[Zb]
    congr 2
    rw[Int.toNat_natCast];exact ZfV cl
   have sbc:=sb.trans sc;have hpc:=sbc _ _ hp2;have cont:∀H3:Hp,Zu H2 H3->H3 c=some (.lst ((List.replicate cl SL).map V.str))->H3 p=some (.lst (ws.map V.str))->Zih (.ref p) [.ref c] H3 fun _ H1=>u2_3 D [some (.ref tg),some (.ref na),some (.ref p),some (.int (op:Int)),some (.int num),some (.int (cl:Int))] H1:=fun H3 sbc hcc hpc=>?_
   ·exact cont _ sbc hcc hpc
   refine⟨p,c,ws.map V.str,(List.replicate cl SL).map V.str,rfl,rfl,hpc,hcc,ZaA (by rw[List.length_map,List.length_map,List.length_replicate];lia),?_⟩;have hpH:H p=none:=hp;have s4:Zu H (upd H3 p (.lst (ws.map V.str++(List.replicate cl SL).map V.str))):=(sm.trans sbc).upd_new hpH;have hp4:(upd H3 p (.lst (ws.map V.str++(List.replicate cl SL).map V.str))) p=some (.lst ((ws++List.replicate cl SL).map V.str)):=by rw[Zb,List.map_append]
   show u2_3 _ _ _;generalize upd H3 p (.lst (ws.map V.str++(List.replicate cl SL).map V.str))=H4 at s4 hp4 ⊢;refine Zo e2_3 ?_;obtain⟨k,hk,hkl⟩:=Zmw (num / 32) (n:=3) (by decide);have hkl':k<ts.length:=by lia
   have hat:atI (ts.map V.str) (num / 32 % 3)=some (.str ts[k]):=by
    have:=ZiY (ws:=ts) (n:=k) hkl';rw[<- hk] at this;exact this
   have htk:ts[k]∈ts:=List.getElem_mem hkl';refine⟨_,rfl,.inl ⟨rfl,_,SqL.of hp4⟩,_,rfl,_,rfl,_,_,rfl,rfl,⟨by decide,by decide⟩,_,_,rfl,rfl,(by show(0:Int)<3;decide),tg,_,_,_,rfl,rfl,SqL.of (s4 _ _ htg),hat,p,_,_,rfl,rfl,hp4,Zx (by rw[List.length_map,List.length_append,List.length_replicate];lia),?_⟩;show u2_4 _ _ _;refine Zo e2_4 ?_;refine⟨_,rfl,_,_,rfl,rfl,_,rfl,_,_,rfl,rfl,?_⟩;refine hD _ _ ⟨ws++List.replicate cl SL ++ [ts[k]],op+1-cl,some (.int num),some (.int (cl:Int)),?_,s4.upd_new hpH,by rw[Zb];simp only[List.map_append,List.map_cons,List.map_nil],?_,fun tl htl=>?_,fun w hw=>?_,h30,?_,?_⟩
   ·show [some (V.ref tg),some (V.ref na),some (V.ref p),some (V.int ((op:Int)+1-(cl:Int))),some (.int num),some (.int (cl:Int))]=_;rw[show(op:Int)+1-(cl:Int)=((op+1-cl:Nat):Int) by lia]
   ·rw[List.length_append,List.length_append,List.length_replicate,List.length_singleton];lia
   ·rw[List.append_assoc,List.append_assoc];refine hcan _ (Zez cl hcl ?_);show Can SL (op-cl) (ts[k]::tl);rw[Zb0 (htn _ htk)]
    rwa [show op-cl+1=op+1-cl by lia]
   ·rcases List.mem_append.mp hw with hw|hw
    ·rcases List.mem_append.mp hw with hw|hw
     ·exact hws w hw
     ·exact .inl (List.mem_replicate.mp hw).2
    ·rw[List.mem_singleton.mp hw];exact .inr htk
   ·rw[Zcj,Zcj,hdif,(ZiL cl).1,(Zk4 (htn _ htk)).1];lia
   ·rw[Zcm,Zcm,Zcj,hdif,(ZiL cl).1,(ZiL cl).2,(Zk4 (htn _ htk)).2];lia
  refine Zo e2_1 ?_;obtain⟨cl,hcl1,hcl2,hcl3⟩:=hmin;refine⟨_,rfl,_,_,rfl,rfl,(by show(0:Int)<8;decide),_,_,rfl,rfl,_,rfl,Zd8 (fun _=>ZhS ?_) (fun _=>⟨_,rfl,rfl,_,rfl,Zd8 (fun _=>?_) (fun c30=>?_)⟩)⟩
  ·refine⟨_,rfl,_,rfl,_,_,rfl,rfl,⟨by decide,by decide⟩,_,_,rfl,rfl,(by show(0:Int)<4;decide),_,_,rfl,rfl,_,_,rfl,?_⟩;show u2_2 _ [some (.ref tg),some (.ref na),some (.ref p),some (.int (op:Int)),some (.int num),some (.int (if 1+num / 8 % 4<(op:Int) then 1+num / 8 % 4 else(op:Int)))] H2
   rw[hcl1];exact tail cl hcl2 hcl3 _ fun _ _ h=>h
  ·refine⟨_,rfl,_,rfl,_,_,rfl,rfl,⟨by decide,by decide⟩,_,_,rfl,rfl,(by show(0:Int)<4;decide),_,_,rfl,rfl,_,_,rfl,?_⟩;show u2_2 _ [some (.ref tg),some (.ref na),some (.ref p),some (.int (op:Int)),some (.int num),some (.int (if 1+num / 8 % 4<(op:Int) then 1+num / 8 % 4 else(op:Int)))] H2
   rw[hcl1];exact tail cl hcl2 hcl3 _ fun _ _ h=>h
  ·have c30 : ¬ (op:Int)=30:=fun z=>c30 (decide_eq_true (congrArg V.int z));exact tail 0 (Nat.zero_le _) (by lia) _ fun _ _ h=>h
 ·rintro σ H2 ⟨ws,op,v5,v6,rfl,sm,hp2,hlen,hcan,hws,op30,hdif,hlow⟩;rw[List.length_map] at hlen;show u3 _ _ _;refine Zo e3 ?_;refine⟨_,rfl,by decide,fun b hb=>⟨_,rfl,b,_,_,rfl,rfl,Zb,by lia,by lia,ZaA (by show 1*_<=_;lia),fun c hc=>?_⟩⟩;obtain⟨ncb,hc0⟩:=Zk hc;have npb:p≠b:=Zm hp2 hb;have npc:p≠c:=Zm hp2 hc0;refine⟨p,c,ws.map V.str,(List.replicate op SL).map V.str,rfl,rfl,?_,?_,ZaA (by rw[List.length_map,List.length_map,List.length_replicate];lia),fun d hd=>?_⟩
  ·rw[Zc npc,Zc npb];exact hp2
  ·rw[Zb]
   congr 2
   rw[Int.toNat_natCast];exact ZfV op
  obtain⟨ndc,hd0⟩:=Zk hd;obtain⟨ndb,hd1⟩:=Zk hd0;refine q d (ws++List.replicate op SL) _ (((sm.upd_new (sm.free hb)).upd_new (sm.free hc0)).upd_new (sm.free hd1)) (sm.free hd1) ?_ ?_ (hcan _ (FgM.ZdR op)) ?_ ?_
  ·rw[Zb,List.map_append]
  ·rw[List.length_append,List.length_replicate];lia
  ·intro w hw;rcases List.mem_append.mp hw with hw|hw
   ·exact hws w hw
   ·exact .inl (List.mem_replicate.mp hw).2
  ·rw[Zcm,hdif,(ZiL op).2];lia
set_option maxHeartbeats 2000000 in
theorem Zd2(B:∀x∈Zcb,mg x=none)(F:Fun K "_law_parts_for" "_law_parts_for" Zap f fd):FnOk P w K mg base CX0 1 f fd ["_law_ways_here","_law_mode","_law_tag"] ZaU:=by
 refine F.ok ZdZ (fun vs H Q E h=>?_) (fun cdv A outer s H vs Q E hr h=>?_)
 ·obtain⟨d,m,kn,i,t,rfl,_⟩:=h;rfl
 obtain⟨d,m,kn,i,t,rfl,hd,hkn,qq⟩:=h;have hu1:(A.deeper (PyProof.Rows.envOfC (Str.ofString "_law_parts_for") (Zg Zap) s.heap.objs.size f cdv)).units+1<cLine:=by have:=hr.un;lia
 refine⟨_,(Zj (ZS (ZgH hu1 (pv 0) (ZK (Za (pv 1) (Za (pv 2) Zf))) (ZK (Za (ZK (Za Zan (Za (pv 2) (Za (ZK (Za (ZK (Za Zan (Za (pv 1) Zf))) Zf)) Zf)))) Zf)) ⟨rfl,rfl,rfl,rfl⟩))),?_⟩;refine⟨_,rfl,d,rfl,.inr ⟨m,.inl hd⟩,_,rfl,_,rfl,(by show 2<=sizeLine;decide),fun t1 ht1=>?_⟩;refine⟨_,rfl,_,rfl,(by show 2<=sizeLine;decide),fun t2 ht2=>⟨(by show 1<=sizeLine;decide),fun t3 ht3=>⟨(by show 3<=sizeLine;decide),fun t4 ht4=>⟨(by show 1<=sizeLine;decide),fun t5 ht5=>?_⟩⟩⟩⟩;obtain⟨n21,ht2a⟩:=Zk ht2;obtain⟨n32,ht3a⟩:=Zk ht3;obtain⟨n31,ht3b⟩:=Zk ht3a;obtain⟨n43,ht4a⟩:=Zk ht4;obtain⟨n42,ht4b⟩:=Zk ht4a;obtain⟨n41,ht4c⟩:=Zk ht4b;obtain⟨n54,ht5a⟩:=Zk ht5;obtain⟨n53,ht5b⟩:=Zk ht5a;obtain⟨n52,ht5c⟩:=Zk ht5b;obtain⟨n51,ht5d⟩:=Zk ht5c;have s5:Zu H (upd (upd (upd (upd (upd H t1 (.tup [.int i,.str t])) t2 (.tup [.str "kids",.int i])) t3 (.tup [.ref t2])) t4 (.tup [.str "tag",.str t,.ref t3])) t5 (.tup [.ref t4])):=((((Zu.new ht1).upd_new ht2a).upd_new ht3b).upd_new ht4c).upd_new ht5d;have x1:(upd (upd (upd (upd (upd H t1 (.tup [.int i,.str t])) t2 (.tup [.str "kids",.int i])) t3 (.tup [.ref t2])) t4 (.tup [.str "tag",.str t,.ref t3])) t5 (.tup [.ref t4])) t1=some (.tup ((Za0 i t).map kV)):=by
  rw[Zc n51.symm,Zc n41.symm,Zc n31.symm,Zc n21.symm,Zb];rfl
 have x2:(upd (upd (upd (upd (upd H t1 (.tup [.int i,.str t])) t2 (.tup [.str "kids",.int i])) t3 (.tup [.ref t2])) t4 (.tup [.str "tag",.str t,.ref t3])) t5 (.tup [.ref t4])) t2=some (.tup [.str "kids",.int i]):=by
  rw[Zc n52.symm,Zc n42.symm,Zc n32.symm,Zb]
 have x3:(upd (upd (upd (upd (upd H t1 (.tup [.int i,.str t])) t2 (.tup [.str "kids",.int i])) t3 (.tup [.ref t2])) t4 (.tup [.str "tag",.str t,.ref t3])) t5 (.tup [.ref t4])) t3=some (.tup [.ref t2]):=by
  rw[Zc n53.symm,Zc n43.symm,Zb]
 have x4:(upd (upd (upd (upd (upd H t1 (.tup [.int i,.str t])) t2 (.tup [.str "kids",.int i])) t3 (.tup [.ref t2])) t4 (.tup [.str "tag",.str t,.ref t3])) t5 (.tup [.ref t4])) t4=some (.tup [.str "tag",.str t,.ref t3]):=by
  rw[Zc n54.symm,Zb]
 have x5:(upd (upd (upd (upd (upd H t1 (.tup [.int i,.str t])) t2 (.tup [.str "kids",.int i])) t3 (.tup [.ref t2])) t4 (.tup [.str "tag",.str t,.ref t3])) t5 (.tup [.ref t4])) t5=some (.tup [.ref t4]):=Zb;refine⟨_,ZeQ.t (k:=Za0 i t) (s5 _ _ hd) x1,?_⟩;rcases hkn i t with⟨e1,e2⟩|⟨q,ys,p,e1,e2,e3,e4⟩
 ·have e1':Zbg m (Za0 i t)=none:=e1;rw[e1'];refine qq t5 [.ref t4] _ s5 x5 ?_;unfold paD;rw[e2];exact .tag x4 x3 (.kids x2 .nil) .nil
 ·have e1':Zbg m (Za0 i t)=some (.ref q):=e1;rw[e1'];refine qq q ys _ s5 (s5 _ _ e2) ?_;unfold paD;rw[e4];exact e3.mono s5.tk
theorem Zha(B:∀x∈Zcb,mg x=none)(F:Fun K "_law_grove" "_law_grove" ZbC f fd):FnOk P w K mg base CX0 1 f fd ["_law_words_here"] (Zgm K):=by
 refine F.ok ZbA (fun vs H Q E h=>?_) (fun cdv A outer s H vs Q E hr h=>?_)
 ·obtain⟨a,ws,rfl,_⟩:=h;rfl
 obtain⟨a,ws,rfl,hS,hlen,hcan,q⟩:=h;refine⟨_,(Zd (Zn (i:=1) ZbA.nd rfl (Or.inl rfl) (Zas Zf))
  (Zd (Zn (i:=2) ZbA.nd rfl (Or.inl rfl) (Zas (Za (Zas Zf) Zf)))
  (Zd (ZaB PassesOwn.never rfl (ZbL (pv 0)) (Zt (i:=3) ZbA.nd rfl (Or.inl rfl))
   (Zj (Zbi (Z2 Zcr (pv 3) Zan (Zaf _))
     (Zd (Zn (i:=4) ZbA.nd rfl (Or.inl rfl) (ZaM ZaF rfl (B "tuple" (by decide)) ZbK (Za (ZbX PySem.F.plainAttrs_list PySem.F.slot_list_pop PySem.F.type_list_pop Zb3 (pv 2)) Zf)))
      (Zj (ZV (Zbe PySem.F.plainAttrs_list PySem.F.slot_list_append PySem.F.type_list_append ZD (ZG Z3 (pv 2) (Ze1 ZcP Zh) (fun _ _=>rfl)) (Za (ZK (Za (ZbX PySem.F.plainAttrs_list PySem.F.slot_list_pop PySem.F.type_list_pop Zb3 (pv 1)) (Za (pv 4) Zf))) Zf)))))
     (Zd (ZV (Zbe PySem.F.plainAttrs_list PySem.F.slot_list_append PySem.F.type_list_append ZD (pv 1) (Za (pv 3) Zf)))
      (Zj (ZV (Zbe PySem.F.plainAttrs_list PySem.F.slot_list_append PySem.F.type_list_append ZD (pv 2) (Za (Zas Zf) Zf))))))))
  (Zj (ZS (ZaM ZaF rfl (B "tuple" (by decide)) ZbK (Za (ZG Z3 (pv 2) Zh (fun _ _=>rfl)) Zf))))))),?_⟩
 refine⟨by decide,fun T hT=>?_⟩;refine⟨by decide,fun a0 h0=>⟨(by show 1<=sizeLine;decide),fun R hR=>?_⟩⟩;obtain⟨n0T,h0'⟩:=Zk h0;obtain⟨nR0,hR1⟩:=Zk hR;obtain⟨nRT,hR'⟩:=Zk hR1;have s3:Zu H (upd (upd (upd H T (.lst [])) a0 (.lst [])) R (.lst [.ref a0])):=((Zu.new hT).upd_new h0').upd_new hR';refine⟨_,rfl,a,rfl,⟨_,s3.seq hS⟩,Zbu (K:=K) (a:=a) (xs:=ws.map V.str) (fun i σ H1=>∃(as:List Addr)(gs:List (Gr Str))(ts:List Str)(v3 v4:Option V),
  σ =[some (.ref a),some (.ref T),some (.ref R),v3,v4]/\Zu H H1/\H1 T=some (.lst ((ts.map V.str).reverse))/\H1 R=some (.lst ((as.map V.ref).reverse))/\ZjR H1 as gs/\(R::T::as).Nodup /\
  (∀b∈as,H b=none)/\gs.length=ts.length+1/\ZbQ SL gs ts=ws.take i/\Can SL ts.length (ws.drop i)/\(∀g∈gs,ZaW SL g)/\∀t∈ts,t≠SL)
  ⟨[a0],[.nil],[],none,none,rfl,s3,?_,Zb,?_,?_,?_,rfl,rfl,hcan,?_,fun _ h=>nomatch h⟩ ?_ ?_ ?_⟩
 ·rw[Zc nRT.symm,Zc n0T.symm];exact Zb
 ·refine .cons ⟨[],?_,.nil⟩ .nil;rw[Zc nR0.symm];exact Zb
 ·simp[nRT,nR0,n0T.symm]
 ·intro b hb;obtain rfl:=List.mem_singleton.mp hb;exact h0'
 ·intro g hg;obtain rfl:=List.mem_singleton.mp hg
  trivial
 ·rintro i σ H1 _ ⟨as,gs,ts,v3,v4,_,sm,_⟩;exact sm.seq hS
 ·rintro i x σ H1 hi ⟨as,gs,ts,v3,v4,rfl,sm,hT1,hR1',hrows,nd,hfr,hgl,hflat,hc,hcl,htn⟩;obtain⟨hil,hix⟩:=List.getElem?_eq_some_iff.mp hi;rw[List.length_map] at hil;obtain rfl:x=V.str ws[i]:=by
   rw[<- hix,List.getElem_map]
  have hdrop:ws.drop i=ws[i]::ws.drop (i+1):=List.drop_eq_getElem_cons hil;have htake:ws.take (i+1)=ws.take i ++ [ws[i]]:=List.take_succ_eq_append_getElem hil;rw[hdrop] at hc;generalize ws[i]=wd at hc htake;have hasl:as.length=gs.length:=Paired.length hrows;obtain⟨ndR,ndT⟩:=List.nodup_cons.mp nd;obtain⟨ndT',ndA⟩:=List.nodup_cons.mp ndT;have hRa:∀b∈as,b≠R:=fun b hb e=>ndR (by rw[<- e];exact List.mem_cons_of_mem _ hb);have hTa:∀b∈as,b≠T:=fun b hb e=>ndT' (by rw[<- e];exact hb);have hRT:R≠T:=fun e=>ndR (by rw[e];exact List.mem_cons_self ..);refine⟨_,rfl,rfl,_,rfl,?_⟩;refine Zd8 (fun c=>?_) (fun c=>?_)
  ·-- an end
   have e:wd=SL:=by
    have:=of_decide_eq_true c;injection this
   subst e;obtain⟨hpos,hc'⟩:=Zci.mp hc;cases ts with
   | nil=>exact absurd hpos (by simp)
   | cons t ts =>
    cases gs with
    | nil=>simp at hgl
    | cons g0 gs =>
     cases gs with
     | nil=>simp at hgl
     | cons g1 gs =>
      cases hrows with
      | @cons b0 _ as _ r0 hrows =>
       cases hrows with
       | @cons b1 _ as _ r1 hrows =>
        obtain⟨vs0,h00,r00⟩:=r0;obtain⟨vs1,h11,r11⟩:=r1;have m0:b0∈b0::b1::as:=List.mem_cons_self ..;have m1:b1∈b0::b1::as:=List.mem_cons_of_mem _ (List.mem_cons_self ..);have hgs:gs.length=ts.length:=by simpa using hgl
        have hw1:(words SL g1).length<=1000:=by
         have h1:=Zjx SL (r:=g1) hgs;have h2:=congrArg List.length hflat;rw[List.length_take] at h2;simp only[ZbQ,List.length_append] at h2;lia
        have hv1:=r11.length;have hRs:H1 R=some (.lst (((b1::as).map V.ref).reverse ++ [.ref b0])):=by
         rw[hR1',List.map_cons,List.reverse_cons]
        have hTs:H1 T=some (.lst ((ts.map V.str).reverse ++ [.str t])):=by
         rw[hT1,List.map_cons,List.reverse_cons]
        refine⟨_,rfl,.inl ⟨rfl,_,SqL.of hRs⟩,R,_,_,rfl,rfl,hRs,ZaN _ _,?_⟩;rw[ZaL];have h0a:(upd H1 R (.lst ((b1::as).map V.ref).reverse)) b0=some (.lst vs0):=by
         rw[Zc (hRa b0 m0)];exact h00
        refine⟨b0,vs0,rfl,.inl ⟨SqL.of h0a,fun l hl=>?_⟩⟩;obtain⟨nlR,hl1⟩:=Zk hl;have nlT:l≠T:=(Zm hT1 hl1).symm;have nl1:b1≠l:=Zm h11 hl1;have hRb:(upd (upd H1 R (.lst ((b1::as).map V.ref).reverse)) l (.tup vs0)) R=some (.lst ((as.map V.ref).reverse ++ [.ref b1])):=by
         rw[Zc nlR.symm,Zb,List.map_cons,List.reverse_cons]
        have h1b:(upd (upd H1 R (.lst ((b1::as).map V.ref).reverse)) l (.tup vs0)) b1=some (.lst vs1):=by
         rw[Zc nl1,Zc (hRa b1 m1)];exact h11
        have hTb:(upd (upd H1 R (.lst ((b1::as).map V.ref).reverse)) l (.tup vs0)) T=some (.lst ((ts.map V.str).reverse ++ [.str t])):=by
         rw[Zc nlT.symm,Zc hRT.symm];exact hTs
        refine⟨_,rfl,1,rfl,R,_,-1,.ref b1,rfl,rfl,SqL.of hRb,ZbH _ _,.inl ⟨rfl,_,SqL.of h1b⟩,_,rfl,.inl ⟨rfl,_,SqL.of hTb⟩,T,_,_,rfl,rfl,hTb,ZaN _ _,?_⟩;rw[ZaL];refine⟨_,rfl,(by show 2<=sizeLine;decide),fun l2 hl2=>?_⟩;obtain⟨n2T,hl2a⟩:=Zk hl2;obtain⟨n2l,hl2b⟩:=Zk hl2a;obtain⟨n2R,hl2c⟩:=Zk hl2b;have n21:b1≠l2:=Zm h11 hl2c;have h1d:(upd (upd (upd (upd H1 R (.lst ((b1::as).map V.ref).reverse)) l (.tup vs0)) T (.lst (ts.map V.str).reverse)) l2 (.tup [.str t,.ref l])) b1=some (.lst vs1):=by
         rw[Zc n21,Zc (hTa b1 m1)];exact h1b
        refine⟨b1,_,_,rfl,rfl,h1d,Zx (by lia),?_⟩;have tk:TK H1 (upd (upd (upd (upd (upd H1 R (.lst ((b1::as).map V.ref).reverse)) l (.tup vs0)) T (.lst (ts.map V.str).reverse)) l2 (.tup [.str t,.ref l])) b1 (.lst (vs1 ++ [.ref l2]))) :=
         ((((TK.lst hRs).trans (TK.new hl)).trans (TK.lst hTb)).trans (TK.new hl2)).trans (TK.lst h1d)
        have ndA2:=(List.nodup_cons.mp ndA).2;have n1as:=(List.nodup_cons.mp ndA2).1;refine⟨b1::as,snoc g1 t g0::gs,ts,_,_,rfl,?_,?_,?_,?_,?_,?_,?_,?_,?_,?_,?_⟩
        ·exact((((sm.upd_new hR').upd_new (sm.free hl1)).upd_new hT).upd_new (sm.free hl2c)).upd_new (hfr b1 m1)
        ·rw[Zc (hTa b1 m1).symm,Zc n2T.symm,Zb]
        ·rw[Zc (hRa b1 m1).symm,Zc n2R.symm,Zc hRT,Zc nlR.symm,Zb]
        ·refine .cons ⟨_,Zb,RepG.snoc (q:=l) (ys:=vs0) ?_ ?_ (r00.mono tk) (r11.mono tk)⟩ (Zdl tk hrows fun b hb o ho=>?_)
         ·rw[Zc n21.symm];exact Zb
         ·rw[Zc nl1.symm,Zc n2l.symm,Zc nlT];exact Zb
         ·have mb:b∈b0::b1::as:=List.mem_cons_of_mem _ (List.mem_cons_of_mem _ hb);have nb1:b≠b1:=fun e=>n1as (by rw[<- e];exact hb);rw[Zc nb1,Zc (Zm ho hl2c),Zc (hTa b mb),Zc (Zm ho hl1),Zc (hRa b mb)];exact ho
        ·refine List.nodup_cons.mpr ⟨fun h=>?_,List.nodup_cons.mpr ⟨fun h=>ndT' (List.mem_cons_of_mem _ h),ndA2⟩⟩;rcases List.mem_cons.mp h with h|h
         ·exact hRT h
         ·exact ndR (List.mem_cons_of_mem _ (List.mem_cons_of_mem _ h))
        ·exact fun b hb=>hfr b (List.mem_cons_of_mem _ hb)
        ·simpa using hgl
        ·rw[Zgs SL t hgs,hflat,htake]
        ·exact hc'
        ·intro g hg;rcases List.mem_cons.mp hg with rfl|hg
         ·exact Zel (htn t (List.mem_cons_self ..)) (hcl g0 (List.mem_cons_self ..)) (hcl g1 (List.mem_cons_of_mem _ (List.mem_cons_self ..)))
         ·exact hcl g (List.mem_cons_of_mem _ (List.mem_cons_of_mem _ hg))
        ·exact fun x hx=>htn x (List.mem_cons_of_mem _ hx)
  ·-- a tag
   have e:wd≠SL:=fun z=>c (by rw[z];exact decide_eq_true rfl);have hc':=(Zb0 e).mp hc;have hts:ts.length<=1000:=by
    have h1:=Zfg SL (ts:=ts) hgl;rw[hflat,List.length_take] at h1;lia
   refine⟨_,rfl,.inl ⟨rfl,_,SqL.of hT1⟩,_,rfl,T,_,_,rfl,rfl,hT1,Zx (by rw[List.length_reverse,List.length_map];lia),?_⟩;have hRa2:(upd H1 T (.lst ((ts.map V.str).reverse ++ [.str wd]))) R=some (.lst (as.map V.ref).reverse):=by
    rw[Zc hRT];exact hR1'
   refine⟨_,rfl,.inl ⟨rfl,_,SqL.of hRa2⟩,by decide,fun l hl=>?_⟩;obtain⟨nlT,hl1⟩:=Zk hl;have nlR:R≠l:=Zm hR1' hl1;have hRb:(upd (upd H1 T (.lst ((ts.map V.str).reverse ++ [.str wd]))) l (.lst [])) R=some (.lst (as.map V.ref).reverse):=by
    rw[Zc nlR];exact hRa2
   refine⟨R,_,_,rfl,rfl,hRb,Zx (by rw[List.length_reverse,List.length_map];lia),?_⟩;have tk:TK H1 (upd (upd (upd H1 T (.lst ((ts.map V.str).reverse ++ [.str wd]))) l (.lst [])) R (.lst ((as.map V.ref).reverse ++ [.ref l]))):=((TK.lst hT1).trans (TK.new hl)).trans (TK.lst hRb);have nla:l∉as:=fun hb=>by
    obtain⟨o,ho⟩:=Zem hrows l hb;rw[hl1] at ho;cases ho
   refine⟨l::as,.nil::gs,wd::ts,_,_,rfl,?_,?_,?_,?_,?_,?_,?_,?_,?_,?_,?_⟩
   ·exact((sm.upd_new hT).upd_new (sm.free hl1)).upd_new hR'
   ·rw[Zc hRT.symm,Zc nlT.symm,Zb,List.map_cons,List.reverse_cons]
   ·rw[Zb,List.map_cons,List.reverse_cons]
   ·refine .cons ⟨[],?_,.nil⟩ (Zdl tk hrows fun b hb o ho=>?_)
    ·rw[Zc nlR.symm];exact Zb
    ·rw[Zc (hRa b hb),Zc (Zm ho hl1),Zc (hTa b hb)];exact ho
   ·refine List.nodup_cons.mpr ⟨fun h=>?_,List.nodup_cons.mpr ⟨fun h=>?_,List.nodup_cons.mpr ⟨nla,ndA⟩⟩⟩
    ·rcases List.mem_cons.mp h with h|h
     ·exact hRT h
     ·rcases List.mem_cons.mp h with h|h
      ·exact nlR h
      ·exact ndR (List.mem_cons_of_mem _ h)
    ·rcases List.mem_cons.mp h with h|h
     ·exact nlT h.symm
     ·exact ndT' h
   ·intro b hb;rcases List.mem_cons.mp hb with rfl|hb
    ·exact sm.free hl1
    ·exact hfr b hb
   ·simpa using hgl
   ·rw[Zht,hflat,htake]
   ·exact hc'
   ·intro g hg;rcases List.mem_cons.mp hg with rfl|hg
    ·trivial
    ·exact hcl g hg
   ·intro x hx;rcases List.mem_cons.mp hx with rfl|hx
    ·exact e
    ·exact htn x hx
 ·rintro σ H1 ⟨as,gs,ts,v3,v4,rfl,sm,hT1,hR1',hrows,nd,hfr,hgl,hflat,hc,hcl,htn⟩;rw[List.length_map] at hflat hc;rw[List.take_length] at hflat;rw[List.drop_length] at hc;obtain rfl:ts=[]:=List.eq_nil_of_length_eq_zero hc;cases gs with
  | nil=>simp at hgl
  | cons g gs =>
   obtain rfl:gs=[]:=List.eq_nil_of_length_eq_zero (by simpa using hgl);cases hrows with
   | @cons b _ _ _ r hrows =>
    cases hrows;obtain⟨vs,hb,hg⟩:=r;refine⟨_,rfl,R,_,0,.ref b,rfl,rfl,SqL.of hR1',rfl,b,vs,rfl,.inl ⟨SqL.of hb,fun r hr=>?_⟩⟩;exact q r vs g _ (sm.upd_new (sm.free hr)) (sm.free hr) Zb (hg.mono (TK.new hr)) hflat (hcl g (List.mem_cons_self ..))
def Zii(d:Nat):Sp:=fun vs H Q _=>∃(q rl:Addr)(ys zs:List V)(p:Pa)(fk:Int->Nat×Nat),vs=[.ref q,.ref rl]/\H q=some (.tup ys)/\RepP H ys p/\p.dep<d/\H rl=some (.lst zs)/\(∀m∈p.ks,∃v,atI zs m=some v/\snB.R H v (fk m)) /\
 ∀(v:V)(H':Hp),Zu H H'->snB.R H' v (Zq snB fk p)->Q v H'
theorem Zm3{vs:List V}{H:Hp}{Q:VK}{E:XK}(z:Zii 0 vs H Q E):False:=by
 obtain⟨_,_,_,_,_,_,_,_,_,hd,_⟩:=z;exact absurd hd (Nat.not_lt_zero _)
set_option maxHeartbeats 2000000 in
theorem ZhH(d:Nat)(B:∀x∈Zcb,mg x=none)(g_l_weigh:Has P w K mg base "_law_weigh" ["_law_parts_here","_law_rows"] d (Zii d)) (F:Fun K "_law_weigh" "_law_weigh" ZW f fd):FnOk P w K mg base CX0 (d+1) f fd ["_law_parts_here","_law_rows"] (Zii (d+1)):=by
 refine F.ok ZX (fun vs H Q E h=>?_) (fun cdv A outer s H vs Q E hr h=>?_)
 ·obtain⟨q,rl,ys,zs,p,fk,rfl,_⟩:=h;rfl
 obtain⟨q,rl,ys,zs,p,fk,rfl,hq,hP,hd,hrl,hks,qq⟩:=h;refine Zr ((Ze ZW).drop 3) (Zj (ZS (ZK (Za (pv 2) (Za (pv 3) Zf))))) (fun u3 h3 e3=>?_);refine Zr ((ZF ((Ze ZW).getD 2 (.Pass ⟨0,0,0,0⟩))).drop 3) (Zj (Zn (i:=3) ZX.nd rfl (Or.inl rfl) (ZaG (Zcn rfl) rfl (B "max" (by decide)) ZgZ (Za (pv 3) (Za (pv 6) Zf))))) (fun u2_3 h2_3 e2_3=>?_);refine Zr ((ZF ((Ze ZW).getD 2 (.Pass ⟨0,0,0,0⟩))).drop 2) (Zd (Zn (i:=2) ZX.nd rfl (Or.inl rfl) (Zy Zal (pv 2) (pv 5))) h2_3) (fun u2_2 h2_2 e2_2=>?_);refine Zr ((ZhM ((ZF ((Ze ZW).getD 2 (.Pass ⟨0,0,0,0⟩))).getD 1 (.Pass ⟨0,0,0,0⟩))).drop 2) (Zj (Zn (i:=6) ZX.nd rfl (Or.inl rfl) (Zy Zal (pv 6) Zh))) (fun u2_1e2 h2_1e2 e2_1e2=>?_);refine Zr ((ZhM ((ZF ((Ze ZW).getD 2 (.Pass ⟨0,0,0,0⟩))).getD 1 (.Pass ⟨0,0,0,0⟩))).drop 1) (Zd (Zn (i:=5) ZX.nd rfl (Or.inl rfl) (Zy Zal (pv 5) Zh)) h2_1e2) (fun u2_1e1 h2_1e1 e2_1e1=>?_);refine Zr ((ZhM ((ZF ((Ze ZW).getD 2 (.Pass ⟨0,0,0,0⟩))).getD 1 (.Pass ⟨0,0,0,0⟩))).drop 0) (Zd (Zcc (ZR g_l_weigh hr rfl (Za (ZG ZQ (pv 4) Zh (fun _ _=>rfl)) (Za (pv 1) Zf)) (by lia)) (Zb1 rfl (ZJ (Zt (i:=5) ZX.nd rfl (Or.inl rfl)) (ZJ (Zt (i:=6) ZX.nd rfl (Or.inl rfl)) Zbd)))) h2_1e1) (fun u2_1e0 h2_1e0 e2_1e0=>?_);refine Zr ((ZF ((Ze ZW).getD 2 (.Pass ⟨0,0,0,0⟩))).drop 1) (Zd (Zbi (Z2 Zcr (ZG ZQ (pv 4) Zh (fun _ _=>rfl)) Zan (Zaf _))
   (Zj (Zcc (ZG Z3 (pv 1) (ZG ZQ (pv 4) Zh (fun _ _=>rfl)) (fun _ _=>rfl)) (Zb1 rfl (ZJ (Zt (i:=5) ZX.nd rfl (Or.inl rfl)) (ZJ (Zt (i:=6) ZX.nd rfl (Or.inl rfl)) Zbd)))))
   h2_1e0) h2_2) (fun u2_1 h2_1 e2_1=>?_)
 refine Zr ((ZF ((Ze ZW).getD 2 (.Pass ⟨0,0,0,0⟩))).drop 0) (Zd (Zcc (ZK (Za Zh (Za Zh Zf))) (Zb1 rfl (ZJ (Zt (i:=5) ZX.nd rfl (Or.inl rfl)) (ZJ (Zt (i:=6) ZX.nd rfl (Or.inl rfl)) Zbd)))) h2_1) (fun u2_0 h2_0 e2_0=>?_);refine Zr ((Ze ZW).drop 2) (Zd (ZaB PassesOwn.never rfl (Zea (pv 0)) (Zt (i:=4) ZX.nd rfl (Or.inl rfl))
   h2_0) h3) (fun u2 h2 e2=>?_)
 refine Zr ((Ze ZW).drop 1) (Zd (Zn (i:=3) ZX.nd rfl (Or.inl rfl) Zh) h2) (fun u1 h1 e1=>?_);refine Zr ((Ze ZW).drop 0) (Zd (Zn (i:=2) ZX.nd rfl (Or.inl rfl) Zh) h1) (fun u0 h0 e0=>?_);refine⟨u0,h0,?_⟩;refine Zo e0 ?_;show u1 _ _ _;refine Zo e1 ?_;show u2 _ _ _;refine Zo e2 ?_;refine⟨_,rfl,q,rfl,⟨_,SqT.of hq⟩,Zdx (K:=K) (a:=q) (xs:=ys) (fun i σ H1=>∃(v4 v5 v6:Option V),σ =[some (.ref q),some (.ref rl),some (.int ((Zq snB fk (p.take i)).1:Int)),some (.int ((Zq snB fk (p.take i)).2:Int)),v4,v5,v6]/\Zu H H1)
  ⟨none,none,none,rfl,Zu.refl H⟩ ?_ ?_ ?_⟩
 ·rintro i σ H1 _ ⟨_,_,_,_,s1⟩;exact SqT.of (s1 _ _ hq)
 ·rintro i x σ H1 hx ⟨v4,v5,v6,rfl,s1⟩;obtain⟨a,rfl,ha⟩:=hP.at i x hx;have ksT:∀m∈(p.take (i+1)).ks,m∈p.ks:=fun m hm=>by
   rw[<- ZaJ (i+1) p,Pa.Zbf];exact List.mem_append_left _ hm
  have fin:∀(b:Nat×Nat)(H2:Hp),Zq snB fk (p.take (i+1))=snB.bs (Zq snB fk (p.take i)) b->Zu H H2->∀D:Ends,(∀ σ H3,(∃(v4 v5 v6:Option V),σ =[some (.ref q),some (.ref rl),some (.int ((Zq snB fk (p.take (i+1))).1:Int)),some (.int ((Zq snB fk (p.take (i+1))).2:Int)),v4,v5,v6]/\Zu H H3)->D.nx σ H3)->u2_2 D [some (.ref q),some (.ref rl),some (.int ((Zq snB fk (p.take i)).1:Int)),some (.int ((Zq snB fk (p.take i)).2:Int)),some (.ref a),some (.int (b.1:Int)),some (.int (b.2:Int))] H2:=fun b H2 e s2 D hD=>by
   refine Zo e2_2 ?_;refine⟨_,rfl,_,rfl,_,_,rfl,rfl,?_⟩;show u2_3 _ _ _;refine Zo e2_3 ?_;refine⟨_,rfl,_,rfl,_,_,rfl,?_⟩;refine hD _ _ ⟨some (.ref a),some (.int (b.1:Int)),some (.int (b.2:Int)),?_,s2⟩;rw[e];generalize Zq snB fk (p.take i)=z;have hm:(if(b.2:Int) > (z.2:Int) then(b.2:Int) else(z.2:Int))=((max z.2 b.2:Nat):Int):=by
    split <;> lia
   show [some (V.ref q),some (V.ref rl),some (V.int ((z.1:Int)+(b.1:Int))),some (V.int (if(b.2:Int) > (z.2:Int) then(b.2:Int) else(z.2:Int))),some (V.ref a),some (V.int (b.1:Int)),some (V.int (b.2:Int))]=_
   rw[hm];rfl
  refine Zo e2_0 ?_;refine⟨(by show 2<=sizeLine;decide),fun z0 hz0=>?_⟩;have sz:=Zu.new (o:=.tup [.int 0,.int 0]) hz0;have s2:=s1.trans sz;refine⟨z0,_,rfl,SqT.of Zb,rfl,_,_,rfl,_,_,rfl,rfl,?_⟩;show u2_1 _ _ _;generalize upd H1 z0 (.tup [.int 0,.int 0])=H2 at s2 ⊢;refine Zo e2_1 ?_;rcases ha with⟨m,h1,h2⟩|⟨t,q',ys',w',h1,h2,h3,h4,h5,h6⟩
  ·have h1':=s2 _ _ h1;rw[h2,Pa.Zbf] at ksT;obtain⟨u,hu,b,rfl,hb⟩:=hks m (ksT m (List.mem_append_right _ (List.mem_cons_self ..)));have eC:Zq snB fk (Pa.kids m .nil)=fk m:=snB.bs_no _;refine⟨_,rfl,a,_,0,_,rfl,rfl,SqT.of h1',rfl,rfl,_,rfl,ZhS ?_⟩;refine⟨_,rfl,_,rfl,a,_,1,_,rfl,rfl,SqT.of h1',rfl,rl,_,_,_,rfl,rfl,SqL.of (s2 _ _ hrl),hu,b,_,rfl,SqT.of (s2 _ _ hb),rfl,_,_,rfl,_,_,rfl,rfl,?_⟩;exact fin (fk m) H2 (by rw[h2,Zag,eC]) s2 _ fun _ _ h=>h
  ·have h1':=s2 _ _ h1;rw[h4,Pa.Zbf] at ksT;have eC:Zq snB fk (Pa.tag t w' .nil)=snB.tr t (Zq snB fk w'):=snB.bs_no _;refine⟨_,rfl,a,_,0,_,rfl,rfl,SqT.of h1',rfl,rfl,_,rfl,ZeT ?_⟩;show u2_1e0 _ _ _;refine Zo e2_1e0 ?_;refine⟨_,rfl,a,_,2,_,rfl,rfl,SqT.of h1',rfl,_,rfl,q',rl,ys',zs,w',fk,rfl,s2 _ _ h2,h3.mono s2.tk,by lia,s2 _ _ hrl,fun m hm=>?_,fun u H3 s3 ru=>?_⟩
   ·obtain⟨u,hu,ru⟩:=hks m (ksT m (List.mem_append_right _ (by show m∈w'.ks ++ [];rw[List.append_nil];exact hm)));exact⟨u,hu,snB.mono s2.tk ru⟩
   obtain⟨b,rfl,hb⟩:=ru;refine⟨b,_,rfl,SqT.of hb,rfl,_,_,rfl,_,_,rfl,rfl,?_⟩;show u2_1e1 _ _ _;refine Zo e2_1e1 ?_;refine⟨_,rfl,_,_,rfl,rfl,?_⟩;show u2_1e2 _ _ _;refine Zo e2_1e2 ?_;refine⟨_,rfl,_,_,rfl,rfl,?_⟩;have e1':((snB.tr t (Zq snB fk w')).1:Int)=((Zq snB fk w').1:Int)+1:=by
    show((1+(Zq snB fk w').1:Nat):Int)=_;lia
   have e2':((snB.tr t (Zq snB fk w')).2:Int)=((Zq snB fk w').2:Int)+1:=by
    show((1+(Zq snB fk w').2:Nat):Int)=_;lia
   show u2_2 _ [some (.ref q),some (.ref rl),some (.int ((Zq snB fk (p.take i)).1:Int)),some (.int ((Zq snB fk (p.take i)).2:Int)),some (.ref a),some (.int (((Zq snB fk w').1:Int)+1)),some (.int (((Zq snB fk w').2:Int)+1))] H3;rw[<- e1',<- e2'];exact fin (snB.tr t (Zq snB fk w')) H3 (by rw[h4,Zag,eC]) (s2.trans s3) _ fun _ _ h=>h
 ·rintro σ H1 ⟨v4,v5,v6,rfl,s1⟩;rw[hP.take_all];show u3 _ _ _;refine Zo e3 ?_;refine⟨_,rfl,_,rfl,(by show 2<=sizeLine;decide),fun r hr=>qq _ _ (s1.trans (Zu.new hr)) ⟨r,rfl,Zb⟩⟩
def Zim(d:Nat):Sp:=fun vs H Q _=>∃(q:Addr)(ys:List V)(p:Pa),vs=[.ref q]/\H q=some (.tup ys)/\RepP H ys p/\p.dep<d/\p.sz<=20/\∀(r:Addr)(H':Hp),Zu H H'->H r=none->H' r=some (.lst (p.ks.map V.int))->Q (.ref r) H'
theorem ZmQ{vs:List V}{H:Hp}{Q:VK}{E:XK}(z:Zim 0 vs H Q E):False:=by
 obtain⟨_,_,_,_,_,_,hd,_⟩:=z;exact absurd hd (Nat.not_lt_zero _)
theorem Zg6:∀p:Pa,p.ks.length<=p.sz
 | .nil=>Nat.le_refl _
 | .kids m o=>by
  have:=Zg6 o;show(m::o.ks).length<=1+o.sz;rw[List.length_cons];lia
 | .tag t w o=>by
  have:=Zg6 w;have:=Zg6 o;show(w.ks++o.ks).length<=1+w.sz+o.sz;rw[List.length_append];lia
set_option maxHeartbeats 2000000 in
theorem ZfK(d:Nat)(B:∀x∈Zcb,mg x=none)(g_l_kids_in:Has P w K mg base "_law_kids_in" ["_law_parts_here"] d (Zim d)) (F:Fun K "_law_kids_in" "_law_kids_in" Za1 f fd):FnOk P w K mg base CX0 (d+1) f fd ["_law_parts_here"] (Zim (d+1)):=by
 refine F.ok ZbZ (fun vs H Q E h=>?_) (fun cdv A outer s H vs Q E hr h=>?_)
 ·obtain⟨q,ys,p,rfl,_⟩:=h;rfl
 obtain⟨q,ys,p,rfl,hq,hP,hd,hsz,qq⟩:=h;refine⟨_,(Zd (Zn (i:=1) ZbZ.nd rfl (Or.inl rfl) (Zas Zf))
  (Zd (ZaB PassesOwn.never rfl (Zea (pv 0)) (Zt (i:=2) ZbZ.nd rfl (Or.inl rfl))
   (Zj (Zbi (Z2 Zcr (ZG ZQ (pv 2) Zh (fun _ _=>rfl)) Zan (Zaf _))
     (Zj (ZV (Zbe PySem.F.plainAttrs_list PySem.F.slot_list_append PySem.F.type_list_append ZD (pv 1) (Za (ZG ZQ (pv 2) Zh (fun _ _=>rfl)) Zf))))
     (Zj (ZV (Zbe PySem.F.plainAttrs_list PySem.F.slot_list_extend PySem.F.type_list_extend ZdS (pv 1) (Za (ZR g_l_kids_in hr rfl (Za (ZG ZQ (pv 2) Zh (fun _ _=>rfl)) Zf) (by lia)) Zf)))))))
  (Zj (ZS (pv 1))))),?_⟩
 refine⟨by decide,fun r hr=>?_⟩;have s0:=Zu.new (o:=.lst []) hr;refine⟨_,rfl,q,rfl,⟨_,SqT.of (s0 _ _ hq)⟩,Zdx (K:=K) (a:=q) (xs:=ys) (fun i σ H1=>∃(v2:Option V),σ =[some (.ref q),some (.ref r),v2]/\Zu H H1/\H1 r=some (.lst ((p.take i).ks.map V.int)))
  ⟨none,rfl,s0,Zb⟩ ?_ ?_ ?_⟩
 ·rintro i σ H1 _ ⟨_,_,s1,_⟩;exact SqT.of (s1 _ _ hq)
 ·rintro i x σ H1 hx ⟨v2,rfl,s1,hr1⟩;obtain⟨a,rfl,ha⟩:=hP.at i x hx;have len20:(p.take i).ks.length<=20:=by
   have h1:=Zg6 p;have h2:((p.take i).ks++(Pa.dropP i p).ks).length<=p.sz:=by
    rw[<- Pa.Zbf,ZaJ];exact h1
   rw[List.length_append] at h2;lia
  rcases ha with⟨m,h1,h2⟩|⟨t,q',ys',w',h1,h2,h3,h4,h5,h6⟩
  ·have h1':=s1 _ _ h1;refine⟨_,rfl,a,_,0,_,rfl,rfl,SqT.of h1',rfl,rfl,_,rfl,ZhS ?_⟩;refine⟨_,rfl,.inl ⟨rfl,_,SqL.of hr1⟩,_,rfl,a,_,1,_,rfl,rfl,SqT.of h1',rfl,r,_,_,rfl,rfl,hr1,Zx (by rw[List.length_map];lia),?_⟩;refine⟨_,rfl,s1.upd_new hr,?_⟩;rw[Zb,h2,Pa.Zbf,List.map_append];rfl
  ·have h1':=s1 _ _ h1;refine⟨_,rfl,a,_,0,_,rfl,rfl,SqT.of h1',rfl,rfl,_,rfl,ZeT ?_⟩;have hw:w'.sz<=20:=by
    have e:=ZaJ (i+1) p;rw[h4] at e;have:=congrArg Pa.sz e;rw[Pa.Zeg,Pa.Zeg] at this;simp only[Pa.sz] at this;lia
   refine⟨_,rfl,.inl ⟨rfl,_,SqL.of hr1⟩,_,rfl,a,_,2,_,rfl,rfl,SqT.of h1',rfl,q',ys',w',rfl,s1 _ _ h2,h3.mono s1.tk,by lia,hw,fun r2 H2 s2 hr2 hr2'=>?_⟩;have hwk:=Zg6 w';refine⟨r,r2,_,_,rfl,rfl,s2 _ _ hr1,hr2',ZaA (by rw[List.length_map,List.length_map];lia),?_⟩;refine⟨_,rfl,(s1.trans s2).upd_new hr,?_⟩;rw[Zb,h4,Pa.Zbf,List.map_append];show _=some (HO.lst (_++List.map V.int (w'.ks ++ [])));rw[List.append_nil]
 ·rintro σ H1 ⟨v2,rfl,s1,hr1⟩;rw[hP.take_all] at hr1;exact⟨_,rfl,qq r H1 s1 hr hr1⟩
def ZiP(d:Nat):Sp:=fun vs H Q _=>∃(q kd:Addr)(ys:List V)(p:Pa)(kvs:List (Key×V))(fk:Int->Gr Str),vs=[.ref q,.ref kd]/\H q=some (.tup ys)/\RepP H ys p/\p.dep<d/\H kd=some (.dK kvs)/\(∀m∈p.ks,∃v,Zbg kvs (Sum.inl m)=some v/\(snG 2000).R H v (fk m))/\gsz (Zq (snG 2000) fk p)<=2000 /\
 ∀(v:V)(H':Hp),Zu H H'->(snG 2000).R H' v (Zq (snG 2000) fk p)->Q v H'
theorem Zna{vs:List V}{H:Hp}{Q:VK}{E:XK}(z:ZiP 0 vs H Q E):False:=by
 obtain⟨_,_,_,_,_,_,_,_,_,hd,_⟩:=z;exact absurd hd (Nat.not_lt_zero _)
set_option maxHeartbeats 2000000 in
theorem ZfU(d:Nat)(B:∀x∈Zcb,mg x=none)(g_l_filled:Has P w K mg base "_law_filled" ["_law_parts_here","_law_rows"] d (ZiP d)) (F:Fun K "_law_filled" "_law_filled" Za9 f fd):FnOk P w K mg base CX0 (d+1) f fd ["_law_parts_here","_law_rows"] (ZiP (d+1)):=by
 refine F.ok Zbp (fun vs H Q E h=>?_) (fun cdv A outer s H vs Q E hr h=>?_)
 ·obtain⟨q,kd,ys,p,kvs,fk,rfl,_⟩:=h;rfl
 obtain⟨q,kd,ys,p,kvs,fk,rfl,hq,hP,hd,hkd,hks,hok,qq⟩:=h;have hu1:(A.deeper (PyProof.Rows.envOfC (Str.ofString "_law_filled") (Zg Za9) s.heap.objs.size f cdv)).units+1<cLine:=by have:=hr.un;lia
 have rlen:∀{H1:Hp}{v:V}{g:Gr Str},(snG 2000).R H1 v g->gsz g<=2000->∃a xs,v=.ref a/\H1 a=some (.tup xs)/\RepG H1 xs g/\xs.length<=4000:=fun{H1 v g} ⟨a,xs,e,h1,h2⟩ hg=>by
  have:=h2.length;rw[ZM] at this;exact⟨a,xs,e,h1,h2,by lia⟩
 have hok':(snG 2000).Ok (Zq (snG 2000) fk p):=hok;refine⟨_,(Zd (Zn (i:=2) Zbp.nd rfl (Or.inl rfl) (ZK Zf))
  (Zd (ZaB PassesOwn.never rfl (Zea (pv 0)) (Zt (i:=3) Zbp.nd rfl (Or.inl rfl))
   (Zj (Zbi (Z2 Zcr (ZG ZQ (pv 3) Zh (fun _ _=>rfl)) Zan (Zaf _))
     (Zj (Zn (i:=2) Zbp.nd rfl (Or.inl rfl) (Zy Zey (pv 2) (ZcG hu1 (pv 1) (ZG ZQ (pv 3) Zh (fun _ _=>rfl)) (fun _ _=>rfl)))))
     (Zj (Zn (i:=2) Zbp.nd rfl (Or.inl rfl) (Zy Zey (pv 2) (ZK (Za (ZK (Za (ZG ZQ (pv 3) Zh (fun _ _=>rfl)) (Za (ZR g_l_filled hr rfl (Za (ZG ZQ (pv 3) Zh (fun _ _=>rfl)) (Za (pv 1) Zf)) (by lia)) Zf))) Zf))))))))
  (Zj (ZS (pv 2))))),?_⟩
 refine⟨(by show 0<=sizeLine;decide),fun e0 he0=>?_⟩;have s0:=Zu.new (o:=.tup []) he0;refine⟨_,rfl,q,rfl,⟨_,SqT.of (s0 _ _ hq)⟩,Zdx (K:=K) (a:=q) (xs:=ys) (fun i σ H1=>∃(v:V)(v3:Option V),σ =[some (.ref q),some (.ref kd),some v,v3]/\Zu H H1/\(snG 2000).R H1 v (Zq (snG 2000) fk (p.take i)))
  ⟨.ref e0,none,rfl,s0,e0,[],rfl,Zb,.nil⟩ ?_ ?_ ?_⟩
 ·rintro i σ H1 _ ⟨_,_,_,s1,_⟩;exact SqT.of (s1 _ _ hq)
 ·rintro i x σ H1 hx ⟨v,v3,rfl,s1,rv⟩;obtain⟨a,rfl,ha⟩:=hP.at i x hx;have okT:(snG 2000).Ok (Zq (snG 2000) fk (p.take (i+1))):=by
   rw[<- ZaJ (i+1) p,Zag] at hok';exact(snG 2000).okl hok'
  have ksT:∀m∈(p.take (i+1)).ks,m∈p.ks:=fun m hm=>by
   rw[<- ZaJ (i+1) p,Pa.Zbf];exact List.mem_append_left _ hm
  rcases ha with⟨m,h1,h2⟩|⟨t,q',ys',w',h1,h2,h3,h4,h5,h6⟩
  ·have h1':=s1 _ _ h1;rw[h2,Pa.Zbf] at ksT;rw[h2,Zag] at okT;obtain⟨u,hu,ru⟩:=hks m (ksT m (List.mem_append_right _ (List.mem_cons_self ..)));have eC:Zq (snG 2000) fk (Pa.kids m .nil)=fk m:=(snG 2000).bs_no _;rw[eC] at okT;have hg:=ZeQ.k (k:=Sum.inl m) (s1 _ _ hkd);rw[hu] at hg;obtain⟨b,xb,rfl,hb,rb,lb⟩:=rlen rv ((snG 2000).okl okT);obtain⟨c,xc',rfl,hc,rc,lc⟩:=rlen ((snG 2000).mono s1.tk ru) ((snG 2000).okr okT);refine⟨_,rfl,a,_,0,_,rfl,rfl,SqT.of h1',rfl,rfl,_,rfl,ZhS ?_⟩;refine⟨_,rfl,_,rfl,_,rfl,a,_,1,_,rfl,rfl,SqT.of h1',rfl,kd,_,rfl,hg,b,c,xb,xc',rfl,rfl,hb,hc,ZaA (by lia),fun pp H2 s2 hp=>?_⟩;refine⟨.ref pp,_,rfl,s1.trans s2,?_⟩;rw[h2,Zag,eC];exact⟨pp,_,rfl,hp,RepG.ZaZ (rb.mono s2.tk) (rc.mono s2.tk)⟩
  ·have h1':=s1 _ _ h1;rw[h4,Pa.Zbf] at ksT;rw[h4,Zag] at okT;have eC:Zq (snG 2000) fk (Pa.tag t w' .nil)=(snG 2000).tr t (Zq (snG 2000) fk w'):=(snG 2000).bs_no _;rw[eC] at okT;refine⟨_,rfl,a,_,0,_,rfl,rfl,SqT.of h1',rfl,rfl,_,rfl,ZeT ?_⟩;refine⟨_,rfl,_,rfl,a,_,1,_,rfl,rfl,SqT.of h1',rfl,_,rfl,a,_,2,_,rfl,rfl,SqT.of h1',rfl,_,rfl,q',kd,ys',w',kvs,fk,rfl,s1 _ _ h2,h3.mono s1.tk,by lia,s1 _ _ hkd,fun m hm=>?_,(snG 2000).okt ((snG 2000).okr okT),fun u H2 s2 ru=>?_⟩
   ·obtain⟨u,hu,ru⟩:=hks m (ksT m (List.mem_append_right _ (by show m∈w'.ks ++ [];rw[List.append_nil];exact hm)));exact⟨u,hu,(snG 2000).mono s1.tk ru⟩
   obtain⟨c,xc',rfl,hc,rc⟩:=ru;refine⟨(by show 2<=sizeLine;decide),fun k1 hk1=>⟨(by show 1<=sizeLine;decide),fun k2 hk2=>?_⟩⟩;have z1:=Zu.new (o:=.tup [.str t,.ref c]) hk1;have z2:=Zu.new (o:=.tup [.ref k1]) hk2;have s24:=s2.trans (z1.trans z2);obtain⟨b,xb,rfl,hb,rb,lb⟩:=rlen ((snG 2000).mono s24.tk rv) ((snG 2000).okl okT);refine⟨b,k2,xb,[.ref k1],rfl,rfl,hb,Zb,ZaA (by show _+1<=_;lia),fun pp H5 s5 hp=>?_⟩;refine⟨.ref pp,_,rfl,s1.trans (s24.trans s5),?_⟩;rw[h4,Zag,eC];exact⟨pp,_,rfl,hp,RepG.ZaZ (rb.mono s5.tk) (.cons ((z2.trans s5) _ _ Zb) ((z1.trans (z2.trans s5)) _ _ hc) (rc.mono (z1.trans (z2.trans s5)).tk) .nil)⟩
 ·rintro σ H1 ⟨v,v3,rfl,s1,rv⟩;rw[hP.take_all] at rv;exact⟨_,rfl,qq v H1 s1 rv⟩
theorem ZbR(g h:Gr Str):words SL (ZaZ g h)=words SL g++words SL h:=ZcB SL g h
theorem ZeB{f:Int->Gr Str}{M:Nat}:∀{p:Pa},(∀k∈p.ks,gsz (f k)<=M)->gsz (Zq (snG 0) f p)<=p.sz+p.nk*M
 | .nil,_=>Nat.zero_le _
 | .kids m o,h=>by
  have h1:=ZeB (p:=o) fun k hk=>h k (List.mem_cons_of_mem _ hk);have h2:=h m (List.mem_cons_self ..);show gsz (ZaZ (f m) (Zq (snG 0) f o))<=1+o.sz+(1+o.nk)*M;rw[ZaO,Nat.add_mul];lia
 | .tag t w o,h=>by
  have h1:=ZeB (p:=w) fun k hk=>h k (List.mem_append_left _ hk);have h2:=ZeB (p:=o) fun k hk=>h k (List.mem_append_right _ hk);show gsz (ZaZ (.cons t (Zq (snG 0) f w) .nil) (Zq (snG 0) f o))<=1+w.sz+o.sz+(w.nk+o.nk)*M;rw[ZaO,Nat.add_mul];show 1+gsz (Zq (snG 0) f w)+0+_<=_;lia
theorem Zb9{S:Str->Prop}(h0:S SL){f:Int->Gr Str}:∀{p:Pa},(∀x∈p.tags,S x)->(∀k∈p.ks,∀x∈words SL (f k),S x)->∀x∈words SL (Zq (snG 0) f p),S x
 | .nil,_,_,_,h=>nomatch h
 | .kids m o,ht,hk,x,h=>by
  have h:x∈words SL (ZaZ (f m) (Zq (snG 0) f o)):=h;rw[ZbR] at h;rcases List.mem_append.mp h with h|h
  ·exact hk m (List.mem_cons_self ..) x h
  ·exact Zb9 h0 (p:=o) ht (fun k hk'=>hk k (List.mem_cons_of_mem _ hk')) x h
 | .tag t w o,ht,hk,x,h=>by
  have h:x∈words SL (ZaZ (.cons t (Zq (snG 0) f w) .nil) (Zq (snG 0) f o)):=h;rw[ZbR] at h;rcases List.mem_append.mp h with h|h
  ·have h:x∈t::(words SL (Zq (snG 0) f w)++SL :: []):=h;rcases List.mem_cons.mp h with rfl|h
   ·exact ht _ (by simp[Pa.tags])
   ·rcases List.mem_append.mp h with h|h
    ·exact Zb9 h0 (p:=w) (fun y hy=>ht y (by simp[Pa.tags,hy])) (fun k hk'=>hk k (List.mem_append_left _ hk')) x h
    ·rw[List.mem_singleton.mp h];exact h0
  ·exact Zb9 h0 (p:=o) (fun y hy=>ht y (by simp[Pa.tags,hy])) (fun k hk'=>hk k (List.mem_append_right _ hk')) x h
theorem ZeJ{S:Str->Prop}(h0:S SL){kn:Kn}(hk:∀i t p,kn i t=some p->∀x∈p.tags,S x):∀(g:Gr Str)(m:Int),(∀x∈words SL g,S x)->∀x∈words SL (chG kn g m),S x
 | .nil,_,_,_,h=>nomatch h
 | .cons t w o,m,hg,x,h=>by
  have hg:∀x∈t::(words SL w++SL::words SL o),S x:=hg;have h:x∈words SL (ZaZ (Zq (snG 0) (chG kn w) (paC kn m t)) (chG kn o m)):=h;rw[ZbR] at h;rcases List.mem_append.mp h with h|h
  ·refine Zb9 h0 (fun y hy=>?_) (fun k _=>ZeJ h0 hk w k fun y hy=>hg y (by simp[hy])) x h;unfold paC at hy;cases e:kn m t with
   | none =>
    rw[e] at hy;have hy:y ∈ [t]:=hy;rw[List.mem_singleton.mp hy];exact hg t (by simp)
   | some p =>
    rw[e] at hy;exact hk _ _ _ e y hy
  ·exact ZeJ h0 hk o m (fun y hy=>hg y (by simp[hy])) x h
theorem Zgb{α β : Type}{R : α -> β -> Prop}{xs ys:List α}(h:xs.Perm ys):∀{zs:List β},Paired R xs zs->∃ws,ws.Perm zs/\Paired R ys ws:=by
 induction h with
 | nil=>exact fun h=>⟨_,List.Perm.refl _,h⟩
 | cons x _ ih =>
  intro zs h;cases h with
  | cons a t =>
   obtain⟨ws,h1,h2⟩:=ih t;exact⟨_::ws,h1.cons _,.cons a h2⟩
 | swap x y l =>
  intro zs h;cases h with
  | cons a t =>
   cases t with
   | cons b t=>exact⟨_,List.Perm.swap _ _ _,.cons b (.cons a t)⟩
 | trans _ _ ih1 ih2 =>
  intro zs h;obtain⟨w1,h1,h2⟩:=ih1 h;obtain⟨w2,h3,h4⟩:=ih2 h2;exact⟨w2,h3.trans h1,h4⟩
theorem RkL.knr{H:Hp}{m:List (List Key×V)}{rs rp:List (Int×Str×Pa)}(h:RkL H m rs)(hn:(rs.map fun r=>Za0 r.1 r.2.1).Nodup)(hp:rp.Perm rs):KnR H m (Z4 rp):=fun i t=>by
 have hn':(rp.map fun r=>Za0 r.1 r.2.1).Nodup:=(hp.map _).nodup_iff.mpr hn;have km:=Zj4 hn';cases e:Z4 rp i t with
 | none =>
  refine .inl ⟨h.absent (Za0 i t) fun r hr z=>?_,rfl⟩;obtain⟨z1,z2⟩:=Zc1 z;have:=(km i t r.2.2).mpr (hp.mem_iff.mpr (by rw[<- z1,<- z2];exact hr));rw[e] at this;cases this
 | some p =>
  have hm:(i,t,p)∈rs:=hp.mem_iff.mp ((km i t p).mp e);obtain⟨q,ys,h1,h2,h3⟩:=h.mem hn _ hm;exact .inr ⟨q,ys,p,h1,h2,h3,rfl⟩
theorem Zh6{kn:Kn}(hs:∀i t p,kn i t=some p->p.sz<=6)(hk:∀i t p,kn i t=some p->p.nk<=1):∀(g:Gr Str)(m:Int),gsz (chG kn g m)<=6*gsz g
 | .nil,_=>Nat.zero_le _
 | .cons t w o,m=>by
  have iw:=fun k=>Zh6 hs hk w k;have io:=Zh6 hs hk o m;have p12:(paC kn m t).sz<=6/\(paC kn m t).nk<=1:=by
   unfold paC;cases e:kn m t with
   | none=>exact⟨Nat.le_of_ble_eq_true rfl,Nat.le_of_ble_eq_true rfl⟩
   | some p=>exact⟨hs _ _ _ e,hk _ _ _ e⟩
  have c:=ZeB (f:=chG kn w) (M:=6*gsz w) (p:=paC kn m t) fun k _=>iw k;have c2:=Nat.mul_le_mul_right (6*gsz w) p12.2;show gsz (ZaZ (Zq (snG 0) (chG kn w) (paC kn m t)) (chG kn o m))<=6*(1+gsz w+gsz o);rw[ZaO];lia
theorem Zkt:∀(g:Gr Str)(m:Int),chG (Z4 []) g m=g
 | .nil,_=>rfl
 | .cons t w o,m=>by
  show ZaZ (ZaZ (.cons t (ZaZ (chG (Z4 []) w m) .nil) .nil) .nil) (chG (Z4 []) o m)=_;rw[Zco,Zco,Zkt w m,Zkt o m];rfl
def Kp(H H':Hp):Prop := ∀b o,H b=some o->(∀x,o ≠ .ext x)->H' b=some o
theorem Kp.same{H H':Hp}(s:Zu H H'):Kp H H':=fun b o h _=>s b o h
theorem Kp.trans{H H1 H2:Hp}(a:Kp H H1)(b:Kp H1 H2):Kp H H2:=fun c o h n=>b c o (a c o h n) n
theorem Kp.ext{H H1:Hp}{e:Addr}{x:Heap->Prop}{o:HO}(a:Kp H H1)(h:H1 e=some (.ext x)):Kp H (upd H1 e o):=fun b u q n=>by
 have q1:=a b u q n;have:b≠e:=fun z=>by
  rw[z,h] at q1;exact n x (Option.some.inj q1).symm
 rw[Zc this];exact q1
theorem Kp.tk{H H':Hp}(k:Kp H H'):TK H H':=fun b xs e=>k b _ e fun _ z=>nomatch z
def Zc9:Sp:=fun vs H Q _=>∃(ch ga:Addr)(mo n:Int)(rs:List (Int×Str×Pa))(xs:List V)(G D:Gr Str),vs=[.ref ch,.ref ga,.int mo]/\ChC H ch n rs/\n<=100/\0<=mo/\mo<n/\H ga=some (.tup xs)/\RepG H xs G/\ZaW SL G/\gsz G<=400/\chG (Z4 rs) G mo=D/\gsz D<=40000 /\
 (gsz D<=300->Zbs D<=100->∀(r a:Addr)(zs:List V)(H':Hp),Kp H H'->H' r=some (.tup [.ref a,.bl false])->H' a=some (.tup zs)->RepG H' zs D->Q (.ref r) H') /\
 (¬ (gsz D<=300/\Zbs D<=100)->∀(r:Addr)(H':Hp),Kp H H'->H' r=some (.tup [.non,.bl true])->Q (.ref r) H')
set_option maxHeartbeats 1000000 in
theorem Zi0(B:∀x∈Zcb,mg x=none)(xc:XC K mg X_GroveError X_TooBig)(g_changed:HasX P w K mg base "changed" ["changer","grove","mode"] 26 (ZbE X_TooBig)) (g_changedD:HasXD P w K mg base "changed" ["changer","grove","mode"] [.int 0] 26 (ZbE X_TooBig)) (F:Fun K "_law_told" "_law_told" Zb7 f fd):FnOk P w K mg base CX0 27 f fd ["_law_one","_law_grove_here","_law_mode"] Zc9:=by
 refine F.ok ZbW (fun vs H Q E h=>?_) (fun cdv A outer s H vs Q E hr h=>?_)
 ·obtain⟨ch,ga,mo,n,rs,xs,G,D,rfl,_⟩:=h;rfl
 obtain⟨ch,ga,mo,n,rs,xs,G,D,rfl,hch,hn,o0,o1,hga,rg,hcl,hz,hD,hd4,q1,q2⟩:=h;subst hD;refine⟨_,(Zd (Zn (i:=3) ZbW.nd rfl (Or.inl rfl) ZlO)
  (Zd (Zn (i:=4) ZbW.nd rfl (Or.inl rfl) ZdE)
  (Zd (ZlA rfl rfl (fun E pins E₁ hT hp=>(Zj (Zn (i:=3) ZbW.nd rfl (Or.inl rfl) (Zh2 g_changed hT hr rfl (Za (pv 0) (Za (pv 1) (Za (pv 2) Zf)))))))
   (ZlP (rest:=[]) (fun e=>(ZfZ (v:=.ref X_TooBig) rfl xc.n_TooBig rfl)) (fun e=>(Zj (Zn (i:=4) ZbW.nd rfl (Or.inl rfl) ZdE)))))
  (Zj (ZS (ZK (Za (pv 3) (Za (pv 4) Zf)))))))),?_⟩
 refine⟨fun σ' C d H'=>σ'=[some (.ref ch),some (.ref ga),some (.int mo),some .non,some (.bl false)]/\C=.ref X_TooBig /\ ¬ (gsz (chG (Z4 rs) G mo)<=300/\Zbs (chG (Z4 rs) G mo)<=100)/\d=none/\Zu H H',?_,?_⟩
 ·refine⟨_,rfl,_,rfl,_,rfl,ch,ga,mo,n,rs,xs,G,rfl,hch,hn,o0,o1,hga,rg,hcl,hz,hd4,fun b1 b2 a zs H' s4 ha ra=>?_,fun b H' s4=>⟨rfl,rfl,b,rfl,s4⟩⟩;refine⟨_,rfl,_,rfl,(by show 2<=sizeLine;decide),fun r hr=>?_⟩;have s5:=Zu.new (o:=.tup [.ref a,.bl false]) hr;exact q1 b1 b2 r a zs _ (Kp.same (s4.trans s5)) Zb (s5 _ _ ha) (ra.mono s5.tk)
 ·rintro σ' C d H' e oe ⟨rfl,rfl,hb,rfl,sm⟩ he hc hd hf;have k0:Kp H (upd H' e (Known e oe)):=(Kp.same sm).ext he;have e3:(upd H' e (Known e oe)) e=some (Known e oe):=Zb;generalize upd H' e (Known e oe)=H1 at k0 e3;refine⟨[X_TooBig],X_TooBig,fun _=>true,.one xc.c_TooBig,hc,?_,rfl,e3,?_⟩
  ·intro D hD;obtain rfl:=List.mem_singleton.mp hD;exact xc.m_TooBig_TooBig
  refine⟨_,rfl,_,rfl,(by show 2<=sizeLine;decide),fun r hr=>?_⟩;have s4:=Zu.new (o:=.tup [.non,.bl true]) hr;exact q2 hb r _ (k0.trans (Kp.same s4)) Zb
def ZcW:Gr Str->List (Gr Str)->List Str
 | g,[]=>words SL g
 | g,h::r=>words SL g++SL::ZcW h r
theorem Zep:∀(g:Gr Str)(r:List (Gr Str)),ZaW SL g->(∀h∈r,ZaW SL h)->dif (ZcW g r)=(r.length:Int)
 | g,[],hg,_=>Zbm hg
 | g,h::r,hg,hr=>by
  show dif (words SL g++SL::ZcW h r)=_;rw[Zcj,Zbm hg];show 0+((if SL=SL then(1:Int) else -1)+dif (ZcW h r))=_
  rw[if_pos rfl,Zep h r (hr h (List.mem_cons_self ..)) fun x hx=>hr x (List.mem_cons_of_mem _ hx),List.length_cons];lia
theorem ZjO(t:Str)(g h:Gr Str):∀r:List (Gr Str),t::ZcW g (h::r)=ZcW (.cons t g h) r
 | []=>rfl
 | k::r=>by
  show t::(words SL g++SL::(words SL h++SL::ZcW k r))=(t::(words SL g++SL::words SL h))++SL::ZcW k r;simp
def RowW(kn:Kn)(n:Int)(H:Hp)(l:Addr)(g:Gr Str):Prop := ∃zs,H l=some (.lst zs)/\∀m,0<=m->m<n->∃v,atI zs m=some v/\snB.R H v (chS snB kn g m)
theorem RowW.keep{kn:Kn}{n:Int}{H H':Hp}{l R:Addr}{g:Gr Str}(h:RowW kn n H l g)(hl:l≠R)(k:∀b o,b≠R->H b=some o->H' b=some o)(tk:TK H H'):RowW kn n H' l g:=by
 obtain⟨zs,h1,h2⟩:=h;refine⟨zs,k _ _ hl h1,fun m a b=>?_⟩;obtain⟨v,e1,e2⟩:=h2 m a b;exact⟨v,e1,snB.mono tk e2⟩
def Zdn(kn:Kn)(n:Int)(H:Hp)(ls:List Addr)(gs:List (Gr Str)):Prop:=Paired (RowW kn n H) ls gs
theorem Zdn.keep{kn:Kn}{n:Int}{H H':Hp}{R:Addr}(k:∀b o,b≠R->H b=some o->H' b=some o)(tk:TK H H'):∀{ls:List Addr}{gs:List (Gr Str)},Zdn kn n H ls gs->(∀l∈ls,l≠R)->Zdn kn n H' ls gs
 | _,_,.nil,_=>.nil
 | _,_,.cons h t,hn=>.cons (h.keep (hn _ (List.mem_cons_self ..)) k tk) (Zdn.keep k tk t fun l hl=>hn l (List.mem_cons_of_mem _ hl))
def ZcH:Sp:=fun vs H Q _=>∃(d wl:Addr)(n:Int)(m:List (List Key×V))(kn:Kn)(G:Gr Str),vs=[.ref d,.int n,.ref wl]/\H d=some (.dT m)/\KnR H m kn/\KnV kn n/\0<n/\n<=100/\H wl=some (.lst ((words SL G).map V.str))/\ZaW SL G/\gsz G<=400/\∀(r:Addr)(H':Hp),Zu H H'->RowW kn n H' r G->Q (.ref r) H'
theorem ZgF{kn:Kn}{n:Int}{H:Hp}{z l:Addr}(h0:0<n)(h1:H z=some (.tup [.int 0,.int 0]))(h2:H l=some (.lst (List.replicate n.toNat [V.ref z]).flatten)):RowW kn n H l .nil:=by
 refine⟨_,h2,fun m a b=>⟨.ref z,?_,z,rfl,h1⟩⟩;have e:(List.replicate n.toNat [V.ref z]).flatten=List.replicate n.toNat (V.ref z):=by
  generalize n.toNat=k
  induction k with
  | zero=>rfl
  | succ k ih=>rw[List.replicate_succ,List.flatten_cons,ih,List.replicate_succ];rfl
 rw[e];have:=Za5 (j:=m.toNat) (xs:=List.replicate n.toNat (V.ref z)) (v:=V.ref z) (by rw[List.getElem?_replicate,if_pos (by lia)])
 rwa [Int.toNat_of_nonneg a] at this
set_option maxHeartbeats 4000000 in
theorem Zgp(B:∀x∈Zcb,mg x=none)(g_l_weigh:Has P w K mg base "_law_weigh" ["_law_parts_here","_law_rows"] 24 (Zii 24)) (g_l_parts_for:Has P w K mg base "_law_parts_for" ["_law_ways_here","_law_mode","_law_tag"] 1 ZaU) (F:Fun K "_law_weight" "_law_weight" Zz f fd):FnOk P w K mg base CX0 25 f fd ["_law_ways_here","_law_modes","_law_words_here"] ZcH:=by
 refine F.ok Zao (fun vs H Q E h=>?_) (fun cdv A outer s H vs Q E hr h=>?_)
 ·obtain⟨d,wl,n,m,kn,G,rfl,_⟩:=h;rfl
 obtain⟨d,wl,n,m,kn,G,rfl,hd,hkn,kv,n0,n100,hwl,hcl,hz,q⟩:=h;have hwz:=ZM G;refine Zr ((Ze Zz).drop 2) (Zj (ZS (ZG Z3 (pv 3) (Ze1 ZcP Zh) (fun _ _=>rfl)))) (fun u2 h2 e2=>?_);refine Zr ((ZF ((Ze Zz).getD 1 (.Pass ⟨0,0,0,0⟩))).drop 5) (Zj (ZV (Zbe PySem.F.plainAttrs_list PySem.F.slot_list_append PySem.F.type_list_append ZD (pv 3) (Za (pv 7) Zf)))) (fun u1_5 h1_5 e1_5=>?_);refine Zr ((ZF ((ZF ((Ze Zz).getD 1 (.Pass ⟨0,0,0,0⟩))).getD 4 (.Pass ⟨0,0,0,0⟩))).drop 1) (Zj (ZV (Zbe PySem.F.plainAttrs_list PySem.F.slot_list_append PySem.F.type_list_append ZD (pv 7) (Za (ZK (Za (Zy Zal (pv 9) (ZG ZQ (ZG Z3 (pv 6) (pv 8) (fun _ _=>rfl)) Zh (fun _ _=>rfl))) (Za (ZaG (Zcn rfl) rfl (B "max" (by decide)) ZgZ (Za (pv 10) (Za (ZG ZQ (ZG Z3 (pv 6) (pv 8) (fun _ _=>rfl)) Zh (fun _ _=>rfl)) Zf))) Zf))) Zf)))) (fun u1_4_1 h1_4_1 e1_4_1=>?_);refine Zr ((ZF ((ZF ((Ze Zz).getD 1 (.Pass ⟨0,0,0,0⟩))).getD 4 (.Pass ⟨0,0,0,0⟩))).drop 0) (Zd (Zcc (ZR g_l_weigh hr rfl (Za (ZR g_l_parts_for hr rfl (Za (pv 0) (Za (pv 8) (Za (pv 4) Zf)))) (Za (pv 5) Zf))) (Zb1 rfl (ZJ (Zt (i:=9) Zao.nd rfl (Or.inl rfl)) (ZJ (Zt (i:=10) Zao.nd rfl (Or.inl rfl)) Zbd)))) h1_4_1) (fun u1_4_0 h1_4_0 e1_4_0=>?_);refine Zr ((ZF ((Ze Zz).getD 1 (.Pass ⟨0,0,0,0⟩))).drop 4) (Zd (ZaB PassesOwn.never rfl (Zbq rfl (B "range" (by decide)) (Za (pv 1) Zf)) (Zt (i:=8) Zao.nd rfl (Or.inl rfl))
   h1_4_0) h1_5) (fun u1_4 h1_4 e1_4=>?_)
 refine Zr ((ZF ((Ze Zz).getD 1 (.Pass ⟨0,0,0,0⟩))).drop 3) (Zd (Zn (i:=7) Zao.nd rfl (Or.inl rfl) (Zas Zf)) h1_4) (fun u1_3 h1_3 e1_3=>?_);refine Zr ((ZF ((Ze Zz).getD 1 (.Pass ⟨0,0,0,0⟩))).drop 2) (Zd (Zn (i:=6) Zao.nd rfl (Or.inl rfl) (ZbX PySem.F.plainAttrs_list PySem.F.slot_list_pop PySem.F.type_list_pop Zb3 (pv 3))) h1_3) (fun u1_2 h1_2 e1_2=>?_);refine Zr ((ZF ((Ze Zz).getD 1 (.Pass ⟨0,0,0,0⟩))).drop 1) (Zd (Zn (i:=5) Zao.nd rfl (Or.inl rfl) (ZbX PySem.F.plainAttrs_list PySem.F.slot_list_pop PySem.F.type_list_pop Zb3 (pv 3))) h1_2) (fun u1_1 h1_1 e1_1=>?_);refine Zr ((ZF ((ZF ((Ze Zz).getD 1 (.Pass ⟨0,0,0,0⟩))).getD 0 (.Pass ⟨0,0,0,0⟩))).drop 1) (Zj ZdB) (fun u1_0t1 h1_0t1 e1_0t1=>?_);refine Zr ((ZF ((ZF ((Ze Zz).getD 1 (.Pass ⟨0,0,0,0⟩))).getD 0 (.Pass ⟨0,0,0,0⟩))).drop 0) (Zd (ZV (Zbe PySem.F.plainAttrs_list PySem.F.slot_list_append PySem.F.type_list_append ZD (pv 3) (Za (Zy Zfd (Zas (Za (ZK (Za Zh (Za Zh Zf))) Zf)) (pv 1)) Zf))) h1_0t1) (fun u1_0t0 h1_0t0 e1_0t0=>?_);refine Zr ((ZF ((Ze Zz).getD 1 (.Pass ⟨0,0,0,0⟩))).drop 0) (Zd (Zbi (Z2 Zcr (pv 4) Zan (Zaf _))
   h1_0t0
   ZaR) h1_1) (fun u1_0 h1_0 e1_0=>?_)
 refine Zr ((Ze Zz).drop 1) (Zd (ZaB PassesOwn.never rfl (ZlK rfl (B "reversed" (by decide)) (Za (pv 2) Zf)) (Zt (i:=4) Zao.nd rfl (Or.inl rfl))
   h1_0) h2) (fun u1 h1 e1=>?_)
 refine Zr ((Ze Zz).drop 0) (Zd (Zn (i:=3) Zao.nd rfl (Or.inl rfl) (Zas (Za (Zy Zfd (Zas (Za (ZK (Za Zh (Za Zh Zf))) Zf)) (pv 1)) Zf))) h1) (fun u0 h0 e0=>?_);refine⟨u0,h0,?_⟩;refine Zo e0 ?_;refine⟨(by show 2<=sizeLine;decide),fun z0 hz0=>⟨(by show 1<=sizeLine;decide),fun l1 hl1=>⟨_,rfl,l1,_,_,rfl,rfl,Zb,by lia,by lia,ZaA (by show 1*_<=_;lia),fun l0 hl0=>⟨(by show 1<=sizeLine;decide),fun R hR=>?_⟩⟩⟩⟩;have s1:=Zu.new (o:=.tup [.int 0,.int 0]) hz0;have s2:=Zu.new (o:=.lst [.ref z0]) hl1;have s3:=Zu.new (o:=.lst (List.replicate n.toNat [V.ref z0]).flatten) hl0;have s4:=Zu.new (o:=.lst [.ref l0]) hR;have s14:=s1.trans (s2.trans (s3.trans s4));have row0:RowW kn n (upd (upd (upd (upd H z0 (.tup [.int 0,.int 0])) l1 (.lst [.ref z0])) l0 (.lst (List.replicate n.toNat [V.ref z0]).flatten)) R (.lst [.ref l0])) l0 .nil:=ZgF n0 ((s2.trans (s3.trans s4)) _ _ Zb) (s4 _ _ Zb);have hR4:(upd (upd (upd (upd H z0 (.tup [.int 0,.int 0])) l1 (.lst [.ref z0])) l0 (.lst (List.replicate n.toNat [V.ref z0]).flatten)) R (.lst [.ref l0])) R=some (.lst ([l0].map V.ref).reverse):=Zb;have hRH:H R=none:=(s1.trans (s2.trans s3)).free hR;have nl0:l0≠R:=fun z=>by rw[<- z,Zb] at hR;cases hR
 show u1 _ _ _;generalize upd (upd (upd (upd H z0 (.tup [.int 0,.int 0])) l1 (.lst [.ref z0])) l0 (.lst (List.replicate n.toNat [V.ref z0]).flatten)) R (.lst [.ref l0])=H4 at s14 row0 hR4 ⊢;refine Zo e1 ?_;refine⟨_,rfl,wl,_,rfl,SqL.of (s14 _ _ hwl),ZkV (K:=K) (a:=wl) (xs:=(words SL G).map V.str) (fun i σ H5=>∃(ls:List Addr)(l:Addr)(g:Gr Str)(gs:List (Gr Str))(v4 v5 v6 v7 v8 v9 v10:Option V),σ =[some (.ref d),some (.int n),some (.ref wl),some (.ref R),v4,v5,v6,v7,v8,v9,v10]/\Zu H H5/\H5 R=some (.lst ((l::ls).map V.ref).reverse)/\Zdn kn n H5 (l::ls) (g::gs)/\(∀x∈l::ls,x≠R)/\ZaW SL g/\(∀h∈gs,ZaW SL h)/\(words SL G).drop ((words SL G).length-i)=ZcW g gs/\ls.length<=i)
  ⟨[],l0,.nil,[],none,none,none,none,none,none,none,rfl,s14,hR4,.cons row0 .nil,fun x hx=>by rw[List.mem_singleton.mp hx];exact nl0,trivial,fun _ h=>(nomatch h),by rw[Nat.sub_zero,List.drop_length];rfl,Nat.zero_le _⟩ ?_ ?_ ?_⟩
 ·rintro i σ H5 _ ⟨_,_,_,_,_,_,_,_,_,_,_,_,s5,_⟩;exact SqL.of (s5 _ _ hwl)
 ·rintro i x σ H5 hi hx ⟨ls,l,g,gs,v4,v5,v6,v7,v8,v9,v10,rfl,s5,hR5,hrows,hnR,hg,hgs,hdrop,hls⟩;rw[List.length_map] at hi hx;rw[List.getElem?_map] at hx;obtain⟨wd,hw,rfl⟩:=Option.map_eq_some_iff.mp hx;have hk:(words SL G).drop ((words SL G).length-(i+1))=wd::ZcW g gs:=by
   obtain⟨hlt,he⟩:=List.getElem?_eq_some_iff.mp hw;have e:=List.drop_eq_getElem_cons hlt;rw[he,show(words SL G).length-1-i+1=(words SL G).length-i by lia,hdrop] at e;rw[show(words SL G).length-(i+1)=(words SL G).length-1-i by lia];exact e
  have hll:ls.length<=900:=by lia
  refine Zo e1_0 ?_;refine⟨_,rfl,rfl,_,rfl,Zd8 (fun c=>?_) (fun c=>?_)⟩
  ·have e:wd=SL:=by
    have:=of_decide_eq_true c;injection this
   subst e;show u1_0t0 _ _ _;refine Zo e1_0t0 ?_;refine⟨_,rfl,.inl ⟨rfl,_,SqL.of hR5⟩,(by show 2<=sizeLine;decide),fun z2 hz2=>⟨(by show 1<=sizeLine;decide),fun l2 hl2=>⟨_,rfl,l2,_,_,rfl,rfl,Zb,by lia,by lia,ZaA (by show 1*_<=_;lia),fun l3 hl3=>?_⟩⟩⟩;have t1:=Zu.new (o:=.tup [.int 0,.int 0]) hz2;have t2:=Zu.new (o:=.lst [.ref z2]) hl2;have t3:=Zu.new (o:=.lst (List.replicate n.toNat [V.ref z2]).flatten) hl3;have t13:=t1.trans (t2.trans t3);have hR6:=t13 _ _ hR5;refine⟨R,_,_,rfl,rfl,hR6,Zx (by rw[List.length_reverse,List.length_map,List.length_cons];lia),?_⟩;have row3:RowW kn n (upd (upd (upd H5 z2 (.tup [.int 0,.int 0])) l2 (.lst [.ref z2])) l3 (.lst (List.replicate n.toNat [V.ref z2]).flatten)) l3 .nil:=ZgF n0 ((t2.trans t3) _ _ Zb) Zb;have nl3:l3≠R:=fun z=>by rw[z,(t1.trans t2) _ _ hR5] at hl3;cases hl3
   have rows3:=hrows.keep (R:=R) (fun b o _ h=>t13 _ _ h) t13.tk hnR;generalize upd (upd (upd H5 z2 (.tup [.int 0,.int 0])) l2 (.lst [.ref z2])) l3 (.lst (List.replicate n.toNat [V.ref z2]).flatten)=H6 at t13 hR6 row3 rows3 ⊢;have kR:∀b o,b≠R->H6 b=some o->(upd H6 R (.lst (((l::ls).map V.ref).reverse ++ [.ref l3]))) b=some o:=fun b o hb h=>by rw[Zc hb];exact h
   have tR:TK H6 (upd H6 R (.lst (((l::ls).map V.ref).reverse ++ [.ref l3]))):=TK.lst hR6;show u1_0t1 _ _ _;refine Zo e1_0t1 ?_;refine⟨l::ls,l3,.nil,g::gs,_,_,_,_,_,_,_,rfl,(s5.trans t13).upd_new hRH,by rw[Zb,List.map_cons (l:=l::ls),List.reverse_cons],.cons (row3.keep nl3 kR tR) (rows3.keep kR tR hnR),fun x hx=>?_,trivial,fun h hh=>?_,by rw[hk];rfl,by rw[List.length_cons];lia⟩
   ·rcases List.mem_cons.mp hx with rfl|hx
    ·exact nl3
    ·exact hnR x hx
   ·rcases List.mem_cons.mp hh with rfl|hh
    ·exact hg
    ·exact hgs h hh
  ·have e:wd≠SL:=fun z=>c (by rw[z];exact decide_eq_true rfl);have h2:1<=gs.length:=by
    have hd1:=Zbm hcl;rw[<- List.take_append_drop ((words SL G).length-(i+1)) (words SL G),Zcj,hk] at hd1;have hd2:=Zgk ((words SL G).take ((words SL G).length-(i+1))) ((words SL G).drop ((words SL G).length-(i+1))) 0 (by rw[List.take_append_drop];exact ZdR hcl);have hd3:dif (wd::ZcW g gs)= -1+(gs.length:Int):=by
     show(if wd=SL then(1:Int) else -1)+dif (ZcW g gs)=_
     rw[if_neg e,Zep g gs hg hgs]
    rw[hd3] at hd1;lia
   cases gs with
   | nil=>exact absurd h2 (by decide)
   | cons g1 gs =>
    cases hrows with
    | cons rowl hrows =>
     cases hrows with
     | @cons l1 _ ls _ rowl1 hrows =>
      have hnl:=hnR l (by simp);have hnl1:=hnR l1 (by simp);have hnls:∀x∈ls,x≠R:=fun x hx=>hnR x (by simp[hx]);have hRa:H5 R=some (.lst (((l1::ls).map V.ref).reverse ++ [.ref l])):=by rw[hR5,List.map_cons,List.reverse_cons]
      show u1_1 _ _ _;refine Zo e1_1 ?_;refine⟨_,rfl,.inl ⟨rfl,_,SqL.of hRa⟩,R,_,_,rfl,rfl,hRa,ZaN _ _,?_⟩;rw[ZaL];have hRb:(upd H5 R (.lst ((l1::ls).map V.ref).reverse)) R=some (.lst ((ls.map V.ref).reverse ++ [.ref l1])):=by rw[Zb,List.map_cons,List.reverse_cons]
      have k1:∀b o,b≠R->H5 b=some o->(upd H5 R (.lst ((l1::ls).map V.ref).reverse)) b=some o:=fun b o hb h=>by rw[Zc hb];exact h
      have tk1:TK H5 (upd H5 R (.lst ((l1::ls).map V.ref).reverse)):=TK.lst hRa;have s6:Zu H (upd H5 R (.lst ((l1::ls).map V.ref).reverse)):=s5.upd_new hRH;have r1:=rowl.keep hnl k1 tk1;have r2:=rowl1.keep hnl1 k1 tk1;have r3:=Zdn.keep k1 tk1 hrows hnls;show u1_2 _ _ _;generalize upd H5 R (.lst ((l1::ls).map V.ref).reverse)=H6 at hRb s6 r1 r2 r3 ⊢;refine Zo e1_2 ?_;refine⟨_,rfl,.inl ⟨rfl,_,SqL.of hRb⟩,R,_,_,rfl,rfl,hRb,ZaN _ _,?_⟩;rw[ZaL];have k2:∀b o,b≠R->H6 b=some o->(upd H6 R (.lst (ls.map V.ref).reverse)) b=some o:=fun b o hb h=>by rw[Zc hb];exact h
      have tk2:TK H6 (upd H6 R (.lst (ls.map V.ref).reverse)):=TK.lst hRb;have s7:Zu H (upd H6 R (.lst (ls.map V.ref).reverse)):=s6.upd_new hRH;have hR7:(upd H6 R (.lst (ls.map V.ref).reverse)) R=some (.lst (ls.map V.ref).reverse):=Zb;have q1:=r1.keep hnl k2 tk2;have q2:=r2.keep hnl1 k2 tk2;have q3:=Zdn.keep k2 tk2 r3 hnls;show u1_3 _ _ _;generalize upd H6 R (.lst (ls.map V.ref).reverse)=H7 at hR7 s7 q1 q2 q3 ⊢;refine Zo e1_3 ?_;refine⟨by decide,fun W hW=>?_⟩;have t0:=Zu.new (o:=.lst []) hW;have s8:=s7.trans t0;have hR8:=t0 _ _ hR7;have hW8:(upd H7 W (.lst [])) W=some (.lst []):=Zb;have nWR:W≠R:=fun z=>by rw[z,hR7] at hW;cases hW
      have hWH:H W=none:=s7.free hW;have p1:=q1.keep hnl (R:=R) (fun b o _ h=>t0 _ _ h) t0.tk;have p2:=q2.keep hnl1 (R:=R) (fun b o _ h=>t0 _ _ h) t0.tk;have p3:=Zdn.keep (R:=R) (fun b o _ h=>t0 _ _ h) t0.tk q3 hnls;have nWl:l≠W:=fun z=>by obtain⟨_,h,_⟩:=q1;rw[z,hW] at h;cases h
      have nWl1:l1≠W:=fun z=>by obtain⟨_,h,_⟩:=q2;rw[z,hW] at h;cases h
      have nWls:∀x∈ls,x≠W:=fun x hx z=>by
       obtain⟨i',hi'⟩:=List.getElem?_of_mem hx;have:∀{ls:List Addr}{gs:List (Gr Str)},Zdn kn n H7 ls gs->∀x∈ls,∃o,H7 x=some o:=by
        intro ls gs h
        induction h with
        | nil=>intro x hx;cases hx
        | cons h t ih =>
         intro x hx;rcases List.mem_cons.mp hx with rfl|hx
         ·obtain⟨_,h,_⟩:=h;exact⟨_,h⟩
         ·exact ih x hx
       obtain⟨o,ho⟩:=this q3 x hx;rw[z,hW] at ho;cases ho
      show u1_4 _ _ _;generalize upd H7 W (.lst [])=H8 at s8 hR8 hW8 p1 p2 p3 ⊢;refine Zo e1_4 ?_;refine⟨_,rfl,n,rfl,by lia,by lia,Zby (lo:=0) (n:=n.toNat) (fun j σ H9=>∃(vs:List V)(v8 v9 v10:Option V),σ =[some (.ref d),some (.int n),some (.ref wl),some (.ref R),some (.str wd),some (.ref l),some (.ref l1),some (.ref W),v8,v9,v10]/\(∀b o,b≠W->H8 b=some o->H9 b=some o)/\H9 W=some (.lst vs)/\vs.length=j/\∀k:Nat,k<j->∃v,vs[k]?= some v/\snB.R H9 v (chS snB kn (.cons wd g g1) (k:Int)))
       ⟨[],_,_,_,rfl,fun _ _ _ h=>h,hW8,rfl,fun k hk=>absurd hk (Nat.not_lt_zero _)⟩ ?_ ?_⟩
      ·rintro j σ H9 hj ⟨vs,v8,v9,v10,rfl,k9,hW9,hvl,hvs⟩;have up9:∀b o,H b=some o->H9 b=some o:=fun b o h=>k9 b o (fun z=>by rw[z,hWH] at h;cases h) (s8 _ _ h);have s9:Zu H H9:=up9;have tk9:TK H8 H9:=fun b ys h=>k9 b _ (fun z=>by rw[z,hW8] at h;cases h) h;have w1:=p1.keep nWl (R:=W) k9 tk9;have w2:=p2.keep nWl1 (R:=W) k9 tk9;obtain⟨z1,hz1,hv1⟩:=w1;obtain⟨z2,hz2,hv2⟩:=w2;have jn:(0:Int)+(j:Int)=(j:Int):=Int.zero_add _;have hjn:((j:Nat):Int)<n:=by lia
       have psz:=kv.psz (0+(j:Int)) wd;have pdp:=(paC kn (0+(j:Int)) wd).ZdT;refine Zo e1_4_0 ?_;refine⟨_,rfl,_,rfl,_,rfl,d,m,kn,0+(j:Int),wd,rfl,s9 _ _ hd,hkn.tk s9.tk,fun pq py H10 s10 hpq rpq=>?_⟩;refine⟨_,rfl,pq,l,py,z1,paC kn (0+(j:Int)) wd,chS snB kn g,rfl,hpq,rpq,by lia,s10 _ _ hz1,fun k hk=>?_,fun v H11 s11 rv=>?_⟩
       ·obtain⟨a1,a2⟩:=kv.pks ⟨by lia,by lia⟩ k hk;obtain⟨v,e1,e2⟩:=hv1 k a1 a2;exact⟨v,e1,snB.mono s10.tk e2⟩
       obtain⟨bp,rfl,hbp⟩:=rv;have s1011:=s10.trans s11;obtain⟨u,eu,bu,rfl,hbu⟩:=hv2 (0+(j:Int)) (by lia) (by lia);have hbu11:=s1011 _ _ hbu;refine⟨bp,_,rfl,SqT.of hbp,rfl,_,_,rfl,_,_,rfl,rfl,?_⟩;show u1_4_1 _ _ _;refine Zo e1_4_1 ?_;refine⟨_,rfl,.inl ⟨rfl,_,SqL.of (s1011 _ _ hW9)⟩,_,rfl,_,rfl,_,rfl,l1,_,_,_,rfl,rfl,SqL.of (s1011 _ _ hz2),eu,bu,_,0,_,rfl,rfl,SqT.of hbu11,rfl,_,_,rfl,rfl,_,rfl,_,rfl,_,rfl,l1,_,_,_,rfl,rfl,SqL.of (s1011 _ _ hz2),eu,bu,_,1,_,rfl,rfl,SqT.of hbu11,rfl,_,_,rfl,(by show 2<=sizeLine;decide),fun nt hnt=>?_⟩;have v1:=Zu.new (o:=.tup [.int (((Zq snB (chS snB kn g) (paC kn (0+(j:Int)) wd)).1:Int)+((chS snB kn g1 (0+(j:Int))).1:Int)),.int (if((chS snB kn g1 (0+(j:Int))).2:Int) > ((Zq snB (chS snB kn g) (paC kn (0+(j:Int)) wd)).2:Int) then((chS snB kn g1 (0+(j:Int))).2:Int) else((Zq snB (chS snB kn g) (paC kn (0+(j:Int)) wd)).2:Int))]) hnt
       have s912:=s1011.trans v1;have hW12:=s912 _ _ hW9;refine⟨W,_,_,rfl,rfl,hW12,Zx (by lia),?_⟩;have tkW:=TK.lst (o:=.lst (vs ++ [.ref nt])) hW12;have tkA:=s912.tk.trans tkW;have nnt:nt≠W:=fun z=>by rw[z,s1011 _ _ hW9] at hnt;cases hnt
       refine⟨vs ++ [.ref nt],_,_,_,rfl,fun b o hb h=>by rw[Zc hb];exact s912 _ _ (k9 b o hb h),Zb,by rw[List.length_append,List.length_singleton,hvl],fun k hk=>?_⟩;by_cases ck:k<j
       ·obtain⟨v,e1,e2⟩:=hvs k ck;exact⟨v,by rw[List.getElem?_append_left (by lia)];exact e1,snB.mono tkA e2⟩
       ·obtain rfl:k=j:=by lia
        refine⟨.ref nt,by rw[List.getElem?_append_right (by lia),hvl,Nat.sub_self];rfl,nt,rfl,?_⟩;rw[Zc nnt,Zb];rw[show(0:Int)+(k:Int)=(k:Int) from Int.zero_add _];show _=some (HO.tup [V.int (((Zq snB (chS snB kn g) (paC kn (k:Int) wd)).1+(chS snB kn g1 (k:Int)).1:Nat):Int),V.int ((max (Zq snB (chS snB kn g) (paC kn (k:Int) wd)).2 (chS snB kn g1 (k:Int)).2:Nat):Int)]);generalize (Zq snB (chS snB kn g) (paC kn (k:Int) wd))=x;generalize chS snB kn g1 (k:Int)=y;have hm:(if(y.2:Int) > (x.2:Int) then(y.2:Int) else(x.2:Int))=((max x.2 y.2:Nat):Int):=by
         split <;> lia
        show some (HO.tup [V.int ((x.1:Int)+(y.1:Int)),V.int (if(y.2:Int) > (x.2:Int) then(y.2:Int) else(x.2:Int))])=_
        rw[hm,Int.natCast_add]
      ·rintro σ H9 ⟨vs,v8,v9,v10,rfl,k9,hW9,hvl,hvs⟩;have s9:Zu H H9:=fun b o h=>k9 b o (fun z=>by rw[z,hWH] at h;cases h) (s8 _ _ h);have tk9:TK H8 H9:=fun b ys h=>k9 b _ (fun z=>by rw[z,hW8] at h;cases h) h;have hR9:=k9 _ _ nWR.symm hR8;have rowW:RowW kn n H9 W (.cons wd g g1):=⟨vs,hW9,fun m' a1 a2=>by
        obtain⟨v,e1,e2⟩:=hvs m'.toNat (by lia);rw[Int.toNat_of_nonneg a1] at e2;have:=Za5 (j:=m'.toNat) e1;rw[Int.toNat_of_nonneg a1] at this;exact⟨v,this,e2⟩⟩
       have rows9:=Zdn.keep (R:=W) k9 tk9 p3 nWls;show u1_5 _ _ _;refine Zo e1_5 ?_;refine⟨_,rfl,.inl ⟨rfl,_,SqL.of hR9⟩,_,rfl,R,_,_,rfl,rfl,hR9,Zx (by rw[List.length_reverse,List.length_map];rw[List.length_cons] at hll;lia),?_⟩;have kR:∀b o,b≠R->H9 b=some o->(upd H9 R (.lst ((ls.map V.ref).reverse ++ [.ref W]))) b=some o:=fun b o hb h=>by rw[Zc hb];exact h
       have tR:TK H9 (upd H9 R (.lst ((ls.map V.ref).reverse ++ [.ref W]))):=TK.lst hR9;refine⟨ls,W,.cons wd g g1,gs,_,_,_,_,_,_,_,rfl,s9.upd_new hRH,by rw[Zb,List.map_cons,List.reverse_cons],.cons (rowW.keep nWR kR tR) (Zdn.keep kR tR rows9 hnls),fun x hx=>?_,⟨e,hg,hgs g1 (by simp)⟩,fun h hh=>hgs h (by simp[hh]),by rw[hk,ZjO],by rw[List.length_cons] at hls;lia⟩;rcases List.mem_cons.mp hx with rfl|hx
       ·exact nWR
       ·exact hnls x hx
 ·rintro σ H5 ⟨ls,l,g,gs,v4,v5,v6,v7,v8,v9,v10,rfl,s5,hR5,hrows,hnR,hg,hgs,hdrop,hls⟩;rw[List.length_map,Nat.sub_self,List.drop_zero] at hdrop;have h0:gs.length=0:=by
   have hd1:=Zbm hcl;rw[hdrop,Zep g gs hg hgs] at hd1;lia
  obtain rfl:gs=[]:=List.eq_nil_of_length_eq_zero h0;have eg:g=G:=ZiZ hg hcl hdrop.symm;subst eg;show u2 _ _ _;refine Zo e2 ?_;cases hrows with
  | cons r t =>
   cases t;exact⟨_,rfl,1,rfl,R,_,-1,.ref l,rfl,rfl,SqL.of hR5,ZbH [] _,q l H5 s5 r⟩
theorem Zed{X:Cx}(hu:X.A.units+200<cLine):OpR X (compareOp .Eq) (fun x y H Q=>∃a b xs,x=.ref a/\y=.ref b/\SqT X.K H a xs/\SqT X.K H b []/\Q (.bl xs.isEmpty) H):=by
 intro pins s σ H x y v u Q I rx ry h;obtain⟨a,b,xs,rfl,rfl,ha,hb,q⟩:=h;cases rx;cases ry;obtain⟨its,r1,p1,z1⟩:=I.tuple ha;obtain⟨its2,r2,p2,z2⟩:=I.tuple hb;cases r2;refine PySem.SeqAt.eq_tupleAt (e:=fun _=>false) p1 p2 (by lia) (fun j j1 j2=>absurd j2 (by simp)) ⟨.bl _,H,I,rfl,?_⟩;have e:((List.range (min its.toArray.size (List.toArray ([]:List Value)).size)).all (fun _=>false)&&its.toArray.size == (List.toArray ([]:List Value)).size)=xs.isEmpty:=by
  cases r1 with
  | nil=>simp
  | cons _ _=>simp
 rw[e];exact q
theorem Zc6{f:Int->Gr Str}:∀{p:Pa}{k:Int},k∈p.ks->gsz (f k)<=gsz (Zq (snG 0) f p)/\Zbs (f k)<=Zbs (Zq (snG 0) f p)
 | .kids m o,k,h=>by
  show gsz (f k)<=gsz (ZaZ (f m) (Zq (snG 0) f o))/\Zbs (f k)<=Zbs (ZaZ (f m) (Zq (snG 0) f o));rw[ZaO,ZbV];rcases List.mem_cons.mp h with rfl|h
  ·exact⟨by lia,by lia⟩
  ·obtain⟨h1,h2⟩:=Zc6 (f:=f) (p:=o) h;exact⟨by lia,by lia⟩
 | .tag t w o,k,h=>by
  show gsz (f k)<=gsz (ZaZ (.cons t (Zq (snG 0) f w) .nil) (Zq (snG 0) f o))/\Zbs (f k)<=Zbs (ZaZ (.cons t (Zq (snG 0) f w) .nil) (Zq (snG 0) f o));rw[ZaO,ZbV];show gsz (f k)<=(1+gsz (Zq (snG 0) f w)+0)+_/\Zbs (f k)<=max (max (Zbs (Zq (snG 0) f w)+1) 0) _;rcases List.mem_append.mp h with h|h
  ·obtain⟨h1,h2⟩:=Zc6 (f:=f) (p:=w) h;exact⟨by lia,by lia⟩
  ·obtain⟨h1,h2⟩:=Zc6 (f:=f) (p:=o) h;exact⟨by lia,by lia⟩
def ZdL:Sp:=fun vs H Q _=>∃(one d ga wh:Addr)(n mo:Int)(rs:List (Int×Str×Pa))(m:List (List Key×V))(xs zs:List V)(G:Gr Str),vs=[.ref one,.ref d,.ref ga,.int mo,.ref wh]/\ChC H one n rs/\n<=100/\0<=mo/\mo<n/\H d=some (.dT m)/\KnR H m (Z4 rs)/\H ga=some (.tup xs)/\RepG H xs G/\ZaW SL G/\gsz G<=400/\H wh=some (.tup zs)/\RepG H zs (chG (Z4 rs) G mo)/\gsz (chG (Z4 rs) G mo)<=300/\Zbs (chG (Z4 rs) G mo)<=100/\OkW (words SL (chG (Z4 rs) G mo))/\∀H',Kp H H'->Q (.bl true) H'
theorem Kp.chc{H H':Hp}{c:Addr}{n:Int}{rs:List (Int×Str×Pa)}(k:Kp H H')(h:ChC H c n rs):ChC H' c n rs:=h.tk k.tk
set_option maxHeartbeats 4000000 in
theorem ZhA(B:∀x∈Zcb,mg x=none)(g_l_told:Has P w K mg base "_law_told" ["_law_one","_law_grove_here","_law_mode"] 27 Zc9) (g_l_parts_for:Has P w K mg base "_law_parts_for" ["_law_ways_here","_law_mode","_law_tag"] 1 ZaU) (g_l_kids_in:Has P w K mg base "_law_kids_in" ["_law_parts_here"] 24 (Zim 24)) (g_l_filled:Has P w K mg base "_law_filled" ["_law_parts_here","_law_rows"] 24 (ZiP 24)) (F:Fun K "_law_steps" "_law_steps" ZP f fd):FnOk P w K mg base CX0 108 f fd ["_law_one","_law_ways_here","_law_grove_here","_law_mode","_law_whole"] ZdL:=by
 refine F.ok Zav (fun vs H Q E h=>?_) (fun cdv A outer s H vs Q E hr h=>?_)
 ·obtain⟨one,d,ga,wh,n,mo,rs,m,xs,zs,G,rfl,_⟩:=h;rfl
 obtain⟨one,d,ga,wh,n,mo,rs,m,xs,zs,G,rfl,hone,hn,o0,o1,hd,hkn,hga,rg,hcl,hz,hwh,rwh,hz3,hd1,hok,q⟩:=h;have hu:=ZfT hr;have hu1:(A.deeper (PyProof.Rows.envOfC (Str.ofString "_law_steps") (Zg ZP) s.heap.objs.size f cdv)).units+1<cLine:=by have:=hr.un;lia
 have hu1001:(A.deeper (PyProof.Rows.envOfC (Str.ofString "_law_steps") (Zg ZP) s.heap.objs.size f cdv)).units+1001<cLine:=by have:=hr.un;lia
 have kv:=hone.knv;refine Zr ((Ze ZP).drop 7) (Zj (ZS (Zer (ZkH (n:=1001) hu1001) (pv 5) (ZR g_l_filled hr rfl (Za (pv 9) (Za (pv 10) Zf))) (Zaf _)))) (fun u7 h7 e7=>?_);refine Zr ((ZF ((Ze ZP).getD 6 (.Pass ⟨0,0,0,0⟩))).drop 2) (Zj (ZdD hu1 (pv 10) (pv 11) (pv 12) rfl)) (fun u6_2 h6_2 e6_2=>?_);refine Zr ((ZF ((Ze ZP).getD 6 (.Pass ⟨0,0,0,0⟩))).drop 1) (Zd (Zbi (Zbt (pv 13) (fun _=>rfl))
   (Zj (ZS ZdE))
   ZaR) h6_2) (fun u6_1 h6_1 e6_1=>?_)
 refine Zr ((ZF ((Ze ZP).getD 6 (.Pass ⟨0,0,0,0⟩))).drop 0) (Zd (Zcc (ZR g_l_told hr rfl (Za (pv 0) (Za (ZG ZQ (ZG ZQ (pv 2) Zh (fun _ _=>rfl)) Zh (fun _ _=>rfl)) (Za (pv 11) Zf)))) (Zb1 rfl (ZJ (Zt (i:=12) Zav.nd rfl (Or.inl rfl)) (ZJ (Zt (i:=13) Zav.nd rfl (Or.inl rfl)) Zbd)))) h6_1) (fun u6_0 h6_0 e6_0=>?_);refine Zr ((Ze ZP).drop 6) (Zd (ZaB PassesOwn.never rfl (ZbL (ZR g_l_kids_in hr rfl (Za (pv 9) Zf))) (Zt (i:=11) Zav.nd rfl (Or.inl rfl))
   h6_0) h7) (fun u6 h6 e6=>?_)
 refine Zr ((Ze ZP).drop 5) (Zd (Zn (i:=10) Zav.nd rfl (Or.inl rfl) Zc3) h6) (fun u5 h5 e5=>?_);refine Zr ((Ze ZP).drop 4) (Zd (Zn (i:=9) Zav.nd rfl (Or.inl rfl) (ZR g_l_parts_for hr rfl (Za (pv 1) (Za (pv 3) (Za (ZG ZQ (ZG ZQ (pv 2) Zh (fun _ _=>rfl)) Zh (fun _ _=>rfl)) Zf))))) h5) (fun u4 h4 e4=>?_);refine Zr ((Ze ZP).drop 3) (Zd (Zbi (PW.pt (Zhh (Zbt (pv 6) (fun _=>rfl)) (Zhh (Zbt (pv 8) (fun _=>rfl)) (Zfj (Z2 (ZhT (n:=1001) hu1001) (pv 4) (Zy Zey (pv 5) (pv 7)) (Zaf _))))))
   (Zj (ZS ZdE))
   ZaR) h4) (fun u3 h3 e3=>?_)
 refine Zr ((Ze ZP).drop 2) (Zd (Zcc (ZR g_l_told hr rfl (Za (pv 0) (Za (Zc2 Zjg (pv 2) (ZcF Zh) Zdj) (Za (pv 3) Zf)))) (Zb1 rfl (ZJ (Zt (i:=7) Zav.nd rfl (Or.inl rfl)) (ZJ (Zt (i:=8) Zav.nd rfl (Or.inl rfl)) Zbd)))) h3) (fun u2 h2 e2=>?_);refine Zr ((Ze ZP).drop 1) (Zd (Zcc (ZR g_l_told hr rfl (Za (pv 0) (Za (Zc2 Zjg (pv 2) Zdj (ZcF Zh)) (Za (pv 3) Zf)))) (Zb1 rfl (ZJ (Zt (i:=5) Zav.nd rfl (Or.inl rfl)) (ZJ (Zt (i:=6) Zav.nd rfl (Or.inl rfl)) Zbd)))) h2) (fun u1 h1 e1=>?_);refine Zr ((Ze ZP).drop 0) (Zd (Zbi (Z2 (Zed hu) (pv 2) (ZK Zf) (Zaf _))
   (Zj (ZS (Zer (Zed hu) (pv 4) (ZK Zf) (Zaf _))))
   ZaR) h1) (fun u0 h0 e0=>?_)
 refine⟨u0,h0,?_⟩;refine Zo e0 ?_;refine⟨_,rfl,(by show 0<=sizeLine;decide),fun ep hep=>?_⟩;have se:=Zu.new (o:=.tup []) hep;refine⟨ga,ep,xs,rfl,rfl,SqT.of (se _ _ hga),SqT.of Zb,_,rfl,?_⟩;have hep1:(upd H ep (.tup [])) ep=some (.tup []):=Zb;generalize upd H ep (.tup [])=H0 at se hep1 ⊢;cases rg with
 | nil =>
  refine ZhS ?_;refine⟨_,rfl,(by show 0<=sizeLine;decide),fun e2' he2=>?_⟩;have se2:=Zu.new (o:=.tup []) he2;have rn:RepG H zs .nil:=rwh;cases rn with
  | nil=>exact⟨wh,e2',[],rfl,rfl,SqT.of ((se.trans se2) _ _ hwh),SqT.of Zb,q _ (Kp.same (se.trans se2))⟩
 | @cons p0 q0 t ys vs w o g1 g2 g3 g4 =>
  refine ZeT ?_;have eG:chG (Z4 rs) (.cons t w o) mo=ZaZ (Zq (snG 0) (chG (Z4 rs) w) (paC (Z4 rs) mo t)) (chG (Z4 rs) o mo):=rfl;have eA:chG (Z4 rs) (.cons t w .nil) mo=Zq (snG 0) (chG (Z4 rs) w) (paC (Z4 rs) mo t):=Zco _;rw[eG] at rwh hz3 hd1 hok;rw[ZaO] at hz3;rw[ZbV] at hd1;have hz':1+gsz w+gsz o<=400:=hz;obtain⟨c1,c2,c3⟩:=hcl;have k0:Kp H H0:=Kp.same se;show u1 _ _ _;refine Zo e1 ?_;refine⟨_,rfl,_,rfl,_,rfl,ga,_,rfl,k0 _ _ hga (fun _ z=>nomatch z),fun ca H1 s1 hca=>?_⟩
  rw[show(1:Int)=((1:Nat):Int) from rfl,ZgL] at hca;have k1:=k0.trans (Kp.same s1);have hca:H1 ca=some (.tup [.ref p0]):=hca;refine⟨_,rfl,one,ca,mo,n,rs,_,.cons t w .nil,_,rfl,k1.chc hone,hn,o0,o1,hca,.cons (k1.tk _ _ g1) (k1.tk _ _ g2) (g3.mono k1.tk) .nil,⟨c1,c2,trivial⟩,by show 1+gsz w+0<=400;lia,eA,by lia,fun b1 b2 r a us H2 kp hr ha ra=>?_,fun b=>absurd ⟨by lia,by lia⟩ b⟩;have k2:=k1.trans kp;refine⟨r,_,rfl,SqT.of hr,rfl,_,_,rfl,_,_,rfl,rfl,?_⟩;show u2 _ [some (.ref one),some (.ref d),some (.ref ga),some (.int mo),some (.ref wh),some (.ref a),some (.bl false),none,none,none,none,none,none,none] H2;refine Zo e2 ?_;refine⟨_,rfl,_,rfl,_,rfl,ga,_,rfl,k2 _ _ hga (fun _ z=>nomatch z),fun cb H3 s3 hcb=>?_⟩
  rw[show(1:Int)=((1:Nat):Int) from rfl,Zjq] at hcb;have hcb:H3 cb=some (.tup vs):=hcb;have k3:=k2.trans (Kp.same s3);refine⟨_,rfl,one,cb,mo,n,rs,_,o,_,rfl,k3.chc hone,hn,o0,o1,hcb,g4.mono k3.tk,c3,by lia,rfl,by lia,fun b1' b2' r' a' us' H4 kp' hr' ha' ra'=>?_,fun b=>absurd ⟨by lia,by lia⟩ b⟩;have k4:=k3.trans kp';have k24:Kp H2 H4:=(Kp.same s3).trans kp';refine⟨r',_,rfl,SqT.of hr',rfl,_,_,rfl,_,_,rfl,rfl,?_⟩;show u3 _ [some (.ref one),some (.ref d),some (.ref ga),some (.int mo),some (.ref wh),some (.ref a),some (.bl false),some (.ref a'),some (.bl false),none,none,none,none,none] H4;refine Zo e3 ?_;have ha4:=k24.tk _ _ ha;have ra4:=ra.mono k24.tk;have la:=ra4.length;have lb:=ra'.length;rw[ZM] at la lb;refine⟨_,rfl,false,rfl,ZeT ⟨_,rfl,false,rfl,ZeT ⟨_,rfl,_,rfl,_,rfl,a,a',us,us',rfl,rfl,ha4,ha',ZaA (by lia),fun pp H5 s5 hpp=>?_⟩⟩⟩;have k5:=k4.trans (Kp.same s5);have hlw:(words SL (ZaZ (Zq (snG 0) (chG (Z4 rs) w) (paC (Z4 rs) mo t)) (chG (Z4 rs) o mo))).length<=1000:=by rw[ZM,ZaO];lia
  refine Zdh (SqT.of (k5.tk _ _ hwh)) (SqT.of hpp) (rwh.mono k5.tk) (RepG.ZaZ (ra4.mono s5.tk) (ra'.mono s5.tk)) hok hlw ⟨false,rfl,ZeT ?_⟩;show u4 _ [some (.ref one),some (.ref d),some (.ref ga),some (.int mo),some (.ref wh),some (.ref a),some (.bl false),some (.ref a'),some (.bl false),none,none,none,none,none] H5;refine Zo e4 ?_;refine⟨_,rfl,_,rfl,_,rfl,ga,_,0,_,rfl,rfl,SqT.of (k5.tk _ _ hga),Za5 (j:=0) rfl,p0,_,0,_,rfl,rfl,SqT.of (k5.tk _ _ g1),rfl,d,m,Z4 rs,mo,t,rfl,k5 _ _ hd (fun _ z=>nomatch z),hkn.tk k5.tk,fun pq py H6 s6 hpq rpq=>?_⟩
  have k6:=k5.trans (Kp.same s6);have rpq:RepP H6 py (paC (Z4 rs) mo t):=rpq;show u5 _ [some (.ref one),some (.ref d),some (.ref ga),some (.int mo),some (.ref wh),some (.ref a),some (.bl false),some (.ref a'),some (.bl false),some (.ref pq),none,none,none,none] H6;refine Zo e5 ?_;refine fun dr hdr=>?_;have s7:=Zu.new (o:=.dK []) hdr;have k7:=k6.trans (Kp.same s7);have hdr7:(upd H6 dr (.dK [])) dr=some (.dK []):=Zb;have hpq7:=s7 _ _ hpq;have rpq7:=rpq.mono s7.tk;have ha7:=(Kp.same (s5.trans (s6.trans s7))).tk _ _ ha4;have ra7:=ra4.mono (s5.trans (s6.trans s7)).tk;show u6 _ [some (.ref one),some (.ref d),some (.ref ga),some (.int mo),some (.ref wh),some (.ref a),some (.bl false),some (.ref a'),some (.bl false),some (.ref pq),some (.ref dr),none,none,none] _;have psz:=kv.psz mo t;have pdp:=(paC (Z4 rs) mo t).ZdT;have hdrH:H dr=none\/∃x,H dr=some (.ext x):=by
   cases e:H dr with
   | none=>exact .inl rfl
   | some u =>
    by_cases z:∃x,u=.ext x
    ·obtain⟨x,rfl⟩:=z;exact .inr ⟨x,rfl⟩
    ·have:=k6 _ _ e fun x hx=>z ⟨x,hx⟩;rw[hdr] at this;cases this
  generalize upd H6 dr (.dK [])=H7 at k7 hdr7 hpq7 rpq7 ha7 ra7 ⊢;refine Zo e6 ?_;refine⟨_,rfl,pq,py,_,rfl,hpq7,rpq7,by lia,psz,fun kl H8 s8 hkl0 hkl=>?_⟩;have k8:=k7.trans (Kp.same s8);have hdr8:=s8 _ _ hdr7;have hpq8:=s8 _ _ hpq7;have rpq8:=rpq7.mono s8.tk;have ha8:=s8 _ _ ha7;have ra8:=ra7.mono s8.tk;have ndk:kl≠dr:=fun z=>by rw[z,hdr7] at hkl0;cases hkl0
  have hkin:∀k∈(paC (Z4 rs) mo t).ks,0<=k/\k<n:=kv.pks ⟨o0,o1⟩;refine⟨kl,rfl,⟨_,SqL.of hkl⟩,Zbu (K:=K) (a:=kl) (xs:=(paC (Z4 rs) mo t).ks.map V.int) (fun i σ H9=>∃(v11 v12 v13:Option V)(kvs:List (Key×V)),σ =[some (.ref one),some (.ref d),some (.ref ga),some (.int mo),some (.ref wh),some (.ref a),some (.bl false),some (.ref a'),some (.bl false),some (.ref pq),some (.ref dr),v11,v12,v13]/\(∀b u,b≠dr->H8 b=some u->(∀x,u ≠ .ext x)->H9 b=some u)/\H9 dr=some (.dK kvs)/\kvs.length<=i/\∀k∈(paC (Z4 rs) mo t).ks.take i,∃v,Zbg kvs (Sum.inl k)=some v/\(snG 2000).R H9 v (chG (Z4 rs) w k))
   ⟨none,none,none,[],rfl,fun _ _ _ h _=>h,hdr8,Nat.le_refl _,fun _ h=>(nomatch h)⟩ ?_ ?_ ?_⟩
  ·rintro i σ H9 _ ⟨_,_,_,_,_,k9,_⟩;exact SqL.of (k9 _ _ ndk hkl fun _ z=>nomatch z)
  ·rintro i x σ H9 hx ⟨v11,v12,v13,kvs,rfl,k9,hdr9,hkl9,hv9⟩;rw[List.getElem?_map] at hx;obtain⟨k,hk,rfl⟩:=Option.map_eq_some_iff.mp hx;have hkm:=List.mem_of_getElem? hk;obtain⟨b0,b1'⟩:=hkin k hkm;have h9:∀b u,H b=some u->(∀x,u ≠ .ext x)->H9 b=some u:=fun b u h nx=>k9 b u (fun z=>by
    rcases hdrH with e|⟨x,e⟩
    ·rw[z,e] at h;cases h
    ·rw[z,e] at h;injection h with h;exact nx x h.symm) (k8 _ _ h nx) nx
   have tk9:TK H H9:=fun b u h=>h9 _ _ h fun _ z=>nomatch z
   obtain⟨cz,cd⟩:=Zc6 (f:=chG (Z4 rs) w) hkm;refine Zo e6_0 ?_;refine⟨_,rfl,_,rfl,ga,_,0,_,rfl,rfl,SqT.of (tk9 _ _ hga),Za5 (j:=0) rfl,p0,_,1,_,rfl,rfl,SqT.of (tk9 _ _ g1),rfl,_,rfl,one,q0,k,n,rs,ys,w,_,rfl,hone.tk tk9,hn,b0,b1',tk9 _ _ g2,g3.mono tk9,c2,by lia,rfl,by lia,fun y1 y2 r2 a2 us2 H10 kp10 hr10 ha10 ra10=>?_,fun b=>absurd ⟨by lia,by lia⟩ b⟩;refine⟨r2,_,rfl,SqT.of hr10,rfl,_,_,rfl,_,_,rfl,rfl,?_⟩;show u6_1 _ _ _;refine Zo e6_1 ?_;refine⟨_,rfl,false,rfl,ZeT ?_⟩;show u6_2 _ _ _;refine Zo e6_2 ?_;have hdr10:H10 dr=some (.dK kvs):=kp10 _ _ hdr9 fun _ z=>nomatch z
   have hil:=(List.getElem?_eq_some_iff.mp hk).1;have hks20:=Zg6 (paC (Z4 rs) mo t);refine⟨_,rfl,_,rfl,_,rfl,dr,_,rfl,Zix.k (k:=Sum.inl k) hdr10 (Zx (by lia)),?_⟩;have tkd:TK H10 (upd H10 dr (.dK (putK kvs (Sum.inl k) (.ref a2)))):=fun b u h=>by rw[Zc (fun z=>by rw[z,hdr10] at h;cases h)];exact h
   refine⟨_,_,_,putK kvs (Sum.inl k) (.ref a2),rfl,fun b u hb h nx=>by rw[Zc hb];exact kp10 _ _ (k9 b u hb h nx) nx,Zb,?_,fun k' hk'=>?_⟩
   ·have:=ZaQ kvs (Sum.inl k) (.ref a2);lia
   ·rw[ZeP];by_cases c:(Sum.inl k':Key)=Sum.inl k
    ·rw[if_pos c];injection c with c;rw[c];exact⟨.ref a2,rfl,a2,us2,rfl,tkd _ _ ha10,ra10.mono tkd⟩
    ·rw[if_neg c];rw[Za3 hk] at hk';rcases List.mem_append.mp hk' with h|h
     ·obtain⟨v,e1,e2⟩:=hv9 k' h;exact⟨v,e1,(snG 2000).mono (kp10.tk.trans tkd) e2⟩
     ·exact absurd (by rw[List.mem_singleton.mp h]) c
  ·rintro σ H9 ⟨v11,v12,v13,kvs,rfl,k9,hdr9,hkl9,hv9⟩;rw[List.length_map,List.take_length] at hv9;have tk9:TK H8 H9:=fun b u h=>k9 _ _ (fun z=>by rw[z,hdr8] at h;cases h) h fun _ z=>nomatch z
   have h9:Kp H H9:=fun b u h nx=>k9 b u (fun z=>by
    rcases hdrH with e|⟨x,e⟩
    ·rw[z,e] at h;cases h
    ·rw[z,e] at h;injection h with h;exact nx x h.symm) (k8 _ _ h nx) nx
   show u7 _ _ _;refine Zo e7 ?_;have eC:Zq (snG 2000) (chG (Z4 rs) w) (paC (Z4 rs) mo t)=Zq (snG 0) (chG (Z4 rs) w) (paC (Z4 rs) mo t):=ZdH _ _ _ _;refine⟨_,rfl,_,rfl,_,rfl,pq,dr,py,paC (Z4 rs) mo t,kvs,chG (Z4 rs) w,rfl,tk9 _ _ hpq8,rpq8.mono tk9,by lia,hdr9,hv9,by rw[eC];lia,fun v H10 s10 rv=>?_⟩;rw[eC] at rv;obtain⟨b,xb,rfl,hb,rb⟩:=rv;have okA:OkW (words SL (Zq (snG 0) (chG (Z4 rs) w) (paC (Z4 rs) mo t))):=fun x hx=>hok x (by rw[ZcB];exact List.mem_append_left _ hx);exact Zdh (SqT.of (s10 _ _ (tk9 _ _ ha8))) (SqT.of hb) ((ra8.mono tk9).mono s10.tk) rb okA (by rw[ZM];lia) (q _ (h9.trans (Kp.same s10)))
def Kx(H:Hp)(x:V)(r:Int×Str×Pa):Prop := ∃a,x=V.ref a/\H a=some (.tup [.int r.1,.str r.2.1])
theorem Zld{H:Hp}:∀{m:List (List Key×V)}{ys:List V}{rs:List (Int×Str×Pa)},Zga H m ys->RkL H m rs->Paired (Kx H) ys rs
 | _,_,_,.nil,.nil=>.nil
 | _,_,_,.cons ⟨a,e1,e2⟩ t,.cons ⟨e,_⟩ t2=>.cons ⟨a,e1,by rw[e2,e];rfl⟩ (Zld t t2)
theorem Zie{H:Hp}:∀{zs:List V}{rs:List (Int×Str×Pa)},Paired (Kx H) zs rs->∀(i:Nat) z,zs[i]?= some z->∃r,rs[i]?= some r/\Kx H z r
 | _,_,.cons h _,0,z,e=>⟨_,rfl,by injection e with e;subst e;exact h⟩
 | _,_,.cons _ t,i+1,z,e=>Zie t i z e
set_option maxHeartbeats 8000000 in
theorem ZlG(B:∀x∈Zcb,mg x=none)(g_l_cell_at:Has P w K mg base "_law_cell_at" ["_law_script","_law_k"] 1 (ZgT K)) (g_l_tags:Has P w K mg base "_law_tags" ["_law_cell"] 1 ZeK) (g_l_ways:Has P w K mg base "_law_ways" ["_law_numbers_here","_law_tags_here","_law_modes"] 2 ZeS) (g_l_numbers:Has P w K mg base "_law_numbers" ["_law_script","_law_first","_law_many"] 2 (ZeC K)) (g_l_words:Has P w K mg base "_law_words" ["_law_tags_here","_law_numbers_here"] 1 Zdk) (g_l_grove:Has P w K mg base "_law_grove" ["_law_words_here"] 1 (Zgm K)) (g_l_weight:Has P w K mg base "_law_weight" ["_law_ways_here","_law_modes","_law_words_here"] 25 ZcH) (g_l_told:Has P w K mg base "_law_told" ["_law_one","_law_grove_here","_law_mode"] 27 Zc9) (g_l_steps:Has P w K mg base "_law_steps" ["_law_one","_law_ways_here","_law_grove_here","_law_mode","_law_whole"] 108 ZdL)
  (F:Fun K "law" "law" ZaV f fd):FnOk P w K mg base CX0 109 f fd ["_law_script"] (ZjT K):=by
 refine F.ok Zbh (fun vs H Q E h=>?_) (fun cdv A outer s H vs Q E hr h=>?_)
 ·obtain⟨a,ns,rfl,_⟩:=h;rfl
 obtain⟨a,ns,rfl,hS,h63,q⟩:=h;have hu:=ZfT hr;have hu1:(A.deeper (PyProof.Rows.envOfC (Str.ofString "law") (Zg ZaV) s.heap.objs.size f cdv)).units+1<cLine:=by have:=hr.un;lia
 have hu1001:(A.deeper (PyProof.Rows.envOfC (Str.ofString "law") (Zg ZaV) s.heap.objs.size f cdv)).units+1001<cLine:=by have:=hr.un;lia
 refine Zr ((Ze ZaV).drop 11) (Zj (ZS ZdE)) (fun u11 h11 e11=>?_);refine Zr ((ZF ((Ze ZaV).getD 10 (.Pass ⟨0,0,0,0⟩))).drop 5) (Zj (Zbi (PW.pt (Zhh (Zkl (Zbt (ZaG ZfO rfl (B "isinstance" (by decide)) Zeu (Za (pv 13) (Za (Zl8 rfl (B "tuple" (by decide)) ZbK) Zf))) (fun _=>rfl))) (Zfj (Zkl (Zbt (ZR g_l_steps hr rfl (Za (pv 5) (Za (pv 4) (Za (pv 8) (Za (pv 10) (Za (pv 13) Zf)))))) (fun _=>rfl))))))
   (Zj (ZS ZdE))
   ZaR)) (fun u10_5 h10_5 e10_5=>?_)
 refine Zr ((ZF ((Ze ZaV).getD 10 (.Pass ⟨0,0,0,0⟩))).drop 4) (Zd (Zbi (Zbt (pv 12) (fun _=>rfl))
   (Zj ZdB)
   ZaR) h10_5) (fun u10_4 h10_4 e10_4=>?_)
 refine Zr ((ZF ((Ze ZaV).getD 10 (.Pass ⟨0,0,0,0⟩))).drop 3) (Zd (Zbi (Z2 Zmc (pv 12) (Zl4 (Zer Zhe (ZG ZQ (ZG Z3 (pv 9) (pv 10) (fun _ _=>rfl)) Zh (fun _ _=>rfl)) Zh (Zaf _)) (ZlE (Zer Zhe (ZG ZQ (ZG Z3 (pv 9) (pv 10) (fun _ _=>rfl)) Zh (fun _ _=>rfl)) Zh (Zaf _)))) (Zaf _))
   (Zj (ZS ZdE))
   ZaR) h10_4) (fun u10_3 h10_3 e10_3=>?_)
 refine Zr ((ZF ((Ze ZaV).getD 10 (.Pass ⟨0,0,0,0⟩))).drop 2) (Zd (Zcc (ZR g_l_told hr rfl (Za (pv 5) (Za (pv 8) (Za (pv 10) Zf)))) (Zb1 rfl (ZJ (Zt (i:=13) Zbh.nd rfl (Or.inl rfl)) (ZJ (Zt (i:=12) Zbh.nd rfl (Or.inl rfl)) Zbd)))) h10_3) (fun u10_2 h10_2 e10_2=>?_);refine Zr ((ZF ((Ze ZaV).getD 10 (.Pass ⟨0,0,0,0⟩))).drop 1) (Zd (Zbi (PW.pt (Zhh (Zbt (pv 12) (fun _=>rfl)) (Zfj (Z2 (ZhT (n:=1001) hu1001) (pv 11) (pv 8) (Zaf _)))))
   (Zj (ZS ZdE))
   ZaR) h10_2) (fun u10_1 h10_1 e10_1=>?_)
 refine Zr ((ZF ((Ze ZaV).getD 10 (.Pass ⟨0,0,0,0⟩))).drop 0) (Zd (Zcc (ZR g_l_told hr rfl (Za (ZK (Za (pv 2) (Za (ZK Zf) Zf))) (Za (pv 8) (Za (pv 10) Zf)))) (Zb1 rfl (ZJ (Zt (i:=11) Zbh.nd rfl (Or.inl rfl)) (ZJ (Zt (i:=12) Zbh.nd rfl (Or.inl rfl)) Zbd)))) h10_1) (fun u10_0 h10_0 e10_0=>?_);refine Zr ((Ze ZaV).drop 10) (Zd (ZaB PassesOwn.never rfl (Zbq rfl (B "range" (by decide)) (Za (pv 2) Zf)) (Zt (i:=10) Zbh.nd rfl (Or.inl rfl))
   h10_0) h11) (fun u10 h10 e10=>?_)
 refine Zr ((Ze ZaV).drop 9) (Zd (Zn (i:=9) Zbh.nd rfl (Or.inl rfl) (ZR g_l_weight hr rfl (Za (pv 4) (Za (pv 2) (Za (pv 7) Zf))))) h10) (fun u9 h9 e9=>?_);refine Zr ((Ze ZaV).drop 8) (Zd (Zn (i:=8) Zbh.nd rfl (Or.inl rfl) (ZR g_l_grove hr rfl (Za (pv 7) Zf))) h9) (fun u8 h8 e8=>?_);refine Zr ((Ze ZaV).drop 7) (Zd (Zn (i:=7) Zbh.nd rfl (Or.inl rfl) (ZR g_l_words hr rfl (Za (pv 3) (Za (ZR g_l_numbers hr rfl (Za (pv 0) (Za Zh (Za (pv 6) Zf)))) Zf)))) h8) (fun u7 h7 e7=>?_);refine Zr ((Ze ZaV).drop 6) (Zd (Zbi (Z2 Zcr (Zy ZaT (Zy Zbw (pv 1) Zh) Zh) Zh (Zaf _))
   (Zj (Zn (i:=6) Zbh.nd rfl (Or.inl rfl) (Zy ZaT (Zy Zbw (pv 1) Zh) Zh)))
   ZaR) h7) (fun u6 h6 e6=>?_)
 refine Zr ((Ze ZaV).drop 5) (Zd (Zn (i:=6) Zbh.nd rfl (Or.inl rfl) (Zy ZaT (Zy Zbw (pv 1) Zh) Zh)) h6) (fun u5 h5 e5=>?_);refine Zr ((Ze ZaV).drop 4) (Zd (Zn (i:=5) Zbh.nd rfl (Or.inl rfl) (ZK (Za (pv 2) (Za (ZaM ZaF rfl (B "tuple" (by decide)) ZbK (Za (Zf0 (cl:=_) ["_law_mode","_law_tag"] [("_law_ways_here",4)] (ZbL (ZaG ZdQ rfl (B "sorted" (by decide)) Zid (Za (ZaM (Zfh rfl) rfl (B "list" (by decide)) Zjh (Za (pv 4) Zf)) Zf))) (fun _ _ _ _=>(Zh7 (K:=K) (n:=2) rfl rfl (ZJ (Zt (i:=0) (show List.Nodup (["_law_mode","_law_tag","_law_ways_here"]:List Str) by decide) rfl (Or.inl rfl)) (ZJ (Zt (i:=1) (show List.Nodup (["_law_mode","_law_tag","_law_ways_here"]:List Str) by decide) rfl (Or.inl rfl)) Zbd)))) (fun _ _ _ _=>(ZK (Za (pv 0) (Za (pv 1) (Za (ZcG hu1 (pv 2) (ZK (Za (pv 0) (Za (pv 1) Zf))) (fun _ _=>rfl)) Zf))))) rfl rfl (by decide) rfl (by decide) (Zkd (by(repeat' first|exact List.forall_mem_nil _|refine List.forall_mem_cons.mpr ⟨?_,?_⟩) <;> rfl)) (ZhR (by(repeat' first|exact List.forall_mem_nil _|refine List.forall_mem_cons.mpr ⟨?_,?_⟩) <;> first|(intro h;exact⟨_,rfl⟩)|(intro h;exact absurd h (by decide)))) (fun _=>by(repeat' first|exact List.forall_mem_nil _|refine List.forall_mem_cons.mpr ⟨?_,?_⟩) <;> exact⟨rfl,rfl,Or.inl rfl⟩) (fun _=>rfl)) Zf)) Zf)))) h5) (fun u4 h4 e4=>?_)
 refine Zr ((Ze ZaV).drop 3) (Zd (Zn (i:=4) Zbh.nd rfl (Or.inr rfl) (ZR g_l_ways hr rfl (Za (ZR g_l_numbers hr rfl (Za (pv 0) (Za Zh (Za Zh Zf)))) (Za (pv 3) (Za (pv 2) Zf))))) h4) (fun u3 h3 e3=>?_);refine Zr ((Ze ZaV).drop 2) (Zd (Zn (i:=3) Zbh.nd rfl (Or.inl rfl) (ZR g_l_tags hr rfl (Za (ZR g_l_cell_at hr rfl (Za (pv 0) (Za Zh Zf))) Zf))) h3) (fun u2 h2 e2=>?_);refine Zr ((Ze ZaV).drop 1) (Zd (Zn (i:=2) Zbh.nd rfl (Or.inl rfl) (Zy Zal Zh (Zy ZaT (pv 1) Zh))) h2) (fun u1 h1 e1=>?_);refine Zr ((Ze ZaV).drop 0) (Zd (Zn (i:=1) Zbh.nd rfl (Or.inl rfl) (ZR g_l_cell_at hr rfl (Za (pv 0) (Za Zh Zf)))) h1) (fun u0 h0 e0=>?_);refine⟨u0,h0,?_⟩;refine Zo e0 ?_;refine⟨_,rfl,a,ns,0,rfl,hS,h63,by decide,fun v0=>?_⟩;show u1 _ _ _;refine Zo e1 ?_;have p0:=Int.emod_nonneg v0 (by decide:(3:Int)≠0);have p1:=Int.emod_lt_of_pos v0 (by decide:(0:Int)<3);refine⟨_,rfl,_,_,rfl,rfl,(by show(0:Int)<3;decide),_,_,rfl,rfl,?_⟩;show u2 _ [some (.ref a),some (.int v0),some (.int (1+v0 % 3)),none,none,none,none,none,none,none,none,none,none,none] H;have n0:0<1+v0 % 3:=by lia
 have n4:1+v0 % 3<=3:=by lia
 generalize 1+v0 % 3=n at n0 n4 ⊢;refine Zo e2 ?_;refine⟨_,rfl,a,ns,1,rfl,hS,h63,by decide,fun v1=>⟨v1,rfl,fun tg ts H1 s1 htg0 htg ht4 hts=>?_⟩⟩;show u3 _ [some (.ref a),some (.int v0),some (.int n),some (.ref tg),none,none,none,none,none,none,none,none,none,none] H1;refine Zo e3 ?_;refine⟨_,rfl,a,ns,0,30,rfl,s1.seq hS,h63,by decide,by decide,fun nl xl H2 s2 _ hnl hxl hx0=>?_⟩;refine⟨_,rfl,_,rfl,nl,tg,xl,n,ts,rfl,hnl,hxl,fun x hx=>(hx0 x hx).1,n0,n4,s2 _ _ htg,ht4,fun d m rs H3 s3 hd0 hd hrk hro hrl=>?_⟩;have s13:=s1.trans (s2.trans s3);have htg3:=(s2.trans s3) _ _ htg;have hml:m.length=rs.length:=Paired.length hrk;show u4 _ _ _;refine Zo e4 ?_;refine⟨_,rfl,_,rfl,d,m,rfl,hd,fun l ys hl hkr=>?_⟩;have s4:=Zu.new (o:=.lst ys) hl;have kx4:=Zld hkr hrk;have hyl:ys.length=rs.length:=Paired.length kx4;refine⟨l,ys,rfl,SqL.of Zb,by lia,fun y hy=>?_,fun ks zk hks hperm=>?_⟩
 ·obtain⟨i,hi⟩:=List.getElem?_of_mem hy;obtain⟨r,_,pk,e1,e2⟩:=Zie kx4 i y hi;exact⟨pk,r.1,r.2.1,e1,s4 _ _ e2⟩
 have s5:=Zu.new (o:=.lst zk) hks;obtain⟨rp,hrp,kxz⟩:=Zgb hperm.symm kx4;have s45:=s4.trans s5;have hk5:(upd (upd H3 l (.lst ys)) ks (.lst zk)) ks=some (.lst zk):=Zb;have kx5:∀(i:Nat) z,zk[i]?= some z->∃r,rp[i]?= some r/\Kx (upd (upd H3 l (.lst ys)) ks (.lst zk)) z r:=fun i z hz=>by
  obtain⟨r,e1,pk,e2,e3⟩:=Zie kxz i z hz;exact⟨r,e1,pk,e2,s45 _ _ e3⟩
 have hd5:=s45 _ _ hd;have hrk5:=hrk.tk s45.tk;have s15:=s13.trans s45;have htg5:=s45 _ _ htg3;have hzl:zk.length=rs.length:=by rw[hperm.length_eq,hyl]
 have hrpl:rp.length=rs.length:=hrp.length_eq;generalize upd (upd H3 l (.lst ys)) ks (.lst zk)=H5 at hk5 kx5 hd5 hrk5 s15 htg5 ⊢;refine⟨ks,rfl,⟨_,SqL.of hk5⟩,fun pc hpc=>?_⟩;refine Zio (K:=K) (a:=ks) (p:=pc) (xs:=zk) (fun i us σ H6=>∃(w0 w1:Option V),σ =[w0,w1,some (.ref d)]/\Zu H5 H6/\H6 pc=some (.lst us)/\us.length=i/\RlL H6 us (rp.take i))
  ⟨none,none,rfl,Zu.new hpc,Zb,rfl,.nil⟩ ?_ ?_ ?_
 ·rintro i us σ H6 _ ⟨_,_,_,s6,h,_⟩;exact⟨SqL.of (s6 _ _ hk5),h⟩
 ·rintro i us x σ H6 hi hx ⟨w0,w1,rfl,s6,hp6,hul,hrl6⟩;obtain⟨r,e1,pk,rfl,e3⟩:=kx5 i x hx;have hr1:r∈rs:=hrp.mem_iff.mp (List.mem_of_getElem? e1);obtain⟨qp,yp,x1,x2,x3⟩:=hrk5.mem hro.nd r hr1;refine⟨pk,_,rfl,SqT.of (s6 _ _ e3),rfl,_,_,rfl,_,_,rfl,rfl,?_⟩;refine⟨_,rfl,_,rfl,_,rfl,_,rfl,_,rfl,(by show 2<=sizeLine;decide),fun kt hkt=>?_⟩;have s7:=Zu.new (o:=.tup [.int r.1,.str r.2.1]) hkt;have hg:ZeQ (upd H6 kt (.tup [.int r.1,.str r.2.1])) d (.ref kt) (some (.ref qp)):=by
   have:=ZeQ.t (k:=Za0 r.1 r.2.1) ((s6.trans s7) _ _ hd5) (show(upd H6 kt (.tup [.int r.1,.str r.2.1])) kt=some (.tup ((Za0 r.1 r.2.1).map kV)) from Zb);rw[x1] at this;exact this
  refine⟨d,_,rfl,hg,(by show 3<=sizeLine;decide),fun t3 ht3=>?_⟩;have s8:=Zu.new (o:=.tup [.int r.1,.str r.2.1,.ref qp]) ht3;have s78:=s7.trans s8;have hp8:=s78 _ _ hp6;have hi12:i<zk.length:=(List.getElem?_eq_some_iff.mp hx).1;refine⟨hp8,Zx (by lia),CW.next hi ⟨_,_,rfl,(s6.trans s78).upd_new hpc,Zb,by rw[List.length_append,List.length_singleton,hul],?_⟩⟩
  have tk:=s78.tk.trans (TK.lst (o:=.lst (us ++ [.ref t3])) hp8);have nt:t3≠pc:=fun z=>by rw[z,s7 _ _ hp6] at ht3;cases ht3
  rw[Za3 e1];refine Paired.app (hrl6.tk tk) (.cons ⟨t3,qp,yp,rfl,?_,tk _ _ (s6 _ _ x2),(x3.mono s6.tk).mono tk⟩ .nil);rw[Zc nt];exact Zb
 rintro us σ H6 ⟨w0,w1,rfl,s6,hp6,hul,hrl6⟩;rw[show zk.length=rp.length by lia,List.take_length] at hrl6;refine⟨pc,us,rfl,.inl ⟨SqL.of hp6,fun rt hrt=>?_⟩⟩;have s7:=Zu.new (o:=.tup us) hrt;have hrt7:(upd H6 rt (.tup us)) rt=some (.tup us):=Zb;have hrl7:=hrl6.tk s7.tk;have s17:=s15.trans (s6.trans s7);have hd7:=(s6.trans s7) _ _ hd5;have hrk7:=hrk5.tk (s6.trans s7).tk;have htg7:=(s6.trans s7) _ _ htg5;have hrpn:(rp.map fun r=>Za0 r.1 r.2.1).Nodup:=(hrp.map _).nodup_iff.mpr hro.nd;have km:=Zj4 hrpn;have okr:∀i t p,Z4 rp i t=some p->t∈ts/\(p.nk:Int)<=1/\p.sz<=6/\(∀x∈p.tags,x∈ts)/\∀k∈p.ks,0<=k/\k<n:=fun i t p e=>hro.ok _ (hrp.mem_iff.mp ((km i t p).mp e));have lets:∀t∈ts,t≠SL:=fun t ht=>(hts t ht).1.ne;refine⟨(by show 2<=sizeLine;decide),fun one hone=>?_⟩;have s8:=Zu.new (o:=.tup [.int n,.ref rt]) hone;have s18:=s17.trans s8;have hch:ChC (upd (upd H6 rt (.tup us)) one (.tup [.int n,.ref rt])) one n rp:=⟨rt,us,Zb,s8 _ _ hrt7,hrl7.tk s8.tk,by lia,fun r hr=>⟨by have:=(hro.ok r (hrp.mem_iff.mp hr)).2.2.1;lia,(hro.ok r (hrp.mem_iff.mp hr)).2.2.2.2⟩⟩;have kn8:=(hrk7.knr hro.nd hrp).tk s8.tk;have hd8:=s8 _ _ hd7;have htg8:=s8 _ _ htg7;show u5 _ [some (.ref a),some (.int v0),some (.int n),some (.ref tg),some (.ref d),some (.ref one),none,none,none,none,none,none,none,none] _;generalize upd (upd H6 rt (.tup us)) one (.tup [.int n,.ref rt])=H8 at s18 hch kn8 hd8 htg8 ⊢;have tail:∀k:Int,0<=k->k<=300->u7 { nx:=fun _ H'=>Q .non H',rt:=Q } [some (.ref a),some (.int v0),some (.int n),some (.ref tg),some (.ref d),some (.ref one),some (.int k),none,none,none,none,none,none,none] H8:=fun k k0 k3=>by
  refine Zo e7 ?_;refine⟨_,rfl,_,rfl,_,rfl,a,ns,40,k,rfl,s18.seq hS,h63,k0,by lia,fun nl2 xl2 H10 s10 _ hnl2 hxl2 hx2=>?_⟩;refine⟨tg,nl2,xl2,ts,rfl,hnl2,by lia,s10 _ _ htg8,ht4,lets,fun wl ws H11 s11 _ hwl hwlen hcan hws hlow=>?_⟩;show u8 _ _ _;refine Zo e8 ?_;refine⟨_,rfl,wl,ws,rfl,SqL.of hwl,by lia,hcan,fun ga xs G H12 s12 _ hga rg hwG hcl=>?_⟩;have s812:=s10.trans (s11.trans s12);have hgz:gsz G<=300:=by
   have h1:=ZM G;rw[hwG] at h1;lia
  have hgd:Zbs G<=30:=by
   have h1:=ZcC hcl;rw[hwG] at h1;lia
  have hwS:∀x∈words SL G,x=SL\/x∈ts:=by rw[hwG];exact hws
  have okG:OkW (words SL G):=fun x hx=>by
   rcases hwS x hx with rfl|h
   ·exact Zlz
   ·exact(hts x h).1.let0.ok
  have hlG:(words SL G).length<=1000:=by rw[ZM];lia
  have okC:∀mm,OkW (words SL (chG (Z4 rp) G mm)):=fun mm=>ZeJ (S:=fun x=>PyData.strOk x=true) Zlz (fun i t p e x hx=>(hts x ((okr i t p e).2.2.2.1 x hx)).1.let0.ok) G mm okG;have lin:∀mm,gsz (chG (Z4 rp) G mm)<=6*gsz G:=fun mm=>Zh6 (fun i t p e=>(okr i t p e).2.2.1) (fun i t p e=>by have:=(okr i t p e).2.1;lia) G mm;have hwl12:H12 wl=some (.lst ((words SL G).map V.str)):=by rw[hwG];exact s12 _ _ hwl
  have kv:KnV (Z4 rp) n:=⟨fun i t p e=>by have:=(okr i t p e).2.2.1;lia,fun i t p e=>(okr i t p e).2.2.2.2⟩;show u9 _ _ _;refine Zo e9 ?_;refine⟨_,rfl,_,rfl,_,rfl,d,wl,n,m,Z4 rp,G,rfl,s812 _ _ hd8,kn8.tk s812.tk,kv,n0,by lia,hwl12,hcl,by lia,fun wr H13 s13' rowW=>?_⟩;obtain⟨zw,hzw,hvw⟩:=rowW;have s813:=s812.trans s13';have hga13:=s13' _ _ hga;have rg13:=rg.mono s13'.tk;have hd13:=s813 _ _ hd8;have kn13:=kn8.tk s813.tk;have hch13:=hch.tk s813.tk;show u10 _ [some (.ref a),some (.int v0),some (.int n),some (.ref tg),some (.ref d),some (.ref one),some (.int k),some (.ref wl),some (.ref ga),some (.ref wr),none,none,none,none] H13;refine Zo e10 ?_;refine⟨_,rfl,n,rfl,by lia,by lia,Zby (lo:=0) (n:=n.toNat) (fun i σ Hx=>∃(v10 v11 v12 v13:Option V),σ =[some (.ref a),some (.int v0),some (.int n),some (.ref tg),some (.ref d),some (.ref one),some (.int k),some (.ref wl),some (.ref ga),some (.ref wr),v10,v11,v12,v13]/\Kp H13 Hx) ⟨none,none,none,none,rfl,Kp.same (Zu.refl _)⟩ ?_ ?_⟩
  ·rintro i σ Hx hi ⟨v10,v11,v12,v13,rfl,kx⟩;have mm0:0<=0+(i:Int):=by lia
   have mmn:0+(i:Int)<n:=by lia
   generalize 0+(i:Int)=mm at mm0 mmn ⊢;refine Zo e10_0 ?_;refine⟨_,rfl,(by show 0<=sizeLine;decide),fun e0' he0=>⟨(by show 2<=sizeLine;decide),fun o2 ho2=>?_⟩⟩;have z1:=Zu.new (o:=.tup []) he0;have z2:=Zu.new (o:=.tup [.int n,.ref e0']) ho2;have ky:=kx.trans (Kp.same (z1.trans z2));have chE:ChC (upd (upd Hx e0' (.tup [])) o2 (.tup [.int n,.ref e0'])) o2 n []:=⟨e0',[],Zb,z2 _ _ Zb,.nil,Nat.zero_le _,fun _ h=>nomatch h⟩
   refine⟨_,rfl,_,rfl,o2,ga,mm,n,[],xs,G,_,rfl,chE,by lia,mm0,mmn,ky.tk _ _ hga13,rg13.mono ky.tk,hcl,by lia,Zkt G mm,by lia,fun b1 b2 r a1 us1 Ha kpa hr1 ha1 ra1=>?_,fun b=>absurd ⟨by lia,by lia⟩ b⟩;have ka:=ky.trans kpa;refine⟨r,_,rfl,SqT.of hr1,rfl,_,_,rfl,_,_,rfl,rfl,?_⟩;show u10_1 _ _ _;refine Zo e10_1 ?_;refine⟨_,rfl,false,rfl,ZeT ⟨_,rfl,_,rfl,Zdh (SqT.of ha1) (SqT.of (ka.tk _ _ hga13)) ra1 (rg13.mono ka.tk) okG hlG ⟨false,rfl,ZeT ?_⟩⟩⟩;show u10_2 _ _ _;refine Zo e10_2 ?_;obtain⟨vw,evw,bw,rfl,hbw⟩:=hvw mm mm0 mmn;have eB:chS snB (Z4 rp) G mm=(gsz (chG (Z4 rp) G mm),Zbs (chG (Z4 rp) G mm)):=(Zg3 (n:=0) (Z4 rp) G mm).symm;rw[eB] at hbw;have hbw:H13 bw=some (.tup [.int (gsz (chG (Z4 rp) G mm):Int),.int (Zbs (chG (Z4 rp) G mm):Int)]):=hbw;have l6:=lin mm;refine⟨_,rfl,_,rfl,_,rfl,one,ga,mm,n,rp,xs,G,_,rfl,hch13.tk ka.tk,by lia,mm0,mmn,ka.tk _ _ hga13,rg13.mono ka.tk,hcl,by lia,rfl,by lia,fun c1 c2 r2 a2 us2 Hb kpb hr2 ha2 ra2=>?_,fun c r2 Hb kpb hr2=>?_⟩
   ·have kb:=ka.trans kpb;refine⟨r2,_,rfl,SqT.of hr2,rfl,_,_,rfl,_,_,rfl,rfl,?_⟩;show u10_3 _ _ _;refine Zo e10_3 ?_;refine⟨_,rfl,_,rfl,_,rfl,wr,_,_,_,rfl,rfl,SqL.of (kb _ _ hzw fun _ z=>nomatch z),evw,bw,_,0,_,rfl,rfl,SqT.of (kb.tk _ _ hbw),rfl,_,_,rfl,rfl,_,rfl,Zd8 (fun c=>?_) (fun c=>?_)⟩
    ·have c:(300:Int)<(gsz (chG (Z4 rp) G mm):Int):=of_decide_eq_true c;lia
    refine⟨_,rfl,_,rfl,wr,_,_,_,rfl,rfl,SqL.of (kb _ _ hzw fun _ z=>nomatch z),evw,bw,_,1,_,rfl,rfl,SqT.of (kb.tk _ _ hbw),rfl,_,_,rfl,rfl,?_⟩
    have hdc:decide ((100:Int)<(Zbs (chG (Z4 rp) G mm):Int))=false:=decide_eq_false (by lia);refine⟨rfl,_,rfl,Zd8 (fun c'=>?_) (fun _=>?_)⟩
    ·have c':(!decide (V.bl false=V.bl (decide ((100:Int)<(Zbs (chG (Z4 rp) G mm):Int)))))=true:=c';rw[hdc] at c';exact absurd c' (by decide)
    show u10_4 _ _ _;refine Zo e10_4 ?_;refine⟨_,rfl,false,rfl,ZeT ?_⟩;show u10_5 _ _ _;refine Zo e10_5 ?_;refine⟨_,rfl,.ref a2,"tuple",.type "tuple",true,rfl,.tup ha2,rfl,true,rfl,ZeT ?_⟩;refine⟨_,rfl,_,rfl,_,rfl,_,rfl,_,rfl,one,d,ga,a2,n,mm,rp,m,xs,us2,G,rfl,hch13.tk kb.tk,by lia,mm0,mmn,kb _ _ hd13 (fun _ z=>nomatch z),kn13.tk kb.tk,kb.tk _ _ hga13,rg13.mono kb.tk,hcl,by lia,ha2,ra2,c1,c2,okC mm,fun Hc kc=>⟨true,rfl,ZeT ?_⟩⟩
    exact⟨_,_,_,_,rfl,kb.trans kc⟩
   ·have kb:=ka.trans kpb;refine⟨r2,_,rfl,SqT.of hr2,rfl,_,_,rfl,_,_,rfl,rfl,?_⟩;show u10_3 _ _ _;refine Zo e10_3 ?_;refine⟨_,rfl,_,rfl,_,rfl,wr,_,_,_,rfl,rfl,SqL.of (kb _ _ hzw fun _ z=>nomatch z),evw,bw,_,0,_,rfl,rfl,SqT.of (kb.tk _ _ hbw),rfl,_,_,rfl,rfl,_,rfl,Zd8 (fun c'=>?_) (fun c'=>?_)⟩
    ·have c':decide ((300:Int)<(gsz (chG (Z4 rp) G mm):Int))=true:=c';refine⟨rfl,_,rfl,Zd8 (fun c3=>?_) (fun _=>?_)⟩
     ·have c3:(!decide (V.bl true=V.bl true))=true:=c3;exact absurd c3 (by decide)
     ·show u10_4 _ _ _;refine Zo e10_4 ?_;refine⟨_,rfl,true,rfl,ZhS ?_⟩;exact⟨_,_,_,_,rfl,kb⟩
    ·refine⟨_,rfl,_,rfl,wr,_,_,_,rfl,rfl,SqL.of (kb _ _ hzw fun _ z=>nomatch z),evw,bw,_,1,_,rfl,rfl,SqT.of (kb.tk _ _ hbw),rfl,_,_,rfl,rfl,?_⟩
     have c4 : ¬ (300:Int)<(gsz (chG (Z4 rp) G mm):Int):=fun z=>c' (decide_eq_true z);have hdc:decide ((100:Int)<(Zbs (chG (Z4 rp) G mm):Int))=true:=decide_eq_true (by
      by_cases z:(100:Int)<(Zbs (chG (Z4 rp) G mm):Int)
      ·exact z
      ·exact absurd ⟨by lia,by lia⟩ c)
     refine⟨rfl,_,rfl,Zd8 (fun c3=>?_) (fun _=>?_)⟩
     ·have c3:(!decide (V.bl true=V.bl (decide ((100:Int)<(Zbs (chG (Z4 rp) G mm):Int)))))=true:=c3;rw[hdc] at c3;exact absurd c3 (by decide)
     ·show u10_4 _ _ _;refine Zo e10_4 ?_;refine⟨_,rfl,true,rfl,ZhS ?_⟩;exact⟨_,_,_,_,rfl,kb⟩
  ·rintro σ Hx ⟨v10,v11,v12,v13,rfl,kx⟩;show u11 _ _ _;refine Zo e11 ?_;exact q _
 refine Zo e5 ?_;refine⟨_,rfl,_,_,rfl,rfl,⟨by decide,by decide⟩,_,_,rfl,rfl,(by show(0:Int)<13;decide),?_⟩;have k0:=Int.emod_nonneg (v0 / 3) (by decide:(13:Int)≠0);have k1:=Int.emod_lt_of_pos (v0 / 3) (by decide:(0:Int)<13);show u6 _ _ _;refine Zo e6 ?_;refine⟨_,rfl,_,_,rfl,rfl,⟨by decide,by decide⟩,_,_,rfl,rfl,(by show(0:Int)<8;decide),rfl,_,rfl,Zd8 (fun _=>?_) (fun _=>?_)⟩
 ·have j0:=Int.emod_nonneg (v0 / 312) (by decide:(301:Int)≠0);have j1:=Int.emod_lt_of_pos (v0 / 312) (by decide:(0:Int)<301);refine⟨_,rfl,_,_,rfl,rfl,⟨by decide,by decide⟩,_,_,rfl,rfl,(by show(0:Int)<301;decide),?_⟩;exact tail (v0 / 312 % 301) j0 (by lia)
 ·exact tail (v0 / 3 % 13) k0 (by lia)
end
theorem ZlB{l:PySem.W.OpenLaw}{w:World}{K:PySem.W.Frag}{h:Heap}{mg:Str->Option Value}{fa f1 f2 f3 f4 f5 f6 f7 f8 f9 f10 f11 f12 f13 f14 f15 f16 f17 f18 f19 f20 f21 f22 f23 f24 f25 f26 f27 f28 f29 f30 f31 f32:Addr}(X:K.In h)(G:h.Ns mainGlobals mg)(hfa:mg "law" = some (.ref fa))
  {od1 an1 od2 an2 od3 an3 od4 an4 od5 an5 od6 an6 od7 an7 od8 an8 od9 an9 od10 an10 od11 an11 od12 an12 od13 an13 od14 an14 od15 an15 od16 an16 od17 an17 od18 an18 od19 an19 od20 an20 od21 an21 od22 an22 od23 an23 od24 an24 od25 an25 od26 an26 od27 an27 od28 an28 od29 an29 od30 an30 od31 an31 od32 an32:Option Addr} {sl1 sl2 sl3 sl4 sl5 sl6 sl7 sl8 sl9 sl10 sl11 sl12 sl13 sl14 sl15 sl16 sl17 sl18 sl19 sl20 sl21 sl22 sl23 sl24 sl25 sl26 sl27 sl28 sl29 sl30 sl31 sl32:Array (Option Value)} {oc1 kV1 dc1 pm1 cd1 ct1 oc2 kV2 dc2 pm2 cd2 ct2 oc3 kV3 dc3 pm3 cd3 ct3 oc4 kV4 dc4 pm4 cd4 ct4 oc5 kV5 dc5 pm5 cd5 ct5 oc6 kV6 dc6 pm6 cd6 ct6 oc7 kV7 dc7 pm7 cd7 ct7 oc8 kV8 dc8 pm8 cd8 ct8 oc9 kV9 dc9 pm9 cd9 ct9 oc10 kV10 dc10 pm10 cd10 ct10 oc11 kV11 dc11 pm11 cd11 ct11 oc12 kV12 dc12 pm12 cd12 ct12 oc13 kV13 dc13 pm13 cd13 ct13 oc14 kV14 dc14 pm14 cd14 ct14 oc15 kV15 dc15 pm15 cd15 ct15 oc16 kV16 dc16 pm16 cd16 ct16 oc17 kV17 dc17 pm17 cd17 ct17 oc18 kV18 dc18 pm18 cd18 ct18 oc19 kV19 dc19 pm19 cd19 ct19 oc20 kV20 dc20 pm20 cd20 ct20 oc21 kV21 dc21 pm21 cd21 ct21 oc22 kV22 dc22 pm22 cd22 ct22 oc23 kV23 dc23 pm23 cd23 ct23 oc24 kV24 dc24 pm24 cd24 ct24 oc25 kV25 dc25 pm25 cd25 ct25 oc26 kV26 dc26 pm26 cd26 ct26 oc27 kV27 dc27 pm27 cd27 ct27 oc28 kV28 dc28 pm28 cd28 ct28 oc29 kV29 dc29 pm29 cd29 ct29 oc30 kV30 dc30 pm30 cd30 ct30 oc31 kV31 dc31 pm31 cd31 ct31 oc32 kV32 dc32 pm32 cd32 ct32:Value}
  {X_GroveError X_TooBig:Addr}
  (xn_GroveError:PySem.W.nsIn K mainGlobals "GroveError" = some (some (.ref X_GroveError)))
  (xn_TooBig:PySem.W.nsIn K mainGlobals "TooBig" = some (some (.ref X_TooBig)))
  {g0 goc:Value} {gdd god:Option Addr} {gcd:ClassData} {gsl gsl':Array (Option Value)} {ges:Array DictEntry} {gep:Nat} (xg1:K.lookup X_GroveError=some ⟨g0,gdd,.cls gcd,gsl⟩) (xg2:K.lookup gcd.ns=some ⟨goc,god,.dict ges gep,gsl'⟩) (xg3:keysOk ges=true) (xg4:PySem.W.nsIn K gcd.ns "__init__" = some none)
  (xb1:PySem.W.specialIn K (.ref X_GroveError) "__getattribute__" = some (some (.builtin "type.__getattribute__"))) (xb2:PySem.W.readsIn K X_GroveError (.type "type")=true) (xb3:PySem.W.findCls K (.ref X_GroveError) (.type "type") "__init__" = some (.val (.builtin "ValueError.__init__"))) (xb4:PySem.W.isClsIn K X_GroveError=true) (xb5:PySem.W.typeIn K (.ref X_GroveError)=some (.type "type"))
  (d1_GroveError:PySem.W.isClsIn K X_GroveError=true) (d2_GroveError:PySem.W.mroIn K X_GroveError (.type "BaseException")=some true) (d3_GroveError:PySem.W.instIn K (.ref X_GroveError) (.type "tuple")=some false)
  (d1_TooBig:PySem.W.isClsIn K X_TooBig=true) (d2_TooBig:PySem.W.mroIn K X_TooBig (.type "BaseException")=some true) (d3_TooBig:PySem.W.instIn K (.ref X_TooBig) (.type "tuple")=some false)
  {nm_TooBig q_TooBig:Str} {N_TooBig:Addr} {bs_TooBig:List Value} {hdct_TooBig:Bool} {sn_TooBig:List Str} {sub_TooBig:List Value} {ab_TooBig:Bool} {col_TooBig:Option Bool} {dd_TooBig:Option Addr} {k0_TooBig k1_TooBig k2_TooBig k3_TooBig k5_TooBig:Option Value}
  (xl_TooBig:K.lookup X_TooBig=some (excClassObj nm_TooBig q_TooBig X_TooBig N_TooBig bs_TooBig (.ref X_GroveError::bmV) hdct_TooBig sn_TooBig sub_TooBig ab_TooBig col_TooBig dd_TooBig k0_TooBig k1_TooBig k2_TooBig k3_TooBig k5_TooBig "ValueError.__new__"))
  (xc_TooBig:PySem.W.specialIn K (.ref X_TooBig) "__call__" = some (some (.builtin "type.__call__"))) (xt_TooBig:PySem.W.instIn K (.ref X_TooBig) (.type "type")=some true) (xk_TooBig:PySem.W.keepIn K (.ref X_TooBig)=true) (xv_TooBig:PySem.W.mroIn K X_TooBig (.type "ValueError")=some true)
  (xe_TooBig:X_TooBig≠X_GroveError)
  (xi_TooBig:PySem.W.findIn K (.ref X_TooBig) "__init__" = some (some (.builtin "ValueError.__init__")))
  (m_TooBig_GroveError:PySem.W.mroIn K X_TooBig (.ref X_GroveError)=some true)
  (m_TooBig_TooBig:PySem.W.mroIn K X_TooBig (.ref X_TooBig)=some true)
  {C_Bounds C_Groves:Addr}
  (cn1:PySem.W.nsIn K mainGlobals "Bounds" = some (some (.ref C_Bounds))) (cp1:PySem.W.plainGet K C_Bounds Str.empty=true) (ch1:PySem.W.hasDictIn K C_Bounds=true) (cq1:PySem.W.plainOver K C_Bounds=true) (cs1:PySem.W.findIn K (.ref C_Bounds) "__setattr__" = some (some (.builtin "object.__setattr__"))) (cm1:PySem.W.makesIn K C_Bounds=true) (ck1:PySem.W.keepIn K (.ref C_Bounds)=true)
  (ci1:PySem.W.findIn K (.ref C_Bounds) "__init__" = some (some (.builtin "object.__init__")))
  (cn2:PySem.W.nsIn K mainGlobals "Groves" = some (some (.ref C_Groves))) (cp2:PySem.W.plainGet K C_Groves Str.empty=true) (ch2:PySem.W.hasDictIn K C_Groves=true) (cq2:PySem.W.plainOver K C_Groves=true) (cs2:PySem.W.findIn K (.ref C_Groves) "__setattr__" = some (some (.builtin "object.__setattr__"))) (cm2:PySem.W.makesIn K C_Groves=true) (ck2:PySem.W.keepIn K (.ref C_Groves)=true)
  (ci2:PySem.W.findIn K (.ref C_Groves) "__init__" = some (some (.builtin "object.__init__")))
  (a1:PySem.W.nsIn K mainGlobals "_law_cell_at" = some (some (.ref f1))) (l1:K.lookup f1=some ⟨oc1,od1,.func (PySem.W.fnOf "_law_cell_at" "_law_cell_at" (Zw Za4) (Ze Za4) (Zg Za4) .none kV1 dc1 pm1 an1 cd1 ct1),sl1⟩) (c1:PySem.W.codeIn K cd1 "_law_cell_at" = true) (k1:PySem.W.keepIn K (.ref f1)=true)
  (a2:PySem.W.nsIn K mainGlobals "_law_tags" = some (some (.ref f2))) (l2:K.lookup f2=some ⟨oc2,od2,.func (PySem.W.fnOf "_law_tags" "_law_tags" (Zw Zax) (Ze Zax) (Zg Zax) .none kV2 dc2 pm2 an2 cd2 ct2),sl2⟩) (c2:PySem.W.codeIn K cd2 "_law_tags" = true) (k2:PySem.W.keepIn K (.ref f2)=true)
  (a3:PySem.W.nsIn K mainGlobals "_law_parts" = some (some (.ref f3))) (l3:K.lookup f3=some ⟨oc3,od3,.func (PySem.W.fnOf "_law_parts" "_law_parts" (Zw ZC) (Ze ZC) (Zg ZC) .none kV3 dc3 pm3 an3 cd3 ct3),sl3⟩) (c3:PySem.W.codeIn K cd3 "_law_parts" = true) (k3:PySem.W.keepIn K (.ref f3)=true)
  (a4:PySem.W.nsIn K mainGlobals "_law_ways" = some (some (.ref f4))) (l4:K.lookup f4=some ⟨oc4,od4,.func (PySem.W.fnOf "_law_ways" "_law_ways" (Zw Zaq) (Ze Zaq) (Zg Zaq) .none kV4 dc4 pm4 an4 cd4 ct4),sl4⟩) (c4:PySem.W.codeIn K cd4 "_law_ways" = true) (k4:PySem.W.keepIn K (.ref f4)=true)
  (a5:PySem.W.nsIn K mainGlobals "_law_numbers" = some (some (.ref f5))) (l5:K.lookup f5=some ⟨oc5,od5,.func (PySem.W.fnOf "_law_numbers" "_law_numbers" (Zw Za2) (Ze Za2) (Zg Za2) .none kV5 dc5 pm5 an5 cd5 ct5),sl5⟩) (c5:PySem.W.codeIn K cd5 "_law_numbers" = true) (k5:PySem.W.keepIn K (.ref f5)=true)
  (a6:PySem.W.nsIn K mainGlobals "_law_words" = some (some (.ref f6))) (l6:K.lookup f6=some ⟨oc6,od6,.func (PySem.W.fnOf "_law_words" "_law_words" (Zw Z5) (Ze Z5) (Zg Z5) .none kV6 dc6 pm6 an6 cd6 ct6),sl6⟩) (c6:PySem.W.codeIn K cd6 "_law_words" = true) (k6:PySem.W.keepIn K (.ref f6)=true)
  (a7:PySem.W.nsIn K mainGlobals "_law_grove" = some (some (.ref f7))) (l7:K.lookup f7=some ⟨oc7,od7,.func (PySem.W.fnOf "_law_grove" "_law_grove" (Zw ZbC) (Ze ZbC) (Zg ZbC) .none kV7 dc7 pm7 an7 cd7 ct7),sl7⟩) (c7:PySem.W.codeIn K cd7 "_law_grove" = true) (k7:PySem.W.keepIn K (.ref f7)=true)
  (a8:PySem.W.nsIn K mainGlobals "_law_weigh" = some (some (.ref f8))) (l8:K.lookup f8=some ⟨oc8,od8,.func (PySem.W.fnOf "_law_weigh" "_law_weigh" (Zw ZW) (Ze ZW) (Zg ZW) .none kV8 dc8 pm8 an8 cd8 ct8),sl8⟩) (c8:PySem.W.codeIn K cd8 "_law_weigh" = true) (k8:PySem.W.keepIn K (.ref f8)=true)
  (a9:PySem.W.nsIn K mainGlobals "_law_parts_for" = some (some (.ref f9))) (l9:K.lookup f9=some ⟨oc9,od9,.func (PySem.W.fnOf "_law_parts_for" "_law_parts_for" (Zw Zap) (Ze Zap) (Zg Zap) .none kV9 dc9 pm9 an9 cd9 ct9),sl9⟩) (c9:PySem.W.codeIn K cd9 "_law_parts_for" = true) (k9:PySem.W.keepIn K (.ref f9)=true)
  (a10:PySem.W.nsIn K mainGlobals "_law_weight" = some (some (.ref f10))) (l10:K.lookup f10=some ⟨oc10,od10,.func (PySem.W.fnOf "_law_weight" "_law_weight" (Zw Zz) (Ze Zz) (Zg Zz) .none kV10 dc10 pm10 an10 cd10 ct10),sl10⟩) (c10:PySem.W.codeIn K cd10 "_law_weight" = true) (k10:PySem.W.keepIn K (.ref f10)=true)
  (a11:PySem.W.nsIn K mainGlobals "words_of" = some (some (.ref f11))) (l11:K.lookup f11=some ⟨oc11,od11,.func (PySem.W.fnOf "words_of" "words_of" (Zw Zbk) (Ze Zbk) (Zg Zbk) .none kV11 dc11 pm11 an11 cd11 ct11),sl11⟩) (c11:PySem.W.codeIn K cd11 "words_of" = true) (k11:PySem.W.keepIn K (.ref f11)=true)
  (a12:PySem.W.nsIn K mainGlobals "parts_by_rule" = some (some (.ref f12))) (l12:K.lookup f12=some ⟨oc12,od12,.func (PySem.W.fnOf "parts_by_rule" "parts_by_rule" (Zw Z9) (Ze Z9) (Zg Z9) .none kV12 dc12 pm12 an12 cd12 ct12),sl12⟩) (c12:PySem.W.codeIn K cd12 "parts_by_rule" = true) (k12:PySem.W.keepIn K (.ref f12)=true)
  (a13:PySem.W.nsIn K mainGlobals "all_parts" = some (some (.ref f13))) (l13:K.lookup f13=some ⟨oc13,od13,.func (PySem.W.fnOf "all_parts" "all_parts" (Zw Za6) (Ze Za6) (Zg Za6) .none kV13 dc13 pm13 an13 cd13 ct13),sl13⟩) (c13:PySem.W.codeIn K cd13 "all_parts" = true) (k13:PySem.W.keepIn K (.ref f13)=true)
  (a14:PySem.W.nsIn K mainGlobals "parts_for" = some (some (.ref f14))) (l14:K.lookup f14=some ⟨oc14,od14,.func (PySem.W.fnOf "parts_for" "parts_for" (Zw ZaP) (Ze ZaP) (Zg ZaP) .none kV14 dc14 pm14 an14 cd14 ct14),sl14⟩) (c14:PySem.W.codeIn K cd14 "parts_for" = true) (k14:PySem.W.keepIn K (.ref f14)=true)
  (a15:PySem.W.nsIn K mainGlobals "modes_within" = some (some (.ref f15))) (l15:K.lookup f15=some ⟨oc15,od15,.func (PySem.W.fnOf "modes_within" "modes_within" (Zw Zah) (Ze Zah) (Zg Zah) .none kV15 dc15 pm15 an15 cd15 ct15),sl15⟩) (c15:PySem.W.codeIn K cd15 "modes_within" = true) (k15:PySem.W.keepIn K (.ref f15)=true)
  (a16:PySem.W.nsIn K mainGlobals "modes_at" = some (some (.ref f16))) (l16:K.lookup f16=some ⟨oc16,od16,.func (PySem.W.fnOf "modes_at" "modes_at" (Zw Zbl) (Ze Zbl) (Zg Zbl) .none kV16 dc16 pm16 an16 cd16 ct16),sl16⟩) (c16:PySem.W.codeIn K cd16 "modes_at" = true) (k16:PySem.W.keepIn K (.ref f16)=true)
  (a17:PySem.W.nsIn K mainGlobals "closings" = some (some (.ref f17))) (l17:K.lookup f17=some ⟨oc17,od17,.func (PySem.W.fnOf "closings" "closings" (Zw Za7) (Ze Za7) (Zg Za7) .none kV17 dc17 pm17 an17 cd17 ct17),sl17⟩) (c17:PySem.W.codeIn K cd17 "closings" = true) (k17:PySem.W.keepIn K (.ref f17)=true)
  (a18:PySem.W.findIn K (.ref C_Bounds) "nothing" = some (some (.ref f18))) (l18:K.lookup f18=some ⟨oc18,od18,.func (PySem.W.fnOf "nothing" "Bounds.nothing" (Zw Zac) (Ze Zac) (Zg Zac) .none kV18 dc18 pm18 an18 cd18 ct18),sl18⟩) (c18:PySem.W.codeIn K cd18 "Bounds.nothing" = true) (k18:PySem.W.keepIn K (.ref f18)=true) (n18:PySem.W.isFn K (.ref f18)=true)
  (a19:PySem.W.findIn K (.ref C_Groves) "nothing" = some (some (.ref f19))) (l19:K.lookup f19=some ⟨oc19,od19,.func (PySem.W.fnOf "nothing" "Groves.nothing" (Zw Zad) (Ze Zad) (Zg Zad) .none kV19 dc19 pm19 an19 cd19 ct19),sl19⟩) (c19:PySem.W.codeIn K cd19 "Groves.nothing" = true) (k19:PySem.W.keepIn K (.ref f19)=true) (n19:PySem.W.isFn K (.ref f19)=true)
  (a20:PySem.W.findIn K (.ref C_Bounds) "tree" = some (some (.ref f20))) (l20:K.lookup f20=some ⟨oc20,od20,.func (PySem.W.fnOf "tree" "Bounds.tree" (Zw ZaD) (Ze ZaD) (Zg ZaD) .none kV20 dc20 pm20 an20 cd20 ct20),sl20⟩) (c20:PySem.W.codeIn K cd20 "Bounds.tree" = true) (k20:PySem.W.keepIn K (.ref f20)=true) (n20:PySem.W.isFn K (.ref f20)=true)
  (a21:PySem.W.findIn K (.ref C_Groves) "tree" = some (some (.ref f21))) (l21:K.lookup f21=some ⟨oc21,od21,.func (PySem.W.fnOf "tree" "Groves.tree" (Zw ZaE) (Ze ZaE) (Zg ZaE) .none kV21 dc21 pm21 an21 cd21 ct21),sl21⟩) (c21:PySem.W.codeIn K cd21 "Groves.tree" = true) (k21:PySem.W.keepIn K (.ref f21)=true) (n21:PySem.W.isFn K (.ref f21)=true)
  (a22:PySem.W.findIn K (.ref C_Bounds) "beside" = some (some (.ref f22))) (l22:K.lookup f22=some ⟨oc22,od22,.func (PySem.W.fnOf "beside" "Bounds.beside" (Zw Zak) (Ze Zak) (Zg Zak) .none kV22 dc22 pm22 an22 cd22 ct22),sl22⟩) (c22:PySem.W.codeIn K cd22 "Bounds.beside" = true) (k22:PySem.W.keepIn K (.ref f22)=true) (n22:PySem.W.isFn K (.ref f22)=true)
  (a23:PySem.W.findIn K (.ref C_Groves) "beside" = some (some (.ref f23))) (l23:K.lookup f23=some ⟨oc23,od23,.func (PySem.W.fnOf "beside" "Groves.beside" (Zw Zaj) (Ze Zaj) (Zg Zaj) .none kV23 dc23 pm23 an23 cd23 ct23),sl23⟩) (c23:PySem.W.codeIn K cd23 "Groves.beside" = true) (k23:PySem.W.keepIn K (.ref f23)=true) (n23:PySem.W.isFn K (.ref f23)=true)
  (a24:PySem.W.nsIn K mainGlobals "come_of_parts" = some (some (.ref f24))) (l24:K.lookup f24=some ⟨oc24,od24,.func (PySem.W.fnOf "come_of_parts" "come_of_parts" (Zw Z7) (Ze Z7) (Zg Z7) .none kV24 dc24 pm24 an24 cd24 ct24),sl24⟩) (c24:PySem.W.codeIn K cd24 "come_of_parts" = true) (k24:PySem.W.keepIn K (.ref f24)=true)
  (a25:PySem.W.nsIn K mainGlobals "come_of" = some (some (.ref f25))) (l25:K.lookup f25=some ⟨oc25,od25,.func (PySem.W.fnOf "come_of" "come_of" (Zw ZL) (Ze ZL) (Zg ZL) .none kV25 dc25 pm25 an25 cd25 ct25),sl25⟩) (c25:PySem.W.codeIn K cd25 "come_of" = true) (k25:PySem.W.keepIn K (.ref f25)=true)
  (a26:PySem.W.nsIn K mainGlobals "refuse_great" = some (some (.ref f26))) (l26:K.lookup f26=some ⟨oc26,od26,.func (PySem.W.fnOf "refuse_great" "refuse_great" (Zw Zat) (Ze Zat) (Zg Zat) .none kV26 dc26 pm26 an26 cd26 ct26),sl26⟩) (c26:PySem.W.codeIn K cd26 "refuse_great" = true) (k26:PySem.W.keepIn K (.ref f26)=true)
  {td27:Addr} {dob27:Obj} {dtk27:Tok} {dn27:Nat}
  (a27:PySem.W.nsIn K mainGlobals "changed" = some (some (.ref f27))) (l27:K.lookup f27=some ⟨oc27,od27,.func (PySem.W.fnOf "changed" "changed" (Zw ZbB) (Ze ZbB) (Zg ZbB) (.ref td27) kV27 dc27 pm27 an27 cd27 ct27),sl27⟩) (c27:PySem.W.codeIn K cd27 "changed" = true) (k27:PySem.W.keepIn K (.ref f27)=true)
  (dl27:K.lookup td27=some dob27) (ds27:dob27.data=.seq #[.int 0 dtk27] dn27)
  (a28:PySem.W.nsIn K mainGlobals "_law_told" = some (some (.ref f28))) (l28:K.lookup f28=some ⟨oc28,od28,.func (PySem.W.fnOf "_law_told" "_law_told" (Zw Zb7) (Ze Zb7) (Zg Zb7) .none kV28 dc28 pm28 an28 cd28 ct28),sl28⟩) (c28:PySem.W.codeIn K cd28 "_law_told" = true) (k28:PySem.W.keepIn K (.ref f28)=true)
  (a29:PySem.W.nsIn K mainGlobals "_law_kids_in" = some (some (.ref f29))) (l29:K.lookup f29=some ⟨oc29,od29,.func (PySem.W.fnOf "_law_kids_in" "_law_kids_in" (Zw Za1) (Ze Za1) (Zg Za1) .none kV29 dc29 pm29 an29 cd29 ct29),sl29⟩) (c29:PySem.W.codeIn K cd29 "_law_kids_in" = true) (k29:PySem.W.keepIn K (.ref f29)=true)
  (a30:PySem.W.nsIn K mainGlobals "_law_filled" = some (some (.ref f30))) (l30:K.lookup f30=some ⟨oc30,od30,.func (PySem.W.fnOf "_law_filled" "_law_filled" (Zw Za9) (Ze Za9) (Zg Za9) .none kV30 dc30 pm30 an30 cd30 ct30),sl30⟩) (c30:PySem.W.codeIn K cd30 "_law_filled" = true) (k30:PySem.W.keepIn K (.ref f30)=true)
  (a31:PySem.W.nsIn K mainGlobals "_law_steps" = some (some (.ref f31))) (l31:K.lookup f31=some ⟨oc31,od31,.func (PySem.W.fnOf "_law_steps" "_law_steps" (Zw ZP) (Ze ZP) (Zg ZP) .none kV31 dc31 pm31 an31 cd31 ct31),sl31⟩) (c31:PySem.W.codeIn K cd31 "_law_steps" = true) (k31:PySem.W.keepIn K (.ref f31)=true)
  (a32:PySem.W.nsIn K mainGlobals "law" = some (some (.ref f32))) (l32:K.lookup f32=some ⟨oc32,od32,.func (PySem.W.fnOf "law" "law" (Zw ZaV) (Ze ZaV) (Zg ZaV) .none kV32 dc32 pm32 an32 cd32 ct32),sl32⟩) (c32:PySem.W.codeIn K cd32 "law" = true) (k32:PySem.W.keepIn K (.ref f32)=true)
  {tk0 tk1:Tok} (y0:PySem.W.nsIn K mainGlobals "DEEPEST_GROVE" = some (some (.int 100 tk0))) (y1:PySem.W.nsIn K mainGlobals "MOST_TAGS" = some (some (.int 300 tk1)))
  (z0:PySem.W.nsIn K mainGlobals "dict" = some none) (z1:PySem.W.nsIn K mainGlobals "enumerate" = some none) (z2:PySem.W.nsIn K mainGlobals "isinstance" = some none) (z3:PySem.W.nsIn K mainGlobals "len" = some none) (z4:PySem.W.nsIn K mainGlobals "list" = some none) (z5:PySem.W.nsIn K mainGlobals "max" = some none) (z6:PySem.W.nsIn K mainGlobals "min" = some none) (z7:PySem.W.nsIn K mainGlobals "range" = some none) (z8:PySem.W.nsIn K mainGlobals "reversed" = some none) (z9:PySem.W.nsIn K mainGlobals "sorted" = some none) (z10:PySem.W.nsIn K mainGlobals "tuple" = some none) :
  ∃fd:FuncData,(∀(s:Shared)(v:Value),BindsTo s fd ⟨[v],[]⟩ [("_law_script",v)])/\∀base:Heap,K.In base->base.Ns mainGlobals mg->FnOk l.prog w K mg base CX0 109 fa fd ["_law_script"] (Fg.ZjT K):=by
 have e:=hfa.symm.trans (PySem.W.mg_of X G a32);cases e;have B:∀x∈Zcb,mg x=none:=List.forall_mem_cons.mpr ⟨PySem.W.mg_none_of X G z0,List.forall_mem_cons.mpr ⟨PySem.W.mg_none_of X G z1,List.forall_mem_cons.mpr ⟨PySem.W.mg_none_of X G z2,List.forall_mem_cons.mpr ⟨PySem.W.mg_none_of X G z3,List.forall_mem_cons.mpr ⟨PySem.W.mg_none_of X G z4,List.forall_mem_cons.mpr ⟨PySem.W.mg_none_of X G z5,List.forall_mem_cons.mpr ⟨PySem.W.mg_none_of X G z6,List.forall_mem_cons.mpr ⟨PySem.W.mg_none_of X G z7,List.forall_mem_cons.mpr ⟨PySem.W.mg_none_of X G z8,List.forall_mem_cons.mpr ⟨PySem.W.mg_none_of X G z9,List.forall_mem_cons.mpr ⟨PySem.W.mg_none_of X G z10,List.forall_mem_nil _⟩⟩⟩⟩⟩⟩⟩⟩⟩⟩⟩;have Cc_DEEPEST_GROVE:∃t:Tok,mg "DEEPEST_GROVE" = some (.int 100 t):=⟨_,PySem.W.mg_of X G y0⟩;have Cc_MOST_TAGS:∃t:Tok,mg "MOST_TAGS" = some (.int 300 t):=⟨_,PySem.W.mg_of X G y1⟩;have F1:=Z6 (st:=Za4) l1 c1 k1;have b1:=F1.binds (ps:=["_law_script","_law_k"]) fun _ _ _ _ _ _ us hl=>by obtain⟨_,_,rfl⟩:=Zkp hl;rfl
 have F2:=Z6 (st:=Zax) l2 c2 k2;have b2:=F2.binds (ps:=["_law_cell"]) fun _ _ _ _ _ _ us hl=>by obtain⟨_,rfl⟩:=Zjm hl;rfl
 have F3:=Z6 (st:=ZC) l3 c3 k3;have b3:=F3.binds (ps:=["_law_numbers_here","_law_tags_here","_law_modes"]) fun _ _ _ _ _ _ us hl=>by obtain⟨_,_,_,rfl⟩:=ZfL hl;rfl
 have F4:=Z6 (st:=Zaq) l4 c4 k4;have b4:=F4.binds (ps:=["_law_numbers_here","_law_tags_here","_law_modes"]) fun _ _ _ _ _ _ us hl=>by obtain⟨_,_,_,rfl⟩:=ZfL hl;rfl
 have F5:=Z6 (st:=Za2) l5 c5 k5;have b5:=F5.binds (ps:=["_law_script","_law_first","_law_many"]) fun _ _ _ _ _ _ us hl=>by obtain⟨_,_,_,rfl⟩:=ZfL hl;rfl
 have F6:=Z6 (st:=Z5) l6 c6 k6;have b6:=F6.binds (ps:=["_law_tags_here","_law_numbers_here"]) fun _ _ _ _ _ _ us hl=>by obtain⟨_,_,rfl⟩:=Zkp hl;rfl
 have F7:=Z6 (st:=ZbC) l7 c7 k7;have b7:=F7.binds (ps:=["_law_words_here"]) fun _ _ _ _ _ _ us hl=>by obtain⟨_,rfl⟩:=Zjm hl;rfl
 have F8:=Z6 (st:=ZW) l8 c8 k8;have b8:=F8.binds (ps:=["_law_parts_here","_law_rows"]) fun _ _ _ _ _ _ us hl=>by obtain⟨_,_,rfl⟩:=Zkp hl;rfl
 have F9:=Z6 (st:=Zap) l9 c9 k9;have b9:=F9.binds (ps:=["_law_ways_here","_law_mode","_law_tag"]) fun _ _ _ _ _ _ us hl=>by obtain⟨_,_,_,rfl⟩:=ZfL hl;rfl
 have F10:=Z6 (st:=Zz) l10 c10 k10;have b10:=F10.binds (ps:=["_law_ways_here","_law_modes","_law_words_here"]) fun _ _ _ _ _ _ us hl=>by obtain⟨_,_,_,rfl⟩:=ZfL hl;rfl
 have F11:=Z6 (st:=Zbk) l11 c11 k11;have b11:=F11.binds (ps:=["grove"]) fun _ _ _ _ _ _ us hl=>by obtain⟨_,rfl⟩:=Zjm hl;rfl
 have F12:=Z6 (st:=Z9) l12 c12 k12;have b12:=F12.binds (ps:=["changer"]) fun _ _ _ _ _ _ us hl=>by obtain⟨_,rfl⟩:=Zjm hl;rfl
 have F13:=Z6 (st:=Za6) l13 c13 k13;have b13:=F13.binds (ps:=["parts"]) fun _ _ _ _ _ _ us hl=>by obtain⟨_,rfl⟩:=Zjm hl;rfl
 have F14:=Z6 (st:=ZaP) l14 c14 k14;have b14:=F14.binds (ps:=["known","mode","tag"]) fun _ _ _ _ _ _ us hl=>by obtain⟨_,_,_,rfl⟩:=ZfL hl;rfl
 have F15:=Z6 (st:=Zah) l15 c15 k15;have b15:=F15.binds (ps:=["known","modes","tag"]) fun _ _ _ _ _ _ us hl=>by obtain⟨_,_,_,rfl⟩:=ZfL hl;rfl
 have F16:=Z6 (st:=Zbl) l16 c16 k16;have b16:=F16.binds (ps:=["known","words","mode"]) fun _ _ _ _ _ _ us hl=>by obtain⟨_,_,_,rfl⟩:=ZfL hl;rfl
 have F17:=Z6 (st:=Za7) l17 c17 k17;have b17:=F17.binds (ps:=["words"]) fun _ _ _ _ _ _ us hl=>by obtain⟨_,rfl⟩:=Zjm hl;rfl
 have F18:=Z6 (st:=Zac) l18 c18 k18;have b18:=F18.binds (ps:=["self"]) fun _ _ _ _ _ _ us hl=>by obtain⟨_,rfl⟩:=Zjm hl;rfl
 have F19:=Z6 (st:=Zad) l19 c19 k19;have b19:=F19.binds (ps:=["self"]) fun _ _ _ _ _ _ us hl=>by obtain⟨_,rfl⟩:=Zjm hl;rfl
 have F20:=Z6 (st:=ZaD) l20 c20 k20;have b20:=F20.binds (ps:=["self","tag","within"]) fun _ _ _ _ _ _ us hl=>by obtain⟨_,_,_,rfl⟩:=ZfL hl;rfl
 have F21:=Z6 (st:=ZaE) l21 c21 k21;have b21:=F21.binds (ps:=["self","tag","within"]) fun _ _ _ _ _ _ us hl=>by obtain⟨_,_,_,rfl⟩:=ZfL hl;rfl
 have F22:=Z6 (st:=Zak) l22 c22 k22;have b22:=F22.binds (ps:=["self","one","other"]) fun _ _ _ _ _ _ us hl=>by obtain⟨_,_,_,rfl⟩:=ZfL hl;rfl
 have F23:=Z6 (st:=Zaj) l23 c23 k23;have b23:=F23.binds (ps:=["self","one","other"]) fun _ _ _ _ _ _ us hl=>by obtain⟨_,_,_,rfl⟩:=ZfL hl;rfl
 have F24:=Z6 (st:=Z7) l24 c24 k24;have b24:=F24.binds (ps:=["parts","kids","sense"]) fun _ _ _ _ _ _ us hl=>by obtain⟨_,_,_,rfl⟩:=ZfL hl;rfl
 have F25:=Z6 (st:=ZL) l25 c25 k25;have b25:=F25.binds (ps:=["changer","words","mode","sense"]) fun _ _ _ _ _ _ us hl=>by obtain⟨_,_,_,_,rfl⟩:=ZmC hl;rfl
 have F26:=Z6 (st:=Zat) l26 c26 k26;have b26:=F26.binds (ps:=["tags","deep"]) fun _ _ _ _ _ _ us hl=>by obtain⟨_,_,rfl⟩:=Zkp hl;rfl
 have F27:=ZkW (st:=ZbB) l27 c27 k27;have b27:=F27.binds (ps:=["changer","grove","mode"]) [] dl27 ds27 fun _ _ _ _ _ _ us hl=>by rw[List.append_nil] at hl;obtain⟨_,_,_,rfl⟩:=ZfL hl;exact⟨_,rfl,rfl⟩
 have bD27:=F27.binds (ps:=["changer","grove","mode"]) [.int 0 dtk27] dl27 ds27 fun _ _ _ _ _ _ us hl=>by rw[List.length_append] at hl;obtain⟨_,_,rfl⟩:=Zkp (Nat.succ.inj hl);exact⟨_,rfl,rfl⟩
 have F28:=Z6 (st:=Zb7) l28 c28 k28;have b28:=F28.binds (ps:=["_law_one","_law_grove_here","_law_mode"]) fun _ _ _ _ _ _ us hl=>by obtain⟨_,_,_,rfl⟩:=ZfL hl;rfl
 have F29:=Z6 (st:=Za1) l29 c29 k29;have b29:=F29.binds (ps:=["_law_parts_here"]) fun _ _ _ _ _ _ us hl=>by obtain⟨_,rfl⟩:=Zjm hl;rfl
 have F30:=Z6 (st:=Za9) l30 c30 k30;have b30:=F30.binds (ps:=["_law_parts_here","_law_rows"]) fun _ _ _ _ _ _ us hl=>by obtain⟨_,_,rfl⟩:=Zkp hl;rfl
 have F31:=Z6 (st:=ZP) l31 c31 k31;have b31:=F31.binds (ps:=["_law_one","_law_ways_here","_law_grove_here","_law_mode","_law_whole"]) fun _ _ _ _ _ _ us hl=>by obtain⟨_,_,_,_,_,rfl⟩:=ZmX hl;rfl
 have F32:=Z6 (st:=ZaV) l32 c32 k32;refine⟨PySem.W.fnOf "law" "law" (Zw ZaV) (Ze ZaV) (Zg ZaV) .none kV32 dc32 pm32 an32 cd32 ct32,fun s v=>.of_eq rfl,fun base _ _=>?_⟩;have xc:XC K mg X_GroveError X_TooBig:=⟨PySem.W.mg_of X G xn_GroveError,PySem.W.mg_of X G xn_TooBig,⟨xb1,xb2,xb3⟩,xb4,xb5,⟨d1_GroveError,d2_GroveError,d3_GroveError⟩,⟨d1_TooBig,d2_TooBig,d3_TooBig⟩,⟨⟨_,_,_,_,_,_,_,_,_,_,_,_,_,_,_,xl_TooBig⟩,⟨⟨_,_,_,_,_,_,_,_,_,xg1,xg2,xg3,xg4⟩⟩,xc_TooBig,xt_TooBig,xk_TooBig⟩,xi_TooBig,xv_TooBig,xe_TooBig,m_TooBig_GroveError,m_TooBig_TooBig⟩;have c_Bounds:Fg.SnC K C_Bounds:=⟨⟨cp1,ch1,cq1,cs1⟩⟩;have g_Bounds:HasC0 K mg C_Bounds "Bounds" := ⟨cm1,ci1,ck1,PySem.W.mg_of X G cn1⟩;have c_Groves:Fg.SnC K C_Groves:=⟨⟨cp2,ch2,cq2,cs2⟩⟩;have g_Groves:HasC0 K mg C_Groves "Groves" := ⟨cm2,ci2,ck2,PySem.W.mg_of X G cn2⟩;have g_l_cell_at:Has l.prog w K mg base "_law_cell_at" ["_law_script","_law_k"] 1 (Fg.ZgT K):=⟨⟨f1,_,ZfA B  F1,b1,k1,PySem.W.mg_of X G a1⟩⟩;have g_l_tags:Has l.prog w K mg base "_law_tags" ["_law_cell"] 1 (K74.ZeK):=⟨⟨f2,_,Zh5 B  F2,b2,k2,PySem.W.mg_of X G a2⟩⟩;have g_l_parts:Has l.prog w K mg base "_law_parts" ["_law_numbers_here","_law_tags_here","_law_modes"] 1 (K74.ZdM):=⟨⟨f3,_,Zg5 B  F3,b3,k3,PySem.W.mg_of X G a3⟩⟩;have g_l_ways:Has l.prog w K mg base "_law_ways" ["_law_numbers_here","_law_tags_here","_law_modes"] 2 (K74.ZeS):=⟨⟨f4,_,Ziz B g_l_parts F4,b4,k4,PySem.W.mg_of X G a4⟩⟩;have g_l_numbers:Has l.prog w K mg base "_law_numbers" ["_law_script","_law_first","_law_many"] 2 (K74.ZeC K):=⟨⟨f5,_,Ze3 B g_l_cell_at F5,b5,k5,PySem.W.mg_of X G a5⟩⟩;have g_l_words:Has l.prog w K mg base "_law_words" ["_law_tags_here","_law_numbers_here"] 1 (K74.Zdk):=⟨⟨f6,_,Zhs B  F6,b6,k6,PySem.W.mg_of X G a6⟩⟩;have g_l_grove:Has l.prog w K mg base "_law_grove" ["_law_words_here"] 1 (Fg.Zgm K):=⟨⟨f7,_,Zha B  F7,b7,k7,PySem.W.mg_of X G a7⟩⟩;have r_l_weigh:∀d:Nat,Has l.prog w K mg base "_law_weigh" ["_law_parts_here","_law_rows"] d (K74.Zii d):=by
  intro d
  induction d with
  | zero=>exact⟨⟨f8,_,FnOk.none (fun vs H Q E z=>K74.Zm3 z),b8,k8,PySem.W.mg_of X G a8⟩⟩
  | succ d ih=>exact⟨⟨f8,_,ZhH d B ih F8,b8,k8,PySem.W.mg_of X G a8⟩⟩
 have g_l_weigh:=r_l_weigh 24;have g_l_parts_for:Has l.prog w K mg base "_law_parts_for" ["_law_ways_here","_law_mode","_law_tag"] 1 (K74.ZaU):=⟨⟨f9,_,Zd2 B  F9,b9,k9,PySem.W.mg_of X G a9⟩⟩;have g_l_weight:Has l.prog w K mg base "_law_weight" ["_law_ways_here","_law_modes","_law_words_here"] 25 (K74.ZcH):=⟨⟨f10,_,Zgp B g_l_weigh g_l_parts_for F10,b10,k10,PySem.W.mg_of X G a10⟩⟩;have g_words_of:Has l.prog w K mg base "words_of" ["grove"] 1 (Fg.Zgg K):=⟨⟨f11,_,Zgr B  F11,b11,k11,PySem.W.mg_of X G a11⟩⟩;have g_parts_by_rule:Has l.prog w K mg base "parts_by_rule" ["changer"] 1 (K74.ZeU):=⟨⟨f12,_,ZcV B  F12,b12,k12,PySem.W.mg_of X G a12⟩⟩;have r_all_parts:∀d:Nat,Has l.prog w K mg base "all_parts" ["parts"] d (K74.Zgw d):=by
  intro d
  induction d with
  | zero=>exact⟨⟨f13,_,FnOk.none (fun vs H Q E z=>by obtain⟨_,_,_,_,_,_,hd,_⟩:=z;exact absurd hd (Nat.not_lt_zero _)),b13,k13,PySem.W.mg_of X G a13⟩⟩
  | succ d ih=>exact⟨⟨f13,_,ZfG d B ih F13,b13,k13,PySem.W.mg_of X G a13⟩⟩
 have g_all_parts:=r_all_parts 22;have g_parts_for:Has l.prog w K mg base "parts_for" ["known","mode","tag"] 1 (K74.ZaU):=⟨⟨f14,_,Zfm B  F14,b14,k14,PySem.W.mg_of X G a14⟩⟩;have g_modes_within:Has l.prog w K mg base "modes_within" ["known","modes","tag"] 23 (K74.ZkX):=⟨⟨f15,_,ZdO B g_all_parts g_parts_for F15,b15,k15,PySem.W.mg_of X G a15⟩⟩;have g_modes_at:Has l.prog w K mg base "modes_at" ["known","words","mode"] 24 (K74.ZkZ):=⟨⟨f16,_,Zgf B g_modes_within F16,b16,k16,PySem.W.mg_of X G a16⟩⟩;have g_closings:Has l.prog w K mg base "closings" ["words"] 1 (K74.Zgo K):=⟨⟨f17,_,ZfN B  F17,b17,k17,PySem.W.mg_of X G a17⟩⟩;have g_Bounds_nothing:HasM l.prog w K mg base C_Bounds "nothing" ["self"] 1 (K74.Zhl Fg.snB):=⟨⟨f18,_,Zcz B c_Bounds  F18,b18,⟨a18,n18,k18⟩⟩⟩;have g_Groves_nothing:HasM l.prog w K mg base C_Groves "nothing" ["self"] 1 (K74.Zhl (Fg.snG 2000)):=⟨⟨f19,_,ZcM B c_Groves  F19,b19,⟨a19,n19,k19⟩⟩⟩;have g_Bounds_tree:HasM l.prog w K mg base C_Bounds "tree" ["self","tag","within"] 1 (K74.ZiB Fg.snB):=⟨⟨f20,_,ZdV B c_Bounds  F20,b20,⟨a20,n20,k20⟩⟩⟩;have g_Groves_tree:HasM l.prog w K mg base C_Groves "tree" ["self","tag","within"] 1 (K74.ZiB (Fg.snG 2000)):=⟨⟨f21,_,ZdY B c_Groves  F21,b21,⟨a21,n21,k21⟩⟩⟩;have g_Bounds_beside:HasM l.prog w K mg base C_Bounds "beside" ["self","one","other"] 1 (K74.Zhm Fg.snB):=⟨⟨f22,_,ZcQ B c_Bounds  F22,b22,⟨a22,n22,k22⟩⟩⟩;have g_Groves_beside:HasM l.prog w K mg base C_Groves "beside" ["self","one","other"] 1 (K74.Zhm (Fg.snG 2000)):=⟨⟨f23,_,ZcY B c_Groves  F23,b23,⟨a23,n23,k23⟩⟩⟩;have r_cmpB:∀d:Nat,Has l.prog w K mg base "come_of_parts" ["parts","kids","sense"] (d+1) (K74.ZhI Fg.snB C_Bounds d):=by
  intro d
  induction d with
  | zero=>exact⟨⟨f24,_,FnOk.none (fun vs H Q E z=>K74.ZmB z),b24,k24,PySem.W.mg_of X G a24⟩⟩
  | succ d ih=>exact⟨⟨f24,_,ZbO Fg.snB d B c_Bounds.cls g_Bounds_nothing g_Bounds_tree g_Bounds_beside ih F24,b24,k24,PySem.W.mg_of X G a24⟩⟩
 have g_come_of_partsB:=r_cmpB 23;have r_cmpG:∀d:Nat,Has l.prog w K mg base "come_of_parts" ["parts","kids","sense"] (d+1) (K74.ZhI (Fg.snG 2000) C_Groves d):=by
  intro d
  induction d with
  | zero=>exact⟨⟨f24,_,FnOk.none (fun vs H Q E z=>K74.ZmB z),b24,k24,PySem.W.mg_of X G a24⟩⟩
  | succ d ih=>exact⟨⟨f24,_,ZbO (Fg.snG 2000) d B c_Groves.cls g_Groves_nothing g_Groves_tree g_Groves_beside ih F24,b24,k24,PySem.W.mg_of X G a24⟩⟩
 have g_come_of_partsG:=r_cmpG 23;have g_come_ofB:Has l.prog w K mg base "come_of" ["changer","words","mode","sense"] 25 (K74.Ziw Fg.snB C_Bounds):=⟨⟨f25,_,Zei Fg.snB B c_Bounds.cls g_Bounds_nothing g_Bounds_beside g_parts_by_rule g_modes_at g_closings g_come_of_partsB g_parts_for F25,b25,k25,PySem.W.mg_of X G a25⟩⟩;have g_come_ofG:Has l.prog w K mg base "come_of" ["changer","words","mode","sense"] 25 (K74.Ziw (Fg.snG 2000) C_Groves):=⟨⟨f25,_,Zei (Fg.snG 2000) B c_Groves.cls g_Groves_nothing g_Groves_beside g_parts_by_rule g_modes_at g_closings g_come_of_partsG g_parts_for F25,b25,k25,PySem.W.mg_of X G a25⟩⟩;have g_refuse_great:HasX l.prog w K mg base "refuse_great" ["tags","deep"] 1 (K74.Zh0 X_TooBig):=⟨⟨f26,_,ZdP B Cc_MOST_TAGS Cc_DEEPEST_GROVE xc  F26,b26,k26,PySem.W.mg_of X G a26⟩⟩;have okc:=Zg4 (P:=l.prog) (w:=w) (base:=base) B g_Bounds g_Groves g_words_of g_come_ofB g_come_ofG g_refuse_great F27;have g_changed:HasX l.prog w K mg base "changed" ["changer","grove","mode"] 26 (K74.ZbE X_TooBig):=⟨⟨f27,_,okc,b27,k27,PySem.W.mg_of X G a27⟩⟩;have g_changedD:HasXD l.prog w K mg base "changed" ["changer","grove","mode"] [.int 0] 26 (K74.ZbE X_TooBig):=⟨⟨f27,_,_,okc,bD27,.cons ⟨_,rfl⟩ .nil,k27,PySem.W.mg_of X G a27⟩⟩;have g_l_told:Has l.prog w K mg base "_law_told" ["_law_one","_law_grove_here","_law_mode"] 27 (K74.Zc9):=⟨⟨f28,_,Zi0 B xc g_changed g_changedD F28,b28,k28,PySem.W.mg_of X G a28⟩⟩;have r_l_kids_in:∀d:Nat,Has l.prog w K mg base "_law_kids_in" ["_law_parts_here"] d (K74.Zim d):=by
  intro d
  induction d with
  | zero=>exact⟨⟨f29,_,FnOk.none (fun vs H Q E z=>K74.ZmQ z),b29,k29,PySem.W.mg_of X G a29⟩⟩
  | succ d ih=>exact⟨⟨f29,_,ZfK d B ih F29,b29,k29,PySem.W.mg_of X G a29⟩⟩
 have g_l_kids_in:=r_l_kids_in 24;have r_l_filled:∀d:Nat,Has l.prog w K mg base "_law_filled" ["_law_parts_here","_law_rows"] d (K74.ZiP d):=by
  intro d
  induction d with
  | zero=>exact⟨⟨f30,_,FnOk.none (fun vs H Q E z=>K74.Zna z),b30,k30,PySem.W.mg_of X G a30⟩⟩
  | succ d ih=>exact⟨⟨f30,_,ZfU d B ih F30,b30,k30,PySem.W.mg_of X G a30⟩⟩
 have g_l_filled:=r_l_filled 24;have g_l_steps:Has l.prog w K mg base "_law_steps" ["_law_one","_law_ways_here","_law_grove_here","_law_mode","_law_whole"] 108 (K74.ZdL):=⟨⟨f31,_,ZhA B g_l_told g_l_parts_for g_l_kids_in g_l_filled F31,b31,k31,PySem.W.mg_of X G a31⟩⟩;exact ZlG B g_l_cell_at g_l_tags g_l_ways g_l_numbers g_l_words g_l_grove g_l_weight g_l_told g_l_steps F32
theorem walk{l:PySem.W.OpenLaw}{q:Program}{loose:List Str}{XP:(Str->Option Value)->Heap->Prop}{YP:World->Heap->Prop}{d:DefRec}{K:Params->PySem.W.Frag}(hn:l.most=some 63)(hdf:d.params.defaults=[])
  (hY:∀(w:World)(h:Heap),YP w h->(K w.params).In h)
  (F:∀(w:World)(mg:Str->Option Value)(fa:Addr)(h:Heap),(K w.params).In h->h.Ns mainGlobals mg->mg d.name=some (.ref fa) ->
   ∃fd:FuncData,(∀(s:Shared)(u:Value),BindsTo s fd ⟨[u],[]⟩ [("_law_script",u)])/\∀base:Heap,(K w.params).In base->base.Ns mainGlobals mg->FnOk l.prog w (K w.params) mg base CX0 109 fa fd ["_law_script"] (Fg.ZjT (K w.params))) :
  PySem.W.WalkO q loose XP YP l.row.toRowW d [] (fun f vs=>PySem.call f vs) :=
 L2.Ziu (n:=63) (k:=109) (x := "_law_script") (CX:=fun _=>CX0) (sp:=fun w=>Fg.ZjT (K w.params)) hn (by decide) hdf ⟨rfl,by decide,by decide⟩ hY F (fun _ _ a ns hl _ hS=>⟨a,ns,rfl,hS,hl,fun _=>rfl⟩) fun _ _ _ _ _ z=>z
end K74
namespace PySem.W.Fast
def tw3656195634185270096:=0
def tw5603164616955520714:=0
def tw9795477356179005442:=0
def tw16327008236258964771:=0
def tw13764945112659706337:=0
def tw5023862925541053382:=0
def tw13398099200806829837:=0
def tw16710600387850155210:=0
def tw7130483180048185326:=0
def tw4754511312388587780:=0
def tw15436337075941399250:=0
def tw14652405164292838447:=0
def tw7796167374017462430:=0
def tw8727949216719842713:=0
def tw13627874620853713842:=0
def tw4887845457290574605:=0
def tw14359891185136872983:=0
def tw914377130481342538:=0
def tw10955235183974188487:=0
def tw9912956125150759369:=0
def tw13705917848259239306:=0
def tw11507846775726166760:=0
def tw18165052224360686256:=0
def tw1064492016012042137:=0
def tw8987407620301701227:=0
def tw14663119847361911215:=0
def tw6426201665382679870:=0
def tw2221453887726781724:=0
def tw3682469765211188268:=0
def tw14582514008927340694:=0
def tw1183328822015829855:=0
def tw18362312113302400253:=0
def tw9383063494794438792:=0
def tw14075118269047098359:=0
def tw16822002016907520281:=0
def tw7140901697456840963:=0
def tw147749568241543780:=0
def tw15497493819251395402:=0
def tw3356661013835146265:=0
def tw7985509295697452678:=0
def tw3904702343182620395:=0
def tw2093302529794993641:=0
def tw6721381224668222820:=0
def tw5961717562192856626:=0
def tw6679851820320374275:=0
def tw11632662647830915806:=0
def tw13711886121171131191:=0
def tw17127415712721582751:=0
def tw15180785196527969113:=0
def tw10149195598441749062:=0
def tw9760828113968040838:=0
def tw10046741025263528980:=0
def tw7991483540124467646:=0
def tw6846756156441974407:=0
def tw16247338099399077081:=0
def tw13044810586106524123:=0
def tw7907816636168328599:=0
def tw2787186115604607166:=0
def tw6165787927932556730:=0
def tw16006253240332362963:=0
def tw10574569127810500060:=0
def tw9184944612531024294:=0
def tw6693311035226563457:=0
def tw12807688966490048504:=0
def tw6229101838046728281:=0
def tw7845561382697009562:=0
def tw13271346643890840822:=0
def tw11393563493586891327:=0
def tw4111590600497005613:=0
def tw13878386771956312406:=0
def tw4584846879259567060:=0
def tw2501994820085558513:=0
def tw13225003869314792222:=0
def tw14071476193263096270:=0
def tw12054472949242864634:=0
def tw1010119580849903949:=0
def tw2178030843712112316:=0
def tw10513140173359578546:=0
def tw16436932310896802151:=0
def tw11636289258370094470:=0
def tw11923365916051605439:=0
def tw12759709679897866871:=0
def tw7182178487729790761:=0
def tw17602274565985337175:=0
def tw11196344700159217570:=0
def tw2479428461687608857:=0
def tw5789525235902234951:=0
def tw11030617817293785576:=0
def tw10168691855775642036:=0
def tw11956036113524994431:=0
def tw14103915469109311869:=0
def tw5153972256609803546:=0
def tw7604760834040434588:=0
def tw17935437419498881671:=0
def tw13300165582898333818:=0
def tw15518650613996429311:=0
def tw5480995750238303028:=0
def tw10165463339230449272:=0
def tw1235567556365292264:=0
def tw12377407836837026855:=0
def tw4331604259101427589:=0
def tw15921414718008641650:=0
def tw2663512113432497061:=0
def tw5304205279743002573:=0
def tw2216805830147232762:=0
def tw3546299559819715794:=0
def tw8720085104850116258:=0
def tw2234263510440606998:=0
def tw8832838229647939458:=0
def tw4315971273953716479:=0
def tw17529312121574824975:=0
def tw3753045358716091778:=0
def tw3022391682323305927:=0
def tw9729752235239937672:=0
def tw7223082956972660596:=0
def tw3540770291868023735:=0
def tw8052013329658017371:=0
def tw8799746935877923524:=0
def tw4109980274413679223:=0
def tw12882580590741098834:=0
def tw15235066648474736774:=0
def tw14766639774586210793:=0
def tw2313041133813100548:=0
def tw7836134956745998619:=0
def tw13941279141268723792:=0
def tw11899275086068387535:=0
def tw2179673464067959409:=0
def tw8910497690463793323:=0
def tw5923861374911177645:=0
def tw15391163316839257336:=0
def tw11351216752305943049:=0
def tw12155386225023178140:=0
def tw1896468215090875777:=0
def tw3390908742770931013:=0
def tw14948039546223789817:=0
def tw10912160753358455363:=0
def tw18394532209012185594:=0
def tw7401650927814356833:=0
def tw12906523734735405843:=0
def tw8965344802753942712:=0
def tw7668024233460850396:=0
def tw7485535752255698136:=0
def tw6689363306057100131:=0
def tw2156689946836022067:=0
def tw8872743240421286518:=0
def tw15106655319212052064:=0
def tw17408817997170051315:=0
def tw738712644402165030:=0
def tw3926131301939236713:=0
def tw17183124792551941429:=0
def tw14935235238787915316:=0
def tw18243048437159266228:=0
def tw9615806292343671665:=0
def tw11646285426631581994:=0
def tw16165949037582039397:=0
def tw13958701153334341353:=0
def tw11903824072020873794:=0
def tw5972138954717420929:=0
def tw819190984744197906:=0
def tw7196092723434915539:=0
def tw4599411574273206871:=0
def tw1360476005889186259:=0
def tw1445221668761505493:=0
def tw14901935625158341085:=0
def tw11647608651671993748:=0
def tw4514688255074572124:=0
def tw1025265552596040916:=0
def tw13123830520105910865:=0
def tw11208302890708880110:=0
def tw5525134752140374951:=0
def tw11092545780946915370:=0
def tw16915815020031028011:=0
def tw17674513497741746237:=0
def tw6271633805250190377:=0
def tw16518910305581166872:=0
def tw18225669482028904800:=0
def tw16637377499949842993:=0
def tw5180172736621651407:=0
def tw12345879833510951689:=0
def tw12319879520500375405:=0
def tw467926108151842256:=0
def tw15472685239332187943:=0
def tw13238467913412285168:=0
def tw7467877951813516350:=0
def tw5967461254473101184:=0
def tw6492817062599202035:=0
def tw3871948492556976965:=0
def tw4941457115266985837:=0
def tw3966985943111725914:=0
def tw3501168709873172474:=0
def tw10758331300477007764:=0
def tw6155166752166575598:=0
def tw2724597662755169605:=0
def tw2673898920993233468:=0
def tw11793762948975823013:=0
def tw13603097046685555700:=0
def tw13615752598825645571:=0
def tw8866732815355801311:=0
def tw12621464077676571391:=0
def tw9195215110694975992:=0
def tw1447320872180548342:=0
def tw6376381735330180845:=0
def tw5035325792849633117:=0
def tw10464932617738853630:=0
def tw2914753327929472342:=0
def tw7829581383635400166:=0
def tw5813386698651401912:=0
def tw11521780535378480991:=0
def tw12810020115717855760:=0
def tw8402295610536742988:=0
def tw14397009965546094326:=0
def tw17901789330451056620:=0
def tw2797249085764095924:=0
def tw13587305688611797714:=0
def tw11953462735245240255:=0
def tw12527892911708989433:=0
def tw16333485676922448147:=0
def tw11515998430900458079:=0
def tw1729632525197952104:=0
def tw16985343037754513716:=0
def tw11832900780232482879:=0
def tw1399305555979295628:=0
def tw7801429266068958848:=0
def tw14205144790794700848:=0
def tw13265890904498078431:=0
def tw308444760410861276:=0
def tw1919253107493238221:=0
def tw914303135113191792:=0
def tw3122995927598665174:=0
def tw11528830178036565758:=0
def tw1894632846952199850:=0
def tw15805131028721667040:=0
def tw7576939113601414886:=0
def tw17445958492660644845:=0
def tw2582693140065282214:=0
def tw7267383144700040061:=0
def tw11604696315349961407:=0
def tw7147471444525333205:=0
def tw17012557476247898233:=0
def tw4742859795287663942:=0
def tw15645691698315466394:=0
def tw2699620356447731571:=0
def tw3647051216769704409:=0
def tw646471823803411118:=0
def tw2918302799138179449:=0
def tw12197352608252168413:=0
def tw16987286903437815219:=0
def tw4805983543139772702:=0
def tw6598057298076637162:=0
def tw9872789626521740324:=0
def tw6752652622035544171:=0
def tw15949870439344743425:=0
def tw1257582419178497990:=0
def tw6831296213838688511:=0
def tw15319878802282945205:=0
def tw9908804430461938785:=0
def tw8295010258561816760:=0
def tw7540367367548810976:=0
def tw15136916549761386574:=0
def tw4501478223506555152:=0
def tw8614954230894406949:=0
def tw2524030629682906170:=0
def tw1894765828531977203:=0
def tw6420956150188835452:=0
def tw16656993155993503236:=0
def tw16200014107788552002:=0
def tw12657395828947999990:=0
def tw6057441287128416071:=0
def tw7619673305829727:=0
def tw13323167419835981407:=0
def tw2049481353848112325:=0
def tw13270545577395374273:=0
def tw8438386981437847041:=0
def tw13639853749011907839:=0
def tw9800424755563643051:=0
def tw14339585001575494097:=0
def tw17541103898072815242:=0
def tw18155825025115024468:=0
def tw12946860585756139382:=0
def tw8773829667520480766:=0
def tw4360482034399059870:=0
def tw14947600095320601625:=0
def tw11321399662560235086:=0
def tw3585024942302957913:=0
def tw8581729422172704277:=0
def tw12653839137629954574:=0
def tw4992798957300458488:=0
def tw13957793523012192695:=0
def tw16719328136858815852:=0
def tw6089744239501291610:=0
def tw3651337085258714355:=0
def tw4590001153760021725:=0
def tw10655712296021117758:=0
def tw10520827045332428276:=0
def tw13777627622532273907:=0
def tw1729282858591724979:=0
def tw3298737240161356858:=0
def tw8772284938785324155:=0
def tw5162359189894762585:=0
def tw1480334227074363797:=0
def tw2032779274665300064:=0
def tw8438188365012056193:=0
def tw4072468259103067328:=0
def tw7336012198272396533:=0
def tw666195391281593240:=0
def tw9672715177256165913:=0
def tw2824080283045942797:=0
def tw8141275876836367395:=0
def tw12495032220856454329:=0
def tw6159395120267989260:=0
def tw9215600499671537679:=0
end PySem.W.Fast
open PySem PySem.W PyProof.Rows
set_option maxRecDepth 100000 in
set_option maxHeartbeats 0 in
theorem PySem.Challenge.cw_formgrove_k74_whole_changed_in_turn_holds : PySem.Challenge.rw_formgrove_k74_whole_changed_in_turn.Holds := by
 w_on;o_law;k_head;(case hw=>w_witness2)
 k_fill
 refine K74.walk (l:=PySem.Challenge.rw_formgrove_k74_whole_changed_in_turn) rfl rfl (fun w h Y=>PySem.W.kIn_of Y) ?F
 case F =>
  intro w mg fa h KX G hmg;refine' K74.ZlB KX G hmg ?xn_GroveError ?xn_TooBig ?xg1 ?xg2 ?xg3 ?xg4 ?xb1 ?xb2 ?xb3 ?xb4 ?xb5 ?d1_GroveError ?d2_GroveError ?d3_GroveError ?d1_TooBig ?d2_TooBig ?d3_TooBig ?xl_TooBig ?xc_TooBig ?xt_TooBig ?xk_TooBig ?xv_TooBig ?xe_TooBig ?xi_TooBig ?m_TooBig_GroveError ?m_TooBig_TooBig ?cn1 ?cp1 ?ch1 ?cq1 ?cs1 ?cm1 ?ck1 ?ci1 ?cn2 ?cp2 ?ch2 ?cq2 ?cs2 ?cm2 ?ck2 ?ci2 ?a1 ?l1 ?c1 ?k1 ?a2 ?l2 ?c2 ?k2 ?a3 ?l3 ?c3 ?k3 ?a4 ?l4 ?c4 ?k4 ?a5 ?l5 ?c5 ?k5 ?a6 ?l6 ?c6 ?k6 ?a7 ?l7 ?c7 ?k7 ?a8 ?l8 ?c8 ?k8 ?a9 ?l9 ?c9 ?k9 ?a10 ?l10 ?c10 ?k10 ?a11 ?l11 ?c11 ?k11 ?a12 ?l12 ?c12 ?k12 ?a13 ?l13 ?c13 ?k13 ?a14 ?l14 ?c14 ?k14 ?a15 ?l15 ?c15 ?k15 ?a16 ?l16 ?c16 ?k16 ?a17 ?l17 ?c17 ?k17 ?a18 ?l18 ?c18 ?k18 ?n18 ?a19 ?l19 ?c19 ?k19 ?n19 ?a20 ?l20 ?c20 ?k20 ?n20 ?a21 ?l21 ?c21 ?k21 ?n21 ?a22 ?l22 ?c22 ?k22 ?n22 ?a23 ?l23 ?c23 ?k23 ?n23 ?a24 ?l24 ?c24 ?k24 ?a25 ?l25 ?c25 ?k25 ?a26 ?l26 ?c26 ?k26 ?a27 ?l27 ?c27 ?k27 ?dl27 ?ds27 ?a28 ?l28 ?c28 ?k28 ?a29 ?l29 ?c29 ?k29 ?a30 ?l30 ?c30 ?k30 ?a31 ?l31 ?c31 ?k31 ?a32 ?l32 ?c32 ?k32 ?y0 ?y1 ?z0 ?z1 ?z2 ?z3 ?z4 ?z5 ?z6 ?z7 ?z8 ?z9 ?z10
  (case xn_GroveError=>k_is)
  (case xn_TooBig=>k_is)
  (case xg1=>k_is)
  (case xg2=>k_is)
  (case xg3=>rfl)
  (case xg4=>k_is)
  (case xb1=>k_is)
  (case xb2=>k_is)
  (case xb3=>k_is)
  (case xb4=>k_is)
  (case xb5=>k_is)
  (case d1_GroveError=>k_is)
  (case d2_GroveError=>k_is)
  (case d3_GroveError=>k_is)
  (case d1_TooBig=>k_is)
  (case d2_TooBig=>k_is)
  (case d3_TooBig=>k_is)
  (case xl_TooBig=>k_is)
  (case xc_TooBig=>k_is)
  (case xt_TooBig=>k_is)
  (case xk_TooBig=>k_is)
  (case xv_TooBig=>k_is)
  (case xe_TooBig=>decide)
  (case xi_TooBig=>k_is)
  (case m_TooBig_GroveError=>k_is)
  (case m_TooBig_TooBig=>k_is)
  (case cn1=>k_is)
  (case cp1=>k_is)
  (case ch1=>k_is)
  (case cq1=>k_is)
  (case cs1=>k_is)
  (case cm1=>k_is)
  (case ck1=>k_is)
  (case ci1=>k_is)
  (case cn2=>k_is)
  (case cp2=>k_is)
  (case ch2=>k_is)
  (case cq2=>k_is)
  (case cs2=>k_is)
  (case cm2=>k_is)
  (case ck2=>k_is)
  (case ci2=>k_is)
  (case a1=>k_is)
  (case l1=>k_is)
  (case c1=>k_is)
  (case k1=>k_is)
  (case a2=>k_is)
  (case l2=>k_is)
  (case c2=>k_is)
  (case k2=>k_is)
  (case a3=>k_is)
  (case l3=>k_is)
  (case c3=>k_is)
  (case k3=>k_is)
  (case a4=>k_is)
  (case l4=>k_is)
  (case c4=>k_is)
  (case k4=>k_is)
  (case a5=>k_is)
  (case l5=>k_is)
  (case c5=>k_is)
  (case k5=>k_is)
  (case a6=>k_is)
  (case l6=>k_is)
  (case c6=>k_is)
  (case k6=>k_is)
  (case a7=>k_is)
  (case l7=>k_is)
  (case c7=>k_is)
  (case k7=>k_is)
  (case a8=>k_is)
  (case l8=>k_is)
  (case c8=>k_is)
  (case k8=>k_is)
  (case a9=>k_is)
  (case l9=>k_is)
  (case c9=>k_is)
  (case k9=>k_is)
  (case a10=>k_is)
  (case l10=>k_is)
  (case c10=>k_is)
  (case k10=>k_is)
  (case a11=>k_is)
  (case l11=>k_is)
  (case c11=>k_is)
  (case k11=>k_is)
  (case a12=>k_is)
  (case l12=>k_is)
  (case c12=>k_is)
  (case k12=>k_is)
  (case a13=>k_is)
  (case l13=>k_is)
  (case c13=>k_is)
  (case k13=>k_is)
  (case a14=>k_is)
  (case l14=>k_is)
  (case c14=>k_is)
  (case k14=>k_is)
  (case a15=>k_is)
  (case l15=>k_is)
  (case c15=>k_is)
  (case k15=>k_is)
  (case a16=>k_is)
  (case l16=>k_is)
  (case c16=>k_is)
  (case k16=>k_is)
  (case a17=>k_is)
  (case l17=>k_is)
  (case c17=>k_is)
  (case k17=>k_is)
  (case a18=>k_is)
  (case l18=>k_is)
  (case c18=>k_is)
  (case k18=>k_is)
  (case n18=>k_is)
  (case a19=>k_is)
  (case l19=>k_is)
  (case c19=>k_is)
  (case k19=>k_is)
  (case n19=>k_is)
  (case a20=>k_is)
  (case l20=>k_is)
  (case c20=>k_is)
  (case k20=>k_is)
  (case n20=>k_is)
  (case a21=>k_is)
  (case l21=>k_is)
  (case c21=>k_is)
  (case k21=>k_is)
  (case n21=>k_is)
  (case a22=>k_is)
  (case l22=>k_is)
  (case c22=>k_is)
  (case k22=>k_is)
  (case n22=>k_is)
  (case a23=>k_is)
  (case l23=>k_is)
  (case c23=>k_is)
  (case k23=>k_is)
  (case n23=>k_is)
  (case a24=>k_is)
  (case l24=>k_is)
  (case c24=>k_is)
  (case k24=>k_is)
  (case a25=>k_is)
  (case l25=>k_is)
  (case c25=>k_is)
  (case k25=>k_is)
  (case a26=>k_is)
  (case l26=>k_is)
  (case c26=>k_is)
  (case k26=>k_is)
  (case a27=>k_is)
  (case l27=>k_is)
  (case c27=>k_is)
  (case k27=>k_is)
  (case dl27=>k_is)
  (case ds27=>rfl)
  (case a28=>k_is)
  (case l28=>k_is)
  (case c28=>k_is)
  (case k28=>k_is)
  (case a29=>k_is)
  (case l29=>k_is)
  (case c29=>k_is)
  (case k29=>k_is)
  (case a30=>k_is)
  (case l30=>k_is)
  (case c30=>k_is)
  (case k30=>k_is)
  (case a31=>k_is)
  (case l31=>k_is)
  (case c31=>k_is)
  (case k31=>k_is)
  (case a32=>k_is)
  (case l32=>k_is)
  (case c32=>k_is)
  (case k32=>k_is)
  (case y0=>k_is)
  (case y1=>k_is)
  (case z0=>k_is)
  (case z1=>k_is)
  (case z2=>k_is)
  (case z3=>k_is)
  (case z4=>k_is)
  (case z5=>k_is)
  (case z6=>k_is)
  (case z7=>k_is)
  (case z8=>k_is)
  (case z9=>k_is)
  (case z10=>k_is)
