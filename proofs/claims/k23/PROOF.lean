import PyProof.Rows.All
import Wide.All
import OpenK.AllK
import Wide.FinOn
import Lean
import PyProof.EqAt
import PyProof.EqKinds
import PyProof.TupleCall
import PySem.Challenge.RW_formgrove_k23_books_at_their_bounds
namespace FgM
end FgM
set_option Elab.async false
set_option linter.all false
set_option maxRecDepth 100000
namespace L2
open PySem PySem.Spec PyProof.Rows
abbrev Key:=Sum Int Str
def Zgi:Key->Value->Bool
 | .inl k,v=>Value.isInt k v
 | .inr x,v=>Value.isStrOf x v
def Zo5(w:World):Key->Int
 | .inl k=>hashInt k
 | .inr x=>hashStr w x
theorem ZaB:∀{k:Key}{v:Value},Zgi k v=true->(∃i t,k=Sum.inl i/\v=Value.int i t)\/(∃x t,k=Sum.inr x/\v=Value.str x t)
 | .inl i,v,h=>by
  obtain⟨t,e⟩:=Value.isInt_shape (k:=i) (v:=v) h;exact .inl ⟨i,t,rfl,e⟩
 | .inr x,v,h=>by
  obtain⟨t,e⟩:=Value.isStrOf_shape (x:=x) (v:=v) h;exact .inr ⟨x,t,rfl,e⟩
theorem Ziu(i:Int)(t:Tok):Zgi (.inl i) (.int i t)=true:=by simp[Zgi,Value.isInt]
theorem Zj8(x:Str)(t:Tok):Zgi (.inr x) (.str x t)=true:=by simp[Zgi,Value.isStrOf]
theorem ZnB(a b:Int):decide ((Sum.inl a:Key)=Sum.inl b)=(a == b):=by
 by_cases e:a=b
 ·subst e;simp
 ·have h : ¬ (Sum.inl a:Key)=Sum.inl b:=fun q=>e (Sum.inl.inj q);rw[decide_eq_false h];exact(beq_eq_false_iff_ne.mpr e).symm
theorem ZnW(a b:Str):decide ((Sum.inr a:Key)=Sum.inr b)=decide (a=b):=by
 by_cases e:a=b
 ·subst e;simp
 ·have h : ¬ (Sum.inr a:Key)=Sum.inr b:=fun q=>e (Sum.inr.inj q);rw[decide_eq_false h,decide_eq_false e]
theorem Znp(a:Int)(b:Str):decide ((Sum.inl a:Key)=Sum.inr b)=false:=decide_eq_false (fun q=>nomatch q)
theorem ZnF(a:Str)(b:Int):decide ((Sum.inr a:Key)=Sum.inl b)=false:=decide_eq_false (fun q=>nomatch q)
def Zax(prog:Program)(w:World):PySem.KeyKind prog w Key where
 is:=Zgi
 hash:=Zo5 w
 inj:=fun v a b ha hb=>by
  rcases ZaB ha with⟨i,t,rfl,rfl⟩|⟨x,t,rfl,rfl⟩
  ·rcases ZaB hb with⟨j,u,rfl,e⟩|⟨y,u,rfl,e⟩
   ·injection e with e1 _;rw[e1]
   ·exact nomatch e
  ·rcases ZaB hb with⟨j,u,rfl,e⟩|⟨y,u,rfl,e⟩
   ·exact nomatch e
   ·injection e with e1 _;rw[e1]
 byValue:=fun k v h=>by
  rcases ZaB h with⟨i,t,rfl,rfl⟩|⟨x,t,rfl,rfl⟩ <;> rfl
 pyHash:=fun hv h=>by
  rcases ZaB hv with⟨i,t,rfl,rfl⟩|⟨x,t,rfl,rfl⟩
  ·exact wpAny_pyHash_int h
  ·exact wpAny_pyHash_str h
 eqBool:=fun hu hv h=>by
  rcases ZaB hu with⟨i,t,rfl,rfl⟩|⟨x,t,rfl,rfl⟩
  ·rcases ZaB hv with⟨j,u,rfl,rfl⟩|⟨y,u,rfl,rfl⟩
   ·rw[ZnB] at h;exact wpAny_eqBool_int h
   ·rw[Znp] at h;exact SeqAt.EqAt.int_str i t y u _ _ _ _ h
  ·rcases ZaB hv with⟨j,u,rfl,rfl⟩|⟨y,u,rfl,rfl⟩
   ·rw[ZnF] at h;exact SeqAt.EqAt.str_int x t j u _ _ _ _ h
   ·rw[ZnW] at h;exact wpAny_eqBool_str h
 «strs» := fun k x t v h=>by
  rcases ZaB h with⟨i,u,rfl,e⟩|⟨y,u,rfl,e⟩
  ·exact nomatch e
  ·injection e with e1 _;subst e1;cases v <;> rfl
theorem ZgN(prog:Program)(w:World)(i:Int)(t:Tok):(Zax prog w).is (.inl i) (.int i t)=true:=Ziu i t
theorem Zgp(prog:Program)(w:World)(x:Str)(t:Tok):(Zax prog w).is (.inr x) (.str x t)=true:=Zj8 x t
inductive V where
 | non|bl (b:Bool)|int (i:Int)|str (x:Str)|byt (b:Array UInt8)|flt (b:UInt64)|ref (a:Addr)|ty (n:String)
 deriving DecidableEq
def RelV:V->Value->Prop
 | .non,u=>u=Value.none
 | .bl b,u=>u=Value.bool b
 | .int i,u=>∃t,u=Value.int i t
 | .str x,u=>∃t,u=Value.str x t
 | .byt b,u=>∃t,u=Value.bytes b t
 | .flt b,u=>∃t,u=Value.float b t
 | .ref a,u=>u=Value.ref a
 | .ty n,u=>u=Value.type n
abbrev Vals:List V->List Value->Prop:=Paired RelV
theorem Vals.length{xs:List V}{us:List Value}(r:Vals xs us):xs.length=us.length:=Paired.length r
theorem Vals.get:∀{xs:List V}{us:List Value}{i:Nat}{x:V},Vals xs us->xs[i]?= some x->∃u,us[i]?= some u/\RelV x u
 | _,_,_,_,.nil,e=>by simp at e
 | _,_,0,_,.cons r _,e=>by simp at e;subst e;exact⟨_,rfl,r⟩
 | _,_,i+1,x,.cons _ t,e=>by
  obtain⟨u,h1,h2⟩:=Vals.get (i:=i) (x:=x) t (by simpa using e);exact⟨u,by simpa using h1,h2⟩
theorem Vals.set{x:V}{u:Value}(r:RelV x u):∀{xs:List V}{us:List Value}(i:Nat),Vals xs us->Vals (xs.set i x) (us.set i u)
 | _,_,_,.nil=>.nil
 | _,_,0,.cons _ t=>.cons r t
 | _,_,i+1,.cons q t=>.cons q (Vals.set r i t)
theorem Vals.append:∀{xs ys:List V}{us ws:List Value},Vals xs us->Vals ys ws->Vals (xs++ys) (us++ws)
 | _,_,_,_,.nil,s=>s
 | _,_,_,_,.cons r t,s=>.cons r (Vals.append t s)
theorem Vals.take:∀{xs:List V}{us:List Value}(n:Nat),Vals xs us->Vals (xs.take n) (us.take n)
 | _,_,0,_=>.nil
 | _,_,_+1,.nil=>.nil
 | _,_,n+1,.cons r t=>.cons r (Vals.take n t)
theorem Vals.drop:∀{xs:List V}{us:List Value}(n:Nat),Vals xs us->Vals (xs.drop n) (us.drop n)
 | _,_,0,r=>r
 | _,_,_+1,.nil=>.nil
 | _,_,n+1,.cons _ t=>Vals.drop n t
def ZfH:Option V->Option Value->Prop
 | some v,some u=>RelV v u
 | none,none=>True
 | _,_=>False
def KV{κ : Type}:List (κ × V)->List (κ × Value)->Prop:=Paired fun(p : κ × V)(q : κ × Value)=>p.1=q.1/\RelV p.2 q.2
def kV:Key->V
 | .inl i=>.int i
 | .inr x=>.str x
inductive HO where
 | lst (xs:List V)
 | tup (xs:List V)
 | dK (kvs:List (Key×V))|dT (kvs:List (List Key×V))
 | set (S:Int->Bool) (n:Nat)
 | ins (C dx:Addr) (fs:List (Str×V))
 | own (x:Addr)
 | xd (fs:List (Str×V))
 | met (f x:Addr)
 | rng (lo hi:Int)
 | frz (o:Obj) (u:HO)
 | tbl (ps:Array Value)
 | ext (φ : Heap->Prop)
abbrev Hp:=Addr->Option HO
def upd(H:Hp)(a:Addr)(o:HO):Hp:=fun b=>if b=a then some o else H b
theorem Zb{H:Hp}{a:Addr}{o:HO}:upd H a o a=some o:=by unfold upd;rw[if_pos rfl]
theorem Zu{H:Hp}{a b:Addr}{o:HO}(h:b≠a):upd H a o b=H b:=by unfold upd;rw[if_neg h]
theorem Zgt{H:Hp}{a:Addr}{o u:HO}:upd (upd H a o) a u=upd H a u:=by
 funext b;unfold upd;split <;> rfl
theorem ZoK{H:Hp}{a b:Addr}{o u:HO}(h:H a=some o)(h':H b=some u)(d:o≠u):a≠b:=by
 intro e;subst e;rw[h] at h';exact d (Option.some.inj h')
theorem ZK{H:Hp}{a b:Addr}{o:HO}(h:H a=some o)(h':H b=none):a≠b:=by
 intro e;subst e;rw[h] at h';cases h'
section
variable(P:Program)(w:World)
def ZaL(H:Hp)(h:Heap)(a:Addr):HO->Prop
 | .lst xs=>xs.length<=sizeLine/\∃(its:List Value)(n:Nat),Vals xs its/\h.get? a=some { cls:=.type "list",data:=.seq its.toArray n }
 | .tup xs=>xs.length<=sizeLine/\∃its:List Value,Vals xs its/\IsTup h a its.toArray
 | .dK kvs=>kvs.length<=sizeLine/\(a == sysModules)=false/\∃vs,KV kvs vs/\h.DictOf (Zax P w) a vs
 | .dT kvs=>kvs.length<=sizeLine/\(a == sysModules)=false/\∃xs:List (List Key×Addr×Value),
   Paired (fun(p:List Key×V)(q:List Key×Addr×Value)=>p.1=q.1/\H q.2.1=some (.tup (p.1.map kV))/\RelV p.2 q.2.2) kvs xs /\
   ∃o es ep,h.get? a=some o/\o.ExactDict/\o.data=.dict es ep/\es.toList=xs.map (entryOfKey (tupleKind (Zax P w)))/\(xs.map (·.1)).Nodup
 | .set S n=>h.SetOf (intKind P w) a S n
 | .ins C dx fs=>H dx=some (.own a)/\fs.length<=1000/\dx≠a/\h.get? a=some (PySem.W.instObj C dx) /\
   ∃mA,h.Ns1 dx mA/\(∀f,ZfH (fs.lookup f) (mA f))/\PySem.Within mA (fs.map (·.1))
 | .own _=>∃o,h.get? a=some o
 | .xd fs=>∃mA,h.Ns1 a mA/\∀f,ZfH (fs.lookup f) (mA f)
 | .rng lo hi=>∃t u v,h.get? a=some { cls:=.type "range",data:=.fields #[.int lo t,.int hi u,.int 1 v] }
 | .frz o u=>h.get? a=some o/\ZaL H h a u
 | .tbl ps=>h.get? a=some { cls:=.none,data:=.fields ps }
 | .met f x=>h.get? a=some (PySem.W.methodObj (.ref f) (.ref x))
 | .ext φ=>φ h/\(∃o,h.get? a=some o)/\∀h1 h2:Heap,φ h1->(∀o,h1.get? a=some o->h2.get? a=some o) -> φ h2
def HOk(H:Hp)(h:Heap):Prop := ∀a o,H a=some o->ZaL P w H h a o
end
section
variable{P:Program}{w:World}{H H':Hp}{h h':Heap}{a:Addr}{o:HO}
theorem ZaL.lt(x:ZaL P w H h a o):a<h.objs.size:=by
 cases o with
 | lst xs=>obtain⟨_,_,_,_,e⟩:=x;exact Heap.lt_size e
 | tup xs=>obtain⟨_,_,_,p⟩:=x;exact p.lt
 | dK kvs=>obtain⟨_,_,_,_,o,_,_,e,_⟩:=x;exact Heap.lt_size e
 | dT kvs=>obtain⟨_,_,_,_,o,_,_,e,_⟩:=x;exact Heap.lt_size e
 | set S n=>obtain⟨o,_,_,_,e,_⟩:=x;exact Heap.lt_size e
 | ins C dx fs=>obtain⟨_,_,_,e,_⟩:=x;exact Heap.lt_size e
 | own y=>obtain⟨_,e⟩:=x;exact Heap.lt_size e
 | xd fs=>obtain⟨_,⟨_,_,_,e,_⟩,_⟩:=x;exact Heap.lt_size e
 | rng lo hi=>obtain⟨_,_,_,e⟩:=x;exact Heap.lt_size e
 | frz ob u=>obtain⟨e,_⟩:=x;exact Heap.lt_size e
 | tbl ps=>exact Heap.lt_size (show h.get? a=some _ from x)
 | met f y=>exact Heap.lt_size (show h.get? a=some _ from x)
 | ext φ=>obtain⟨_,⟨_,e⟩,_⟩:=x;exact Heap.lt_size e
theorem Paired.mapP{α β : Type}{F G : α -> β -> Prop}:∀{l₁ : List α}{l₂ : List β},Paired F l₁ l₂ -> (∀a b,F a b->G a b)->Paired G l₁ l₂
 | _,_,.nil,_=>.nil
 | _,_,.cons r t,f=>.cons (f _ _ r) (Paired.mapP t f)
theorem ZaL.stay(x:ZaL P w H h a o)(k:∀b u,(b=a\/H b=some (.own a))->h.get? b=some u->h'.get? b=some u)
  (ho:∀b,H b=some (.own a)->H' b=some (.own a)) (ht:∀b xs,H b=some (.tup xs)->H' b=some (.tup xs)):ZaL P w H' h' a o:=by
 induction o with
 | lst xs=>obtain⟨z,its,n,r,e⟩:=x;exact⟨z,its,n,r,k _ _ (.inl rfl) e⟩
 | tup xs=>obtain⟨z,its,r,ob,e,c⟩:=x;exact⟨z,its,r,ob,k _ _ (.inl rfl) e,c⟩
 | dK kvs=>obtain⟨z,y,vs,r,ob,es,ep,e,c⟩:=x;exact⟨z,y,vs,r,ob,es,ep,k _ _ (.inl rfl) e,c⟩
 | dT kvs =>
  obtain⟨z,y,xs,r,ob,es,ep,e,c⟩:=x;exact⟨z,y,xs,Paired.mapP r fun p q z=>⟨z.1,ht _ _ z.2.1,z.2.2⟩,ob,es,ep,k _ _ (.inl rfl) e,c⟩
 | set S n=>obtain⟨ob,es,ep,t,e,c⟩:=x;exact⟨ob,es,ep,t,k _ _ (.inl rfl) e,c⟩
 | ins C dx fs =>
  obtain⟨d,z,ne,e,mA,⟨od,es,ep,e2,c⟩,r⟩:=x;exact⟨ho _ d,z,ne,k _ _ (.inl rfl) e,mA,⟨od,es,ep,k _ _ (.inr d) e2,c⟩,r⟩
 | own y=>obtain⟨ob,e⟩:=x;exact⟨ob,k _ _ (.inl rfl) e⟩
 | xd fs=>obtain⟨mA,⟨od,es,ep,e,c⟩,r⟩:=x;exact⟨mA,⟨od,es,ep,k _ _ (.inl rfl) e,c⟩,r⟩
 | rng lo hi=>obtain⟨t,u,v,e⟩:=x;exact⟨t,u,v,k _ _ (.inl rfl) e⟩
 | frz ob u ih=>obtain⟨e,q⟩:=x;exact⟨k _ _ (.inl rfl) e,ih q⟩
 | tbl ps =>
  have e:h.get? a=some { cls:=.none,data:=.fields ps }:=x;show h'.get? a=some { cls:=.none,data:=.fields ps };exact k a _ (.inl rfl) e
 | met f y =>
  have e:h.get? a=some (PySem.W.methodObj (.ref f) (.ref y)):=x;show h'.get? a=some (PySem.W.methodObj (.ref f) (.ref y));exact k a _ (.inl rfl) e
 | ext φ=>obtain⟨p,⟨o,e⟩,st⟩:=x;exact⟨st _ _ p fun o q=>k _ _ (.inl rfl) q,⟨o,k _ _ (.inl rfl) e⟩,st⟩
theorem HOk.lt(x:HOk P w H h)(e:H a=some o):a<h.objs.size:=(x a o e).lt
theorem HOk.fresh(x:HOk P w H h)(e:h.objs.size<=a):H a=none:=by
 cases q:H a with
 | none=>rfl
 | some u=>exact absurd (Nat.lt_of_lt_of_le (x.lt q) e) (Nat.lt_irrefl _)
theorem HOk.kept(x:HOk P w H h)(k:∀b u,h.get? b=some u->h'.get? b=some u):HOk P w H h':=fun a o e =>
 (x a o e).stay (fun b u _ q=>k b u q) (fun _ q=>q) fun _ _ q=>q
theorem HOk.laid(x:HOk P w H h)(k:∀b u,h.get? b=some u->h'.get? b=some u)(hp:h.objs.size<=a)(new:ZaL P w (upd H a o) h' a o):HOk P w (upd H a o) h':=fun b u e=>by
 have hn:=x.fresh hp;by_cases hb:b=a
 ·subst hb;rw[Zb] at e;cases e;exact new
 ·rw[Zu hb] at e;exact(x b u e).stay (fun c v _ q=>k c v q) (fun c q=>by rw[Zu (ZK q hn)];exact q) fun c xs q=>by rw[Zu (ZK q hn)];exact q
end
def Rd(H:Hp)(a:Addr)(u:HO):Prop:=H a=some u\/∃o,H a=some (.frz o u)
theorem Rd.ok{P:Program}{w:World}{H:Hp}{h:Heap}{a:Addr}{u:HO}(r:Rd H a u)(x:HOk P w H h):ZaL P w H h a u:=by
 rcases r with r|⟨o,r⟩
 ·exact x a u r
 ·obtain⟨_,q⟩:=x a _ r;exact q
def Mut:Option HO->Prop
 | some (.lst _)=>True
 | some (.dK _)=>True
 | some (.dT _)=>True
 | some (.set _ _)=>True
 | some (.ins _ _ _)=>True
 | some (.ext _)=>True
 | _=>False
section
variable{P:Program}{w:World}{H:Hp}{h h':Heap}{x e:Addr}{o':HO}
theorem HOk.write(ok:HOk P w H h)(mu:Mut (H x))(he:e=x\/H e=some (.own x))(k:∀b u,b≠e->h.get? b=some u->h'.get? b=some u)(heo:∃u,h'.get? e=some u)
  (new:ZaL P w (upd H x o') h' x o'):HOk P w (upd H x o') h':=fun b u q=>by
 have nown:∀c y,H c=some (.own y)->c≠x:=fun c y r z=>by subst z;rw[r] at mu;exact mu
 have ntup:∀c xs,H c=some (.tup xs)->c≠x:=fun c xs r z=>by subst z;rw[r] at mu;exact mu
 by_cases hb:b=x
 ·subst hb;rw[Zb] at q;cases q;exact new
 ·rw[Zu hb] at q;by_cases hbe:b=e
  ·have q':H b=some (.own x):=by
    rcases he with z|z
    ·exact absurd (hbe.trans z) hb
    ·rw[hbe];exact z
   rw[q] at q';cases q';obtain⟨v,hv⟩:=heo;exact⟨v,by rw[hbe];exact hv⟩
  ·refine(ok b u q).stay (fun c v hc r=>k c v ?_ r) (fun c r=>by rw[Zu (nown c b r)];exact r) fun c xs r=>by rw[Zu (ntup c xs r)];exact r
   rcases hc with rfl|hc
   ·exact hbe
   ·rintro rfl;rcases he with z|z
    ·exact nown c b hc z
    ·rw[hc] at z;cases z;exact hb rfl
end
structure Un(fs ex:List Addr)(H H':Hp)(h h':Heap):Prop where
 keep:∀b o,h.get? b=some o->H b=none->b∉fs->b∉ex->h'.get? b=some o
 slot:∀b o,h.get? b=some o->H b=none->b∈fs->b∉ex->∃sl,h'.get? b=some { o with slots:=sl }
 free:∀b o,h.get? b=some o->H b=none->b∉ex->H' b=none
 there:∀b o,h.get? b=some o->b∉ex->∃o',h'.get? b=some o'
 tups:∀b xs,H b=some (.tup xs)->H' b=some (.tup xs)
 frzs:∀b o u,H b=some (.frz o u)->H' b=some (.frz o u)
 tbls:∀b ps,H b=some (.tbl ps)->∃more,H' b=some (.tbl (ps++more))
section
variable{fs fs' ex ex':List Addr}{H H1 H2:Hp}{h h1 h2 h':Heap}{a x e:Addr}{o:HO}
theorem Un.any(u:Un fs ex H H1 h h1){b:Addr}{ob:Obj}(q:h.get? b=some ob)(n:H b=none)(hx:b∉ex):∃sl,h1.get? b=some { ob with slots:=sl }:=by
 by_cases hb:b∈fs
 ·exact u.slot b ob q n hb hx
 ·exact⟨ob.slots,u.keep b ob q n hb hx⟩
theorem Un.kept(k:∀b u,h.get? b=some u->h'.get? b=some u):Un fs ex H H h h' :=
 ⟨fun b ob q _ _ _=>k b ob q,fun b ob q _ _ _=>⟨ob.slots,k b ob q⟩,fun _ _ _ n _=>n,fun b ob q _=>⟨ob,k b ob q⟩,fun _ _ q=>q,fun _ _ _ q=>q,fun _ ps q=>⟨#[],by rw[q];simp⟩⟩
theorem Un.refl:Un fs ex H H h h:=Un.kept fun _ _ q=>q
theorem Un.laid(k:∀b u,h.get? b=some u->h'.get? b=some u)(hp:h.objs.size<=a)(hn:H a=none):Un fs ex H (upd H a o) h h' where
 keep:=fun b u q _ _ _=>k b u q
 slot:=fun b u q _ _ _=>⟨u.slots,k b u q⟩
 free:=fun b u q n _=>by rw[Zu (Nat.ne_of_lt (Nat.lt_of_lt_of_le (Heap.lt_size q) hp))];exact n
 there:=fun b u q _=>⟨u,k b u q⟩
 tups:=fun b xs q=>by rw[Zu (ZK q hn)];exact q
 frzs:=fun b u xs q=>by rw[Zu (ZK q hn)];exact q
 tbls:=fun b ps q=>⟨#[],by rw[Zu (ZK q hn),q];simp⟩
theorem Un.write(mu:Mut (H x))(he:e=x\/H e=some (.own x))(k:∀b u,b≠e->h.get? b=some u->h'.get? b=some u)(heo:∃u,h'.get? e=some u):Un fs ex H (upd H x o) h h':=by
 have hx:∀b,H b=none->b≠x:=fun b n z=>by subst z;rw[n] at mu;exact mu
 have hb:∀b,H b=none->b≠e:=fun b n z=>by
  subst z;rcases he with r|r
  ·exact hx b n r
  ·rw[n] at r;cases r
 have hm:∀b u,H b=some u -> ¬ Mut (some u)->b≠x:=fun b u q nm z=>by subst z;rw[q] at mu;exact nm mu
 refine⟨fun b u q n _ _=>k b u (hb b n) q,fun b u q n _ _=>⟨u.slots,k b u (hb b n) q⟩,fun b u q n _=>by rw[Zu (hx b n)];exact n,fun b u q _=>?_,
  fun b xs q=>by rw[Zu (hm b _ q fun z=>z)];exact q,fun b u xs q=>by rw[Zu (hm b _ q fun z=>z)];exact q,fun b ps q=>⟨#[],by rw[Zu (hm b _ q fun z=>z),q];simp⟩⟩
 by_cases hbe:b=e
 ·subst hbe;exact heo
 ·exact⟨u,k b u hbe q⟩
end
def trk(h:Heap)(H:Hp):List Addr:=(List.range h.objs.size).filter fun a=>(H a).isSome
def ZkK(h:Heap)(H:Hp):Heap:=PySem.W.hideAll h (trk h H)
theorem ZjJ(h:Heap)(H:Hp):(ZkK h H).objs.size=h.objs.size:=PySem.W.hideAll_size _ _
theorem ZkY{h:Heap}{H:Hp}{b:Addr}{o:Obj}(e:h.get? b=some o)(n:H b=none):(ZkK h H).get? b=some o :=
 PySem.W.hideAll_get _ e fun hm=>by
  have q:(H b).isSome=true:=(List.mem_filter.mp hm).2;rw[n] at q;simp at q
theorem ZlW{h:Heap}{H:Hp}{b:Addr}{o:Obj}(e:(ZkK h H).get? b=some o):h.get? b=some o/\H b=none:=by
 have e':h.get? b=some o:=PySem.W.of_hideAll (trk h H) e;refine⟨e',?_⟩;cases q:H b with
 | none=>rfl
 | some x =>
  have hm:b∈trk h H:=List.mem_filter.mpr ⟨List.mem_range.mpr (Heap.lt_size e'),by simp[q]⟩;have z:(ZkK h H).get? b=none:=PySem.W.hideAll_none (trk h H) hm;rw[z] at e;cases e
structure Mod(K:PySem.W.Frag)(mg:Str->Option Value)(base:Heap):Prop where
 kin:K.In base
 glob:base.Ns mainGlobals mg
 blt:∃mb,base.Ns builtinsNs mb/\∀x:Str,x ≠ "__name__" -> mb x=bootBuiltins x
 nolimit:base.NoLimit
/-- the context: a def's body (or a comprehension's block) running. base: fixed through the whole law;s₀,H₀: the entry;outer: the frames whose slots others may change (a def's callers);stack: all frames that run;
   ex: iterators that were made ahead of the entry and are walked here (a comprehension's);fn: the names whose cells were made at the entry (a def: all;a comprehension's block: its own);calm: not within an except suite;pn: pins that every state bears;xe: what is wanted of an exception that leaves the code -/
structure Cx where
 prog:Program
 w:World
 K:PySem.W.Frag
 mg:Str->Option Value
 base:Heap
 A:Around
 N:List Str
 s₀ : Shared
 H₀ : Hp
 env:Env
 outer:List Env
 stack:List Env
 ex:List Addr
 fn:Str->Bool
 calm:Bool
 pn:List (Addr×Obj)
 xe:Value->Shared->Prop
def frs(l:List Env):List Addr:=l.filterMap (·.frame)
abbrev Cx.fs(X:Cx):List Addr:=frs X.outer
def Vis(sc:Scope)(x:Str):Prop:=sc.names.lookup x=some .local\/sc.names.lookup x=some .cell\/sc.names.lookup x=some .free
def Loc(sc:Scope)(x:Str):Prop:=sc.names.lookup x=some .local\/sc.names.lookup x=some .cell
def Look(env:Env)(h:Heap)(m:Str->Option Value)(x:Str)(u:Value):Prop :=
 (env.kindOf x=some .local/\m x=some u)\/((env.kindOf x=some .cell\/env.kindOf x=some .free)/\∃c,env.cells.lookup x=some c/\h.IsCell c (some u))
structure Cx.Ok(X:Cx):Prop where
 mod:Mod X.K X.mg X.base
 kind:X.env.scope.kind=.function
 glob:X.env.globals=mainGlobals
 blt:X.env.builtins=builtinsNs
 above:X.s₀.heap.objs.size<=X.env.locals
 inj:∀x y c,X.env.cells.lookup x=some c->X.env.cells.lookup y=some c->x=y
 has:∀x,(X.env.kindOf x=some .cell\/X.env.kindOf x=some .free)->∃c,X.env.cells.lookup x=some c
 cab:∀x c,X.fn x=true->X.env.cells.lookup x=some c->X.s₀.heap.objs.size<=c
 hd:X.calm=true->X.A.handled=none
 frames:X.A.frames=some X.stack
 stk:X.stack=X.outer\/(X.stack=X.env::X.outer/\X.env.frame=some X.env.locals)
 exf:∀b∈X.ex,b≠X.env.locals/\∀x c,X.env.cells.lookup x=some c->c≠b
 bs:∀b o,X.base.get? b=some o->X.s₀.heap.get? b=some o/\X.H₀ b=none
 bsz:X.base.objs.size<=X.s₀.heap.objs.size
 noex:∀b o,X.base.get? b=some o->b∉X.ex
 exfs:∀b∈X.ex,b∉X.fs
 funs:X.s₀.heap.FunFrames X.base X.outer
 frf:∀b∈X.fs,X.H₀ b=none
structure Inv(X:Cx)(pins:List (Addr×Obj))(σ : List (Option V))(H:Hp)(s:Shared):Prop where
 ok:X.Ok
 os:s.os=X.s₀.os
 bare:AllBare s.gens
 base:Un X.fs X.ex X.H₀ H X.s₀.heap s.heap
 loc:∃m,s.heap.Ns X.env.locals m/\∀(i:Nat)(x:Str)(v:V),X.N[i]?= some x -> σ[i]?= some (some v)->Vis X.env.scope x->∃u,RelV v u/\Look X.env s.heap m x u
 cell:∀x c,X.env.cells.lookup x=some c->∃v,s.heap.IsCell c v
 free:H X.env.locals=none
 freeC:∀x c,X.env.cells.lookup x=some c->H c=none
 pin:∀p∈X.pn++pins,s.heap.get? p.1=some p.2/\H p.1=none/\p.1≠X.env.locals/\p.1∉X.fs/\∀v,p.2.data ≠ .cell v
 hok:HOk X.prog X.w H s.heap
 len : σ.length=X.N.length
section
variable{X:Cx}{pins:List (Addr×Obj)}{σ : List (Option V)}{H H':Hp}{s:Shared}{h':Heap}
theorem Cx.Ok.nofr(ok:X.Ok){b:Addr}{o:Obj}(e:X.base.get? b=some o):b∉X.fs:=fun hb=>by
 have:=(ok.funs.mem hb).1;rw[e] at this;cases this
theorem Inv.bs(I:Inv X pins σ H s):∀b o,X.base.get? b=some o->s.heap.get? b=some o/\H b=none:=fun b o e =>
 ⟨I.base.keep b o (I.ok.bs b o e).1 (I.ok.bs b o e).2 (I.ok.nofr e) (I.ok.noex b o e),I.base.free b o (I.ok.bs b o e).1 (I.ok.bs b o e).2 (I.ok.noex b o e)⟩
theorem Inv.bk(I:Inv X pins σ H s):∀b o,X.base.get? b=some o->s.heap.get? b=some o:=fun b o e=>(I.bs b o e).1
theorem Inv.mod(I:Inv X pins σ H s):Mod X.K X.mg X.base:=I.ok.mod
theorem Inv.kIn(I:Inv X pins σ H s):X.K.In s.heap:=I.ok.mod.kin.keeps I.bk
theorem Inv.lt(I:Inv X pins σ H s):X.env.locals<s.heap.objs.size:=let ⟨_,hn,_⟩:=I.loc;hn.lt
theorem Inv.sz(I:Inv X pins σ H s):X.s₀.heap.objs.size<=s.heap.objs.size:=Nat.le_trans I.ok.above (Nat.le_of_lt I.lt)
theorem Inv.nofs(I:Inv X pins σ H s){a:Addr}(h:s.heap.objs.size<=a):a∉X.fs:=fun hb=>by
 obtain⟨_,o,ho,_⟩:=I.ok.funs.mem hb;exact absurd (Nat.lt_of_lt_of_le (Heap.lt_size ho) (Nat.le_trans I.sz h)) (Nat.lt_irrefl _)
theorem Inv.cne(I:Inv X pins σ H s):∀x c,X.env.cells.lookup x=some c->c≠X.env.locals:=fun x c e z=>by
 obtain⟨v,o,ho,hd⟩:=I.cell x c e;obtain⟨m,⟨o',es,ep,ho',hd',_⟩,_⟩:=I.loc;rw[z,ho'] at ho;cases ho;rw[hd'] at hd;cases hd
theorem Inv.funs(I:Inv X pins σ H s):s.heap.FunFrames X.base X.outer:=by
 have all:∀(l:List Env),(∀b∈frs l,b∈X.fs)->X.s₀.heap.FunFrames X.base l->s.heap.FunFrames X.base l:=by
  intro l
  induction l with
  | nil=>intro _ _;trivial
  | cons env r ih =>
   intro hs hl;obtain⟨hk,⟨L,o,hf,hn,ho,hd⟩,hr⟩:=hl;have hL:L∈X.fs:=hs L (by unfold frs;rw[List.filterMap_cons,hf];exact List.mem_cons_self);obtain⟨sl,e⟩:=I.base.slot L o ho (I.ok.frf L hL) hL fun z=>I.ok.exfs L z hL;exact⟨hk,⟨L,_,hf,hn,e,hd⟩,ih (fun b hb=>hs b (by unfold frs;rw[List.filterMap_cons,hf];exact List.mem_cons_of_mem _ hb)) hr⟩
 exact all X.outer (fun _ hb=>hb) I.ok.funs
theorem Inv.stack(I:Inv X pins σ H s):s.heap.FunFrames X.base X.stack:=by
 rcases I.ok.stk with e|⟨e,hf⟩
 ·rw[e];exact I.funs
 ·rw[e];obtain⟨m,hn,_⟩:=I.loc;refine .cons (by rw[I.ok.kind];decide) hf hn ?_ I.funs;exact Heap.get?_none_of_le (Nat.le_trans I.ok.bsz I.ok.above)
theorem Inv.stkSub(I:Inv X pins σ H s):∀b∈frs X.stack,b∈X.env.locals::X.fs:=fun b hb=>by
 rcases I.ok.stk with e|⟨e,hf⟩
 ·rw[e] at hb;exact List.mem_cons_of_mem _ hb
 ·rw[e] at hb;unfold frs at hb;rw[List.filterMap_cons,hf] at hb;exact hb
theorem Inv.stkFree(I:Inv X pins σ H s):∀b∈frs X.stack,H b=none:=fun b hb=>by
 rcases List.mem_cons.mp (I.stkSub b hb) with e|hb
 ·rw[e];exact I.free
 ·obtain⟨_,o,ho,_⟩:=I.ok.funs.mem hb;exact I.base.free b o ho (I.ok.frf b hb) fun z=>I.ok.exfs b z hb
theorem Inv.step{g':Array GenState}{t':Nat}{d':Drawn}{ch:List Addr}(I:Inv X pins σ H s)
  (hch:∀b∈ch,(b∈X.ex\/X.s₀.heap.objs.size<=b)/\b≠X.env.locals/\(∀x c,X.env.cells.lookup x=some c->c≠b)/\∀p∈X.pn++pins,p.1≠b)
  (keep:∀b o,b≠X.env.locals->b∉X.fs->b∉ch->s.heap.get? b=some o->H b=none->h'.get? b=some o)
  (slot:∀b o,b≠X.env.locals->b∈X.fs->b∉ch->s.heap.get? b=some o->H b=none->∃sl,h'.get? b=some { o with slots:=sl }) (free:∀b o,b∉ch->s.heap.get? b=some o->H b=none->H' b=none)
  (there:∀b o,b∉ch->s.heap.get? b=some o->∃o',h'.get? b=some o')
  (tups:∀b xs,H b=some (.tup xs)->H' b=some (.tup xs)) (frzs:∀b o u,H b=some (.frz o u)->H' b=some (.frz o u)) (tbls:∀b ps,H b=some (.tbl ps)->∃more,H' b=some (.tbl (ps++more)))
  (ns:∀m,s.heap.Ns X.env.locals m->h'.Ns X.env.locals m) (hok:HOk X.prog X.w H' h') (hg:AllBare g') :
  Inv X pins σ H' { s with heap:=h',gens:=g',drawn:=d',toks:=t' }:=by
 have neL:∀b o,X.s₀.heap.get? b=some o->b≠X.env.locals:=fun b o e=>Nat.ne_of_lt (Nat.lt_of_lt_of_le (Heap.lt_size e) I.ok.above);have neC:∀b o,X.s₀.heap.get? b=some o->b∉X.ex->b∉ch:=fun b o e hx hb=>by
  rcases(hch b hb).1 with z|z
  ·exact hx z
  ·exact absurd (Nat.lt_of_lt_of_le (Heap.lt_size e) z) (Nat.lt_irrefl _)
 have cellK:∀x c,X.env.cells.lookup x=some c->∀v,s.heap.IsCell c v->h'.IsCell c v:=fun x c e v ⟨o,ho,hd⟩=>by
  have nch:c∉ch:=fun z=>(hch c z).2.2.1 x c e rfl;by_cases hc:c∈X.fs
  ·obtain⟨sl,q⟩:=slot c o (I.cne x c e) hc nch ho (I.freeC x c e);exact⟨_,q,hd⟩
  ·exact⟨o,keep c o (I.cne x c e) hc nch ho (I.freeC x c e),hd⟩
 refine⟨I.ok,I.os,hg,⟨fun b o e n hb hx=>?_,fun b o e n hb hx=>?_,fun b o e n hx=>?_,fun b o e hx=>?_,fun b xs e=>tups b xs (I.base.tups b xs e),fun b o xs e=>frzs b o xs (I.base.frzs b o xs e),fun b ps e=>?_⟩,?_,fun x c e=>?_,?_,fun x c e=>?_,fun p hp=>?_,hok,I.len⟩
 ·exact keep b o (neL b o e) hb (neC b o e hx) (I.base.keep b o e n hb hx) (I.base.free b o e n hx)
 ·obtain⟨sl,e1⟩:=I.base.slot b o e n hb hx;obtain⟨sl',e2⟩:=slot b _ (neL b o e) hb (neC b o e hx) e1 (I.base.free b o e n hx);exact⟨sl',e2⟩
 ·obtain⟨o',e1⟩:=I.base.there b o e hx;exact free b o' (neC b o e hx) e1 (I.base.free b o e n hx)
 ·obtain⟨o',e1⟩:=I.base.there b o e hx;exact there b o' (neC b o e hx) e1
 ·obtain⟨m1,e1⟩:=I.base.tbls b ps e;obtain⟨m2,e2⟩:=tbls b _ e1;exact⟨m1++m2,by rw[e2,Array.append_assoc]⟩
 ·obtain⟨m,hn,hl⟩:=I.loc;refine⟨m,ns m hn,fun i x v e1 e2 e3=>?_⟩;obtain⟨u,r,l⟩:=hl i x v e1 e2 e3;refine⟨u,r,?_⟩;rcases l with l|⟨k,c,e,z⟩
  ·exact .inl l
  ·exact .inr ⟨k,c,e,cellK x c e _ z⟩
 ·obtain⟨v,z⟩:=I.cell x c e;exact⟨v,cellK x c e v z⟩
 ·obtain⟨m,⟨o,_,_,ho,_⟩,_⟩:=I.loc;exact free _ o (fun z=>(hch _ z).2.1 rfl) ho I.free
 ·obtain⟨v,o,ho,hd⟩:=I.cell x c e;exact free c o (fun z=>(hch c z).2.2.1 x c e rfl) ho (I.freeC x c e)
 ·obtain⟨e,n,ne,nf,d⟩:=I.pin p hp;have nch:p.1∉ch:=fun z=>(hch p.1 z).2.2.2 p hp rfl;exact⟨keep p.1 p.2 ne nf nch e n,free p.1 p.2 nch e n,ne,nf,d⟩
theorem Inv.un{t':Nat}(I:Inv X pins σ H s)(u:Un X.fs [] H H' s.heap h')(hok:HOk X.prog X.w H' h'):Inv X pins σ H' { s with heap:=h',toks:=t' }:=by
 obtain⟨m,⟨o,es,ep,ho,r⟩,_⟩:=id I.loc;obtain⟨sl,hL⟩:=u.any ho I.free (by simp);exact I.step (g':=s.gens) (d':=s.drawn) (ch:=[]) (fun _ z=>nomatch z) (fun b o _ hb _ e n=>u.keep b o e n hb (by simp)) (fun b o _ hb _ e n=>u.slot b o e n hb (by simp)) (fun b o _ e n=>u.free b o e n (by simp)) (fun b o _ e=>u.there b o e (by simp)) u.tups u.frzs u.tbls (fun m' hm=>by
  obtain⟨o',es',ep',ho',r'⟩:=hm;rw[ho] at ho';cases ho';exact⟨_,es',ep',hL,r'⟩) hok I.bare
theorem Inv.call{g':Array GenState}{t':Nat}{d':Drawn}{ch:List Addr}(I:Inv X pins σ H s)(u:Un (frs X.stack) ch H H' s.heap h')(hok:HOk X.prog X.w H' h')(hg:AllBare g')
  (hch:∀b∈ch,(b∈X.ex\/X.s₀.heap.objs.size<=b)/\b≠X.env.locals/\(∀x c,X.env.cells.lookup x=some c->c≠b)/\∀p∈X.pn++pins,p.1≠b) :
  Inv X pins σ H' { s with heap:=h',gens:=g',drawn:=d',toks:=t' }:=by
 obtain⟨m,⟨o,es,ep,ho,r⟩,_⟩:=id I.loc;obtain⟨sl,hL⟩:=u.any ho I.free fun z=>(hch _ z).2.1 rfl;exact I.step (ch:=ch) hch (fun b o hL hb hc e n=>u.keep b o e n (fun z=>(List.mem_cons.mp (I.stkSub b z)).elim hL hb) hc) (fun b o _ _ hc e n=>u.any e n hc) (fun b o hc e n=>u.free b o e n hc) (fun b o hc e=>u.there b o e hc) u.tups u.frzs u.tbls (fun m' hm=>by
  obtain⟨o',es',ep',ho',r'⟩:=hm;rw[ho] at ho';cases ho';exact⟨_,es',ep',hL,r'⟩) hok hg
theorem Inv.turned{t':Nat}{it:Addr}(I:Inv X pins σ H s)(k:∀b o,b≠it->s.heap.get? b=some o->h'.get? b=some o)(hn:H it=none)(hL:it≠X.env.locals)
  (h1:it∈X.ex\/X.s₀.heap.objs.size<=it) (h2:∀x c,X.env.cells.lookup x=some c->c≠it) (h3:∀p∈X.pn++pins,p.1≠it):Inv X pins σ H { s with heap:=h',toks:=t' }:=by
 have nit:∀b u,H b=some u->b≠it:=fun b u e z=>by rw[z,hn] at e;cases e
 refine I.step (g':=s.gens) (d':=s.drawn) (ch:=[it]) (fun b hb=>?_) (fun b o _ _ hc e _=>k b o (fun z=>hc (by simp[z])) e) (fun b o _ _ hc e _=>⟨o.slots,k b o (fun z=>hc (by simp[z])) e⟩) (fun _ _ _ _ n=>n)
  (fun b o hc e=>⟨o,k b o (fun z=>hc (by simp[z])) e⟩) (fun _ _ e=>e) (fun _ _ _ e=>e) (fun b ps e=>⟨#[],by rw[e];simp⟩) (fun m hm=>?_) (fun b u e=>?_) I.bare
 ·have e:b=it:=by simpa using hb
  subst e;exact⟨h1,hL,h2,h3⟩
 ·obtain⟨o,es,ep,ho,r⟩:=hm;exact⟨o,es,ep,k _ o (Ne.symm hL) ho,r⟩
 ·refine(I.hok b u e).stay (fun c v hc q=>k c v ?_ q) (fun _ q=>q) fun _ _ q=>q;rcases hc with z|z
  ·rw[z];exact nit b u e
  ·exact nit c _ z
theorem Inv.tok(I:Inv X pins σ H s)(t:Nat):Inv X pins σ H { s with toks:=t }:=I.un (h':=s.heap) (t':=t) Un.refl I.hok
theorem Inv.kept{t':Nat}(I:Inv X pins σ H s)(k:∀b u,s.heap.get? b=some u->h'.get? b=some u):Inv X pins σ H { s with heap:=h',toks:=t' }:=I.un (Un.kept k) (I.hok.kept k)
theorem Inv.laid{a:Addr}{o:HO}{t':Nat}(I:Inv X pins σ H s)(k:∀b u,s.heap.get? b=some u->h'.get? b=some u)(hp:s.heap.objs.size<=a)(new:ZaL X.prog X.w (upd H a o) h' a o) :
  Inv X pins σ (upd H a o) { s with heap:=h',toks:=t' }:=I.un (Un.laid k hp (I.hok.fresh hp)) (I.hok.laid k hp new)
theorem Inv.write{x e:Addr}{o:HO}{t':Nat}(I:Inv X pins σ H s)(mu:Mut (H x))(he:e=x\/H e=some (.own x))(k:∀b u,b≠e->s.heap.get? b=some u->h'.get? b=some u)(heo:∃u,h'.get? e=some u)
  (new:ZaL X.prog X.w (upd H x o) h' x o):Inv X pins σ (upd H x o) { s with heap:=h',toks:=t' }:=I.un (Un.write mu he k heo) (I.hok.write mu he k heo new)
theorem Inv.pins_of{pins':List (Addr×Obj)}(I:Inv X pins σ H s)(h:∀p∈pins',s.heap.get? p.1=some p.2/\H p.1=none/\p.1≠X.env.locals/\p.1∉X.fs/\∀v,p.2.data ≠ .cell v):Inv X pins' σ H s :=
 ⟨I.ok,I.os,I.bare,I.base,I.loc,I.cell,I.free,I.freeC,fun p hp=>(List.mem_append.mp hp).elim (fun z=>I.pin p (List.mem_append_left _ z)) (h p),I.hok,I.len⟩
theorem Ze1{N:List Str}(hN:N.Nodup){i j:Nat}{x:Str}(a:N[i]?= some x)(b:N[j]?= some x):i=j:=by
 obtain⟨h1,e1⟩:=List.getElem?_eq_some_iff.mp a;obtain⟨h2,e2⟩:=List.getElem?_eq_some_iff.mp b;exact(List.getElem_inj hN).mp (e1.trans e2.symm)
theorem Zfy{M:Model}{A:Around}{E:Value->Shared->Prop}{i:Nat}{x:Str}{v:V}{u:Value}{Q:Unit->Shared->Prop}(I:Inv X pins σ H s)(hN:X.N.Nodup)(hi:X.N[i]?= some x)(hx:Loc X.env.scope x)(r:RelV v u)
  (h:∀s',Inv X pins (σ.set i (some v)) H s'->(∃a,Heap.SameBut a s.heap s'.heap/\(a=X.env.locals\/X.env.cells.lookup x=some a))->Q () s') (hf:X.fn x=true\/X.env.scope.names.lookup x=some .local:=by first|exact .inl rfl|exact .inr rfl|assumption):wpAny M A (storeName X.env x u) Q E s:=by
 obtain⟨m,hn,hl⟩:=id I.loc;have hcls:(X.env.scope.kind ==.class || (X.env.scope.kind ==.module&&X.env.locals != X.env.globals))=false:=by rw[I.ok.kind];rfl
 have hiσ : i < σ.length:=by rw[I.len];exact(List.getElem?_eq_some_iff.mp hi).1
 have cne:=I.cne;have tracked:∀{a:Addr}{h':Heap},(∃o,s.heap.get? a=some o/\H a=none)->Heap.SameBut a s.heap h'->HOk X.prog X.w H h':=fun{a h'} ha hs b ob e=>by
  obtain⟨_,_,hfree⟩:=ha;refine(I.hok b ob e).stay (fun c w' hc q=>(hs.2 c ?_).trans q) (fun _ q=>q) fun _ _ q=>q;rintro rfl;rcases hc with rfl|hc
  ·rw[hfree] at e;cases e
  ·rw[hfree] at hc;cases hc
 rcases hx with hk|hk
 ·refine wpAny_storeName_local hk hn (fun h' hn' hs=>?_) hcls;obtain⟨oL,_,_,hoL,_⟩:=id hn;refine h _ ⟨I.ok,I.os,I.bare,⟨fun b o e n hb hx=>?_,fun b o e n hb hx=>?_,I.base.free,fun b o e hx=>?_,I.base.tups,I.base.frzs,I.base.tbls⟩,⟨_,hn',fun j y v' e1 e2 e3=>?_⟩,fun y c e=>?_,I.free,I.freeC,fun p hp=>?_,tracked ⟨oL,hoL,I.free⟩ hs,by simpa using I.len⟩ ⟨_,hs,.inl rfl⟩
  ·exact(hs.2 b (Nat.ne_of_lt (Nat.lt_of_lt_of_le (Heap.lt_size e) I.ok.above))).trans (I.base.keep b o e n hb hx)
  ·obtain⟨sl,e1⟩:=I.base.slot b o e n hb hx;exact⟨sl,(hs.2 b (Nat.ne_of_lt (Nat.lt_of_lt_of_le (Heap.lt_size e) I.ok.above))).trans e1⟩
  ·obtain⟨o',e1⟩:=I.base.there b o e hx;exact⟨o',(hs.2 b (Nat.ne_of_lt (Nat.lt_of_lt_of_le (Heap.lt_size e) I.ok.above))).trans e1⟩
  ·by_cases hj:j=i
   ·subst hj;rw[hi] at e1;cases e1;rw[List.getElem?_set_self hiσ] at e2;cases e2;exact⟨u,r,.inl ⟨hk,by simp⟩⟩
   ·rw[List.getElem?_set_ne (Ne.symm hj)] at e2;obtain⟨u',r',q⟩:=hl j y v' e1 e2 e3;refine⟨u',r',?_⟩;rcases q with⟨k,e⟩|⟨k,c,e,z⟩
    ·refine .inl ⟨k,?_⟩;have:y≠x:=fun e=>hj (Ze1 hN e1 (e ▸ hi));simp[this,e]
    ·exact .inr ⟨k,c,e,z.sameBut hs (cne y c e)⟩
  ·obtain⟨w',z⟩:=I.cell y c e;exact⟨w',z.sameBut hs (cne y c e)⟩
  ·obtain⟨e,n,ne,nf,d⟩:=I.pin p hp;exact⟨(hs.2 p.1 ne).trans e,n,ne,nf,d⟩
 ·have hfn:X.fn x=true:=by
   rcases hf with z|z
   ·exact z
   ·rw[z] at hk;cases hk
  obtain⟨c,hc⟩:=I.ok.has x (.inl hk);obtain⟨w',z⟩:=I.cell x c hc;refine wpAny_storeName_cell I.ok.kind hk hc z (fun h' hc' hs=>?_);obtain⟨oc,hoc,hocd⟩:=id z;refine h { s with heap:=h' } ⟨I.ok,I.os,I.bare,⟨fun b o e n hb hx=>?_,fun b o e n hb hx=>?_,I.base.free,fun b o e hx=>?_,I.base.tups,I.base.frzs,I.base.tbls⟩,⟨m,hn.sameBut hs (Ne.symm (cne x c hc)),fun j y v' e1 e2 e3=>?_⟩,fun y c' e=>?_,I.free,I.freeC,fun p hp=>?_,tracked ⟨oc,hoc,I.freeC x c hc⟩ hs,by simpa using I.len⟩ ⟨c,hs,.inr hc⟩
  ·exact(hs.2 b (Nat.ne_of_lt (Nat.lt_of_lt_of_le (Heap.lt_size e) (I.ok.cab x c hfn hc)))).trans (I.base.keep b o e n hb hx)
  ·obtain⟨sl,e1⟩:=I.base.slot b o e n hb hx;exact⟨sl,(hs.2 b (Nat.ne_of_lt (Nat.lt_of_lt_of_le (Heap.lt_size e) (I.ok.cab x c hfn hc)))).trans e1⟩
  ·obtain⟨o',e1⟩:=I.base.there b o e hx;exact⟨o',(hs.2 b (Nat.ne_of_lt (Nat.lt_of_lt_of_le (Heap.lt_size e) (I.ok.cab x c hfn hc)))).trans e1⟩
  ·by_cases hj:j=i
   ·subst hj;rw[hi] at e1;cases e1;rw[List.getElem?_set_self hiσ] at e2;cases e2;exact⟨u,r,.inr ⟨.inl hk,c,hc,hc'⟩⟩
   ·rw[List.getElem?_set_ne (Ne.symm hj)] at e2;obtain⟨u',r',q⟩:=hl j y v' e1 e2 e3;refine⟨u',r',?_⟩;rcases q with q|⟨k,c',e,z'⟩
    ·exact .inl q
    ·refine .inr ⟨k,c',e,z'.sameBut hs ?_⟩;rintro rfl;exact hj (Ze1 hN e1 (I.ok.inj _ _ _ e hc ▸ hi))
  ·by_cases hcc:c'=c
   ·subst hcc;exact⟨_,hc'⟩
   ·obtain⟨w2,z2⟩:=I.cell y c' e;exact⟨w2,z2.sameBut hs hcc⟩
  ·obtain⟨e,n,ne,nf,d⟩:=I.pin p hp;refine⟨(hs.2 p.1 ?_).trans e,n,ne,nf,d⟩;intro q;rw[q,hoc] at e;have q':oc=p.2:=Option.some.inj e;exact d w' (by rw[<- q'];exact hocd)
theorem Zfq{M:Model}{A:Around}{E:Value->Shared->Prop}{i:Nat}{x:Str}{v:V}{u:Value}{Q:Unit->Shared->Prop}(I:Inv X pins σ H s)(hN:X.N.Nodup)(hi:X.N[i]?= some x)(hx:Loc X.env.scope x)(r:RelV v u)
  (h:∀s',Inv X pins (σ.set i (some v)) H s'->Q () s') (hf:X.fn x=true\/X.env.scope.names.lookup x=some .local:=by first|exact .inl rfl|exact .inr rfl|assumption):wpAny M A (storeName X.env x u) Q E s :=
 Zfy I hN hi hx r (fun s' I' _=>h s' I') hf
theorem Inv.call'{s':Shared}{ch:List Addr}(I:Inv X pins σ H s)(ho:s'.os=s.os)(u:Un (frs X.stack) ch H H' s.heap s'.heap)(hok:HOk X.prog X.w H' s'.heap)(hg:AllBare s'.gens)
  (hch:∀b∈ch,(b∈X.ex\/X.s₀.heap.objs.size<=b)/\b≠X.env.locals/\(∀x c,X.env.cells.lookup x=some c->c≠b)/\∀p∈X.pn++pins,p.1≠b):Inv X pins σ H' s':=by
 obtain⟨h',g',d',t',o'⟩:=s';have e:o'=s.os:=ho;subst e;exact I.call (g':=g') (t':=t') (d':=d') u hok hg hch
end
abbrev XK:=Value->Option Addr->Hp->Prop
abbrev St:=List (Option V)
abbrev VK:=V->Hp->Prop
abbrev TE:=St->Hp->VK->Prop
abbrev TT:=St->Hp->(Bool->Hp->Prop)->Prop
abbrev TA:=St->Hp->(List V->Hp->Prop)->Prop
structure Ends where
 nx:St->Hp->Prop
 rt:VK
 bk:St->Hp->Prop:=fun _ _=>False
 ct:St->Hp->Prop:=fun _ _=>False
abbrev TS:=Ends->St->Hp->Prop
def EP(X:Cx)(pins:List (Addr×Obj))(σ : St)(Q:VK)(u:Value)(s':Shared):Prop := ∃v H',Inv X pins σ H' s'/\RelV v u/\Q v H'
def TP(X:Cx)(pins:List (Addr×Obj))(σ : St)(Q:Bool->Hp->Prop)(b:Bool)(s':Shared):Prop := ∃H',Inv X pins σ H' s'/\Q b H'
def AP(X:Cx)(pins:List (Addr×Obj))(σ : St)(Q:List V->Hp->Prop)(us:List Value)(s':Shared):Prop := ∃vs H',Inv X pins σ H' s'/\Vals vs us/\Q vs H'
def SP(X:Cx)(pins:List (Addr×Obj))(D:Ends)(f:Flow)(s':Shared):Prop :=
 match f with
 | .next=>∃ σ' H',Inv X pins σ' H' s'/\D.nx σ' H'
 | .brk=>∃ σ' H',Inv X pins σ' H' s'/\D.bk σ' H'
 | .cont=>∃ σ' H',Inv X pins σ' H' s'/\D.ct σ' H'
 | .ret u=>∃v σ' H',Inv X pins σ' H' s'/\RelV v u/\D.rt v H'
def PE(X:Cx)(e:Expr)(t:TE):Prop :=
 ∀(pins:List (Addr×Obj))(s:Shared)(σ : St)(H:Hp)(Q:VK),Inv X pins σ H s->t σ H Q->wpAny (model X.prog X.w) X.A (eval e X.env) (EP X pins σ Q) X.xe s
def PT(X:Cx)(e:Expr)(t:TT):Prop :=
 ∀(pins:List (Addr×Obj))(s:Shared)(σ : St)(H:Hp)(Q:Bool->Hp->Prop),Inv X pins σ H s->t σ H Q->wpAny (model X.prog X.w) X.A (isTrue e X.env (eval e X.env)) (TP X pins σ Q) X.xe s
def PW(X:Cx)(e:Expr)(t:TT):Prop :=
 ∀(whole:Sem Value)(pins:List (Addr×Obj))(s:Shared)(σ : St)(H:Hp)(Q:Bool->Hp->Prop),Inv X pins σ H s->t σ H Q->wpAny (model X.prog X.w) X.A (isTrue e X.env whole) (TP X pins σ Q) X.xe s
theorem PW.pt{X:Cx}{e:Expr}{t:TT}(h:PW X e t):PT X e t:=h _
def PA(X:Cx)(es:List Expr)(t:TA):Prop :=
 ∀(pos:Pos)(pins:List (Addr×Obj))(s:Shared)(σ : St)(H:Hp)(Q:List V->Hp->Prop),Inv X pins σ H s->t σ H Q->wpAny (model X.prog X.w) X.A (spliced (backTo pos (starEach es X.env))) (AP X pins σ Q) X.xe s
def PS(X:Cx)(st:Stmt)(t:TS):Prop :=
 ∀(pins:List (Addr×Obj))(s:Shared)(σ : St)(H:Hp)(D:Ends),Inv X pins σ H s->t D σ H->wpAny (model X.prog X.w) X.A (exec st X.env) (SP X pins D) X.xe s
def PSs(X:Cx)(st:List Stmt)(t:TS):Prop :=
 ∀(pins:List (Addr×Obj))(s:Shared)(σ : St)(H:Hp)(D:Ends),Inv X pins σ H s->t D σ H->wpAny (model X.prog X.w) X.A (execs st X.env) (SP X pins D) X.xe s
theorem thn{α : Type}{t:Sem α}{Q Q' : α -> Shared->Prop}{M:Model}{A:Around}{E:Value->Shared->Prop}{s:Shared}(h:wpAny M A t Q E s)(hQ:∀a s,Q a s->Q' a s):wpAny M A t Q' E s:=wpAny_mono h hQ fun _ _ x=>x
section
variable{X:Cx}
def Zjm(i:Nat):TE:=fun σ H Q=>∃v,σ[i]?= some (some v)/\Q v H
def tC(v:V):TE:=fun _ H Q=>Q v H
theorem Znq{i:Nat}{x:Str}{pos:Pos}(hN:X.N[i]?= some x)(hv:Vis X.env.scope x)(hd:(x == ("__debug__" : Str))=false:=by decide) (hcd:(x == ("__classdict__" : Str))=false:=by decide):PE X (.Name x pos) (Zjm i):=by
 intro pins s σ H Q I h;obtain⟨v,e,h⟩:=h;obtain⟨m,hn,hl⟩:=I.loc;obtain⟨u,r,l⟩:=hl i x v hN e hv;have fin:EP X pins σ Q u s:=⟨v,H,I,r,h⟩;rcases l with⟨hk,hm⟩|⟨hk,c,hc,hcell⟩
 ·exact wpAny_Name (wpAny_loadName_local I.ok.kind hk hn hm fin) hd
 ·rcases hk with hk|hk
  ·exact wpAny_Name (wpAny_loadName_cell I.ok.kind hk hc hcell fin) hd
  ·exact wpAny_Name (wpAny_loadName_free I.ok.kind hk hc hcell fin hcd) hd
theorem Zg{i j pos}:PE X (.Constant (.int i) j pos) (tC (.int i)):=fun _ _ _ H _ I h=>wpAny_Constant_int ⟨.int i,H,I.tok _,⟨_,rfl⟩,h⟩
theorem ZdD{b j pos}:PE X (.Constant (.bool b) j pos) (tC (.bl b)):=fun _ _ _ H _ I h=>Constant_bool ⟨.bl b,H,I,rfl,h⟩
theorem ZlF{j pos}:PE X (.Constant .none j pos) (tC .non):=fun _ _ _ H _ I h=>Constant_none ⟨.non,H,I,rfl,h⟩
theorem Zo{x j pos}:PE X (.Constant (.str x) j pos) (tC (.str x)):=fun _ _ _ H _ I h=>Calls.Constant_str ⟨.str x,H,I.tok _,⟨_,rfl⟩,h⟩
def Gl(X:Cx)(x:Str):Prop:=X.env.kindOf x=some .globalImplicit
theorem ZcF{E:Value->Shared->Prop}{pins:List (Addr×Obj)}{s:Shared}{σ : St}{H:Hp}{x:Str}{u:Value}{pos:Pos}{Q:Value->Shared->Prop}(I:Inv X pins σ H s)(hg:Gl X x)(hm:X.mg x=some u)(h:Q u s)
  (hd:(x == ("__debug__" : Str))=false:=by decide):wpAny (model X.prog X.w) X.A (eval (.Name x pos) X.env) Q E s :=
 Calls.Name_function_global I.ok.kind hg (Calls.loadGlobal_global (by rw[I.ok.glob];exact I.mod.glob.keeps I.bk) hm h) hd
theorem Zfz{E:Value->Shared->Prop}{pins:List (Addr×Obj)}{s:Shared}{σ : St}{H:Hp}{x:Str}{u:Value}{pos:Pos}{Q:Value->Shared->Prop}(I:Inv X pins σ H s)(hg:Gl X x)(hm:X.mg x=none)(hv:bootBuiltins x=some u)(h:Q u s)
  (hn:x ≠ "__name__" := by decide) (hd:(x == ("__debug__" : Str))=false:=by decide):wpAny (model X.prog X.w) X.A (eval (.Name x pos) X.env) Q E s:=by
 obtain⟨mb,h1,h2⟩:=I.mod.blt;exact Calls.Name_function_global I.ok.kind hg (Calls.loadGlobal_builtin (by rw[I.ok.glob];exact I.mod.glob.keeps I.bk) hm (by rw[I.ok.blt];exact h1.keeps I.bk) ((h2 x hn).trans hv) h) hd
theorem ZaA{x:Str}{v:V}{u:Value}{pos:Pos}(hg:Gl X x)(hm:X.mg x=some u)(r:RelV v u)(hd:(x == ("__debug__" : Str))=false:=by decide):PE X (.Name x pos) (tC v) :=
 fun _ _ _ H _ I h=>ZcF I hg hm ⟨v,H,I,r,h⟩ hd
theorem Zmr{x:Str}{v:V}{u:Value}{pos:Pos}(hg:Gl X x)(hm:X.mg x=none)(hv:bootBuiltins x=some u)(r:RelV v u)(hn:x ≠ "__name__" := by decide) (hd:(x == ("__debug__" : Str))=false:=by decide):PE X (.Name x pos) (tC v) :=
 fun _ _ _ H _ I h=>Zfz I hg hm hv ⟨v,H,I,r,h⟩ hn hd
variable{a b:Expr}{ta tb:TE}{pos:Pos}
def PC(X:Cx)(op:CmpOp)(a b:Expr)(t:TE):Prop :=
 ∀(pins:List (Addr×Obj))(s:Shared)(σ : St)(H:Hp)(Q:VK),Inv X pins σ H s->t σ H Q ->
  wpAny (model X.prog X.w) X.A (eval a X.env) (fun v s₁=>wpAny (model X.prog X.w) X.A (eval b X.env) (fun u s₂=>wpAny (model X.prog X.w) X.A (compareOp op v u) (EP X pins σ Q) X.xe s₂) X.xe s₁) X.xe s
def tB(t:TE):TT:=fun σ H Q=>t σ H fun x H1=>∃c,x=.bl c/\Q c H1
theorem ZjB{op:CmpOp}{t:TE}(h:PC X op a b t)(h1:behindInMarks op b=false:=by first|exact nobehind _ (by decide) (by decide)|rfl):PT X (.Compare a [op] [b] pos) (tB t):=by
 intro pins s σ H Q I hw;refine wpAny_isTrue_Compare1 (thn (h pins s σ H _ I hw) fun v s1 h1=>thn h1 fun u s2 h2=>thn h2 fun c s3 ⟨x,H1,I1,r1,q1⟩=>?_) h1;obtain⟨d,rfl,q⟩:=q1;cases r1;exact wpAny_truthy_bool ⟨H1,I1,q⟩
variable{tA tB':TT}{rest:List Expr}
def Zo7(t u:TT):TT:=fun σ H Q=>t σ H fun c H1=>if c=true then u σ H1 Q else Q false H1
def tOr(t u:TT):TT:=fun σ H Q=>t σ H fun c H1=>if c=true then Q true H1 else u σ H1 Q
def Zpd(t:TT):TT:=fun σ H Q=>t σ H fun c H1=>Q (!c) H1
theorem ZdL(ha:PT X a tA):PW X (.BoolOp .And [a] pos) tA:=by
 intro wh pins s σ H Q I h;refine isTrue_and (thn (ha pins s σ H Q I h) fun c s1 e=>?_);cases c with
 | true=>exact isTrue_and_nil e
 | false=>exact e
theorem Zhj(ha:PT X a tA):PW X (.BoolOp .Or [a] pos) tA:=by
 intro wh pins s σ H Q I h;refine isTrue_or (thn (ha pins s σ H Q I h) fun c s1 e=>?_);cases c with
 | false=>exact isTrue_or_nil e
 | true=>exact e
theorem Zf7(ha:PT X a tA)(hb:PW X (.BoolOp .And (b::rest) pos) tB'):PW X (.BoolOp .And (a::b::rest) pos) (Zo7 tA tB'):=by
 intro wh pins s σ H Q I h;refine isTrue_and (thn (ha pins s σ H _ I h) fun c s1 ⟨H1,I1,q1⟩=>?_);cases c with
 | true=>exact hb wh pins s1 σ H1 Q I1 q1
 | false=>exact⟨H1,I1,q1⟩
theorem Zk5(ha:PT X a tA)(hb:PW X (.BoolOp .Or (b::rest) pos) tB'):PW X (.BoolOp .Or (a::b::rest) pos) (tOr tA tB'):=by
 intro wh pins s σ H Q I h;refine isTrue_or (thn (ha pins s σ H _ I h) fun c s1 ⟨H1,I1,q1⟩=>?_);cases c with
 | true=>exact⟨H1,I1,q1⟩
 | false=>exact hb wh pins s1 σ H1 Q I1 q1
theorem Zb4(ha:PT X a tA):PT X (.UnaryOp .Not a pos) (Zpd tA):=by
 intro pins s σ H Q I h;exact isTrue_not (ha pins s σ H (fun c H1=>Q (!c) H1) I h)
def Zoh(ta tb:TE):TE:=fun σ H Q=>ta σ H fun x H1=>∃c,x=.bl c/\if c=true then tb σ H1 Q else Q (.bl false) H1
theorem ZiV{op}{t:TE}(h:PE X a t):PE X (.BoolOp op [a] pos) t:=fun pins s σ H Q I hw=>BoolOp_one (h pins s σ H Q I hw)
theorem Zjj(ha:PE X a ta)(hb:PE X (.BoolOp .And (b::rest) pos) tb):PE X (.BoolOp .And (a::b::rest) pos) (Zoh ta tb):=by
 intro pins s σ H Q I h;refine BoolOp_and (thn (ha pins s σ H _ I h) fun v s1 ⟨x,H1,I1,r1,q1⟩=>?_);obtain⟨c,rfl,q1⟩:=q1;cases r1;refine wpAny_truthy_bool ?_;cases c with
 | true=>exact hb pins s1 σ H1 Q I1 q1
 | false=>exact⟨.bl false,H1,I1,rfl,q1⟩
def tIf(t:TT)(ta tb:TE):TE:=fun σ H Q=>t σ H fun c H1=>if c=true then ta σ H1 Q else tb σ H1 Q
theorem Zdb{c:Expr}(hc:PT X c tA)(ha:PE X a ta)(hb:PE X b tb):PE X (.IfExp c a b pos) (tIf tA ta tb):=by
 intro pins s σ H Q I h;refine wpAny_IfExp (thn (hc pins s σ H _ I h) fun d s1 ⟨H1,I1,q1⟩=>?_);cases d with
 | true=>exact ha pins s1 σ H1 Q I1 q1
 | false=>exact hb pins s1 σ H1 Q I1 q1
end
def SqL(K:PySem.W.Frag)(H:Hp)(a:Addr)(xs:List V):Prop :=
 Rd H a (.lst xs) \/
  ∃(o:Obj)(its:Array Value)(n:Nat),K.lookup a=some o/\o.cls=.type "list" /\ o.dict=none/\o.data=.seq its n/\its.size<=sizeLine/\Vals xs its.toList
def SqT(K:PySem.W.Frag)(H:Hp)(a:Addr)(xs:List V):Prop :=
 Rd H a (.tup xs) \/
  ∃(o:Obj)(its:Array Value)(n:Nat),K.lookup a=some o/\o.cls=.type "tuple" /\ o.data=.seq its n/\its.size<=sizeLine/\Vals xs its.toList
def Zpc:Value->Option V
 | .none=>some .non
 | .bool b=>some (.bl b)
 | .int i _=>some (.int i)
 | .str x _=>some (.str x)
 | .bytes b _=>some (.byt b)
 | .float b _=>some (.flt b)
 | .ref a=>some (.ref a)
 | .type n=>some (.ty n)
 | _=>none
theorem RelV.abs{x:V}{u:Value}(r:RelV x u):Zpc u=some x:=by
 cases x with
 | non=>cases r;rfl
 | bl _=>cases r;rfl
 | int _=>obtain⟨t,rfl⟩:=r;rfl
 | str _=>obtain⟨t,rfl⟩:=r;rfl
 | byt _=>obtain⟨t,rfl⟩:=r;rfl
 | flt _=>obtain⟨t,rfl⟩:=r;rfl
 | ref _=>cases r;rfl
 | ty _=>cases r;rfl
theorem RelV.inj{x y:V}{u:Value}(r:RelV x u)(q:RelV y u):x=y:=Option.some.inj (r.abs.symm.trans q.abs)
theorem Vals.inj:∀{xs ys:List V}{us:List Value},Vals xs us->Vals ys us->xs=ys
 | _,_,_,.nil,.nil=>rfl
 | _,_,_,.cons r t,.cons r' t'=>by rw[r.inj r',Vals.inj t t']
section
variable{X:Cx}{pins:List (Addr×Obj)}{σ : St}{H:Hp}{s:Shared}{a:Addr}{xs ys:List V}
theorem SqL.of{K:PySem.W.Frag}(h:H a=some (.lst xs)):SqL K H a xs:=.inl (.inl h)
theorem SqT.of{K:PySem.W.Frag}(h:H a=some (.tup xs)):SqT K H a xs:=.inl (.inl h)
theorem Inv.list(I:Inv X pins σ H s)(h:SqL X.K H a xs):∃its:List Value,Vals xs its/\PlainL s.heap a its.toArray/\xs.length<=sizeLine:=by
 rcases h with h|⟨o,its,n,hk,hc,hd,hs,hz,r⟩
 ·obtain⟨z,its,n,r,e⟩:=h.ok I.hok;exact⟨its,r,⟨_,n,e,rfl,rfl,rfl⟩,z⟩
 ·refine⟨its.toList,r,⟨o,n,I.kIn a o hk,hc,hd,by simpa using hs⟩,?_⟩;have e:=r.length;simp only[Array.length_toList] at e;lia
theorem Inv.tuple(I:Inv X pins σ H s)(h:SqT X.K H a xs):∃its:List Value,Vals xs its/\IsTup s.heap a its.toArray/\xs.length<=sizeLine:=by
 rcases h with h|⟨o,its,n,hk,hc,hs,hz,r⟩
 ·obtain⟨z,its,r,p⟩:=h.ok I.hok;exact⟨its,r,p,z⟩
 ·refine⟨its.toList,r,⟨o,I.kIn a o hk,hc,n,by simpa using hs⟩,?_⟩;have e:=r.length;simp only[Array.length_toList] at e;lia
theorem Inv.list_inj(I:Inv X pins σ H s)(h:SqL X.K H a xs)(h':SqL X.K H a ys):xs=ys:=by
 obtain⟨its,r,⟨o,n,e,_,_,d⟩,_⟩:=I.list h;obtain⟨its',r',⟨o',n',e',_,_,d'⟩,_⟩:=I.list h';rw[e] at e';cases e';rw[d] at d';injection d' with d1 _;have:its=its':=by simpa using congrArg Array.toList d1
 subst this;exact r.inj r'
theorem Inv.tuple_inj(I:Inv X pins σ H s)(h:SqT X.K H a xs)(h':SqT X.K H a ys):xs=ys:=by
 obtain⟨its,r,⟨o,e,_,n,d⟩,_⟩:=I.tuple h;obtain⟨its',r',⟨o',e',_,n',d'⟩,_⟩:=I.tuple h';rw[e] at e';cases e';rw[d] at d';injection d' with d1 _;have:its=its':=by simpa using congrArg Array.toList d1
 subst this;exact r.inj r'
end
abbrev Cx.wish(X:Cx)(E:Value->Shared->Prop):Cx:={ X with xe:=E }
abbrev Cx.nox(X:Cx):Cx:=X.wish fun _ _=>False
theorem Cx.Ok.wish{X:Cx}(ok:X.Ok)(E:Value->Shared->Prop):(X.wish E).Ok :=
 ⟨ok.mod,ok.kind,ok.glob,ok.blt,ok.above,ok.inj,ok.has,ok.cab,ok.hd,ok.frames,ok.stk,ok.exf,ok.bs,ok.bsz,ok.noex,ok.exfs,ok.funs,ok.frf⟩
theorem Cx.Ok.unwish{X:Cx}{E:Value->Shared->Prop}(ok:(X.wish E).Ok):X.Ok :=
 ⟨ok.mod,ok.kind,ok.glob,ok.blt,ok.above,ok.inj,ok.has,ok.cab,ok.hd,ok.frames,ok.stk,ok.exf,ok.bs,ok.bsz,ok.noex,ok.exfs,ok.funs,ok.frf⟩
section
variable{X:Cx}{pins:List (Addr×Obj)}{σ : St}{H:Hp}{s:Shared}{E:Value->Shared->Prop}
theorem Inv.wish(I:Inv X pins σ H s)(E:Value->Shared->Prop):Inv (X.wish E) pins σ H s:=⟨I.ok.wish E,I.os,I.bare,I.base,I.loc,I.cell,I.free,I.freeC,I.pin,I.hok,I.len⟩
theorem Inv.unwish(I:Inv (X.wish E) pins σ H s):Inv X pins σ H s:=⟨I.ok.unwish,I.os,I.bare,I.base,I.loc,I.cell,I.free,I.freeC,I.pin,I.hok,I.len⟩
theorem SP.unwish{D:Ends}{f:Flow}{s':Shared}(h:SP (X.wish E) pins D f s'):SP X pins D f s':=by
 cases f with
 | next=>obtain⟨σ',H',I,q⟩:=h;exact⟨σ',H',I.unwish,q⟩
 | brk=>obtain⟨σ',H',I,q⟩:=h;exact⟨σ',H',I.unwish,q⟩
 | cont=>obtain⟨σ',H',I,q⟩:=h;exact⟨σ',H',I.unwish,q⟩
 | ret u=>obtain⟨v,σ',H',I,r,q⟩:=h;exact⟨v,σ',H',I.unwish,r,q⟩
theorem PSs.nox{st:List Stmt}{t:TS}(h:PSs X.nox st t):PSs X st t:=fun pins s σ H D I hw =>
 wpAny_mono (h pins s σ H D (I.wish _) hw) (fun _ _ q=>q.unwish) fun _ _ z=>False.elim z
end
section
variable{X:Cx}{st:Stmt}{rest:List Stmt}{t u:TS}{e:Expr}{te:TE}{pos:Pos}
def Zoz:TS:=fun D σ H=>D.nx σ H
def Zoc(t u:TS):TS:=fun D σ H=>t { D with nx:=u D } σ H
theorem Zx:PSs X [] Zoz:=fun _ _ σ H _ I h=>wpAny_execs_nil ⟨σ,H,I,h⟩
theorem Zh(h1:PS X st t)(h2:PSs X rest u):PSs X (st::rest) (Zoc t u):=by
 intro pins s σ H D I h;refine wpAny_execs_cons (thn (h1 pins s σ H { D with nx:=u D } I h) fun f s1 q=>?_);cases f with
 | next =>
  obtain⟨σ',H',I',q⟩:=q;exact h2 pins s1 σ' H' D I' q
 | ret v=>exact q
 | brk=>exact q
 | cont=>exact q
theorem Zi(h1:PS X st t):PSs X [st] t:=by
 intro pins s σ H D I h;refine wpAny_execs_cons (thn (h1 pins s σ H D I h) fun f s1 q=>?_);cases f with
 | next=>exact wpAny_execs_nil q
 | ret v=>exact q
 | brk=>exact q
 | cont=>exact q
theorem Inv.quiet{pins:List (Addr×Obj)}{σ : St}{H:Hp}{s:Shared}(I:Inv X pins σ H s):interactive X.env=false:=by simp[interactive,I.ok.kind]
def Zow(te:TE):TS:=fun D σ H=>te σ H fun _ H1=>D.nx σ H1
theorem Zaw(he:PE X e te)(hs:swapsWith e none pos.line X.env=pure false:=by rfl):PS X (.Expr e pos) (Zow te):=by
 intro pins s σ H D I h;exact wpAny_Expr_any (thn (he pins s σ H _ I h) fun v s1 ⟨x,H1,I1,r1,q1⟩=>⟨σ,H1,I1,q1⟩) I.quiet hs
def ZnO(te:TE):TS:=fun D σ H=>te σ H D.rt
theorem ZL(he:PE X e te):PS X (.Return (some e) pos) (ZnO te):=by
 intro pins s σ H D I h;exact wpAny_Return_some (thn (he pins s σ H _ I h) fun v s1 ⟨x,H1,I1,r1,q1⟩=>⟨x,σ,H1,I1,r1,q1⟩)
def Zo4(c:TT)(t u:TS):TS:=fun D σ H=>c σ H fun b H1=>if b=true then t D σ H1 else u D σ H1
theorem Zad{c:Expr}{a b:List Stmt}{tc:TT}(hc:PT X c tc)(ha:PSs X a t)(hb:PSs X b u):PS X (.If c a b pos) (Zo4 tc t u):=by
 intro pins s σ H D I h;refine wpAny_If (thn (hc pins s σ H _ I h) fun d s1 ⟨H1,I1,q1⟩=>?_);cases d with
 | true=>exact ha pins s1 σ H1 D I1 q1
 | false=>exact hb pins s1 σ H1 D I1 q1
end
abbrev TG:=V->St->Hp->(St->Hp->Prop)->Prop
abbrev TGs:=List V->St->Hp->(St->Hp->Prop)->Prop
def PG(X:Cx)(target:Expr)(t:TG):Prop :=
 ∀(pins:List (Addr×Obj))(s:Shared)(σ : St)(H:Hp)(v:V)(u:Value)(Q:St->Hp->Prop),Inv X pins σ H s->RelV v u->t v σ H Q ->
  wpAny (model X.prog X.w) X.A (assign target X.env u) (fun _ s'=>∃ σ' H',Inv X pins σ' H' s'/\Q σ' H') X.xe s
def PGs(X:Cx)(ts:List Expr)(t:TGs):Prop :=
 ∀(pins:List (Addr×Obj))(s:Shared)(σ : St)(H:Hp)(vs:List V)(us:List Value)(Q:St->Hp->Prop),Inv X pins σ H s->Vals vs us->t vs σ H Q ->
  wpAny (model X.prog X.w) X.A (assignInOrder ((assignEach ts X.env).map (·.2)) us) (fun _ s'=>∃ σ' H',Inv X pins σ' H' s'/\Q σ' H') X.xe s
abbrev Zoq:=V->V->V->Hp->(Hp->Prop)->Prop
def ZoU(X:Cx)(t:Zoq):Prop :=
 ∀(pins:List (Addr×Obj))(s:Shared)(σ : St)(H:Hp)(o i v:V)(ov iv u:Value)(Q:Hp->Prop),Inv X pins σ H s->RelV o ov->RelV i iv->RelV v u->t o i v H Q ->
  wpAny (model X.prog X.w) X.A (setItem ov iv u) (fun _ s'=>∃H',Inv X pins σ H' s'/\Q H') X.xe s
section
variable{X:Cx}{pos:Pos}
def ZiE(i:Nat):TG:=fun v σ H Q=>Q (σ.set i (some v)) H
theorem ZV{i:Nat}{x:Str}(hN:X.N.Nodup)(hi:X.N[i]?= some x)(hx:Loc X.env.scope x)(hf:X.fn x=true\/X.env.scope.names.lookup x=some .local:=by first|exact .inl rfl|exact .inr rfl|assumption):PG X (.Name x pos) (ZiE i):=by
 intro pins s σ H v u Q I r h;exact wpAny_assign_Name (Zfq I hN hi hx r (fun s' I'=>⟨_,H,I',h⟩) hf)
def Zo6:TGs:=fun vs σ H Q=>vs=[]/\Q σ H
def ZoE(t:TG)(u:TGs):TGs:=fun vs σ H Q=>∃v r,vs=v::r/\t v σ H fun σ' H'=>u r σ' H' Q
theorem Zb0:PGs X [] Zo6:=by
 intro pins s σ H vs us Q I r h;obtain⟨e,h⟩:=h;subst e;cases r;exact assignInOrder_nil ⟨σ,H,I,h⟩
theorem Zar{e:Expr}{es:List Expr}{t:TG}{u:TGs}(h1:PG X e t)(h2:PGs X es u)
  (hs:(assignEach (e::es) X.env).map (·.2)=assign e X.env::(assignEach es X.env).map (·.2):=by rfl):PGs X (e::es) (ZoE t u):=by
 intro pins s σ H vs us Q I r h;obtain⟨v,vr,e1,h⟩:=h;subst e1;cases r with
 | cons r rr =>
  rw[hs];refine assignInOrder_cons (thn (h1 pins s σ H _ _ _ I r h) fun _ s1 ⟨σ1,H1,I1,q1⟩=>?_);exact h2 pins s1 σ1 H1 _ _ Q I1 rr q1
def ZoT(K:PySem.W.Frag)(n:Nat)(t:TGs):TG:=fun v σ H Q=>∃a xs,v=.ref a/\SqT K H a xs/\xs.length=n/\t xs σ H Q
theorem ZdW{es:List Expr}{k:Nat}{t:TGs}{n:Nat}(hc:X.calm=true)(h:PGs X es t)
  (hn:(assignEach es X.env).length=n:=by rfl) (hst:(assignEach es X.env).findIdx? (·.1)=none:=by rfl):PG X (.Tuple es k pos) (ZoT X.K n t):=by
 intro pins s σ H v u Q I r hw;obtain⟨a,xs,e1,hq,hl,hw⟩:=hw;subst e1;cases r;obtain⟨its,rv,ht,hz⟩:=I.tuple hq;refine assign_Tuple_tuple (I.ok.hd hc) ht (by simp[hn,<- hl,rv.length]) hst fun h' hx=>?_;have I1:Inv X pins σ H { s with heap:=h' }:=I.kept (t':=s.toks) fun b o e=>hx b o (Nat.ne_of_lt (Heap.lt_size e)) e;exact h pins _ σ H xs _ Q I1 (by simpa using rv) hw
def Zpg(to ti:TE)(t:Zoq):TG:=fun v σ H Q=>to σ H fun o H1=>ti σ H1 fun i H2=>t o i v H2 fun H3=>Q σ H3
theorem Zns{o i:Expr}{to ti:TE}{t:Zoq}(ho:PE X o to)(hi:PE X i ti)(hs:ZoU X t)
  (ha:∀v,assign (.Subscript o i pos) X.env v=(do
   let ov <- holding [v] (eval o X.env)
   let iv <- holding [v,ov] (eval i X.env)
   standAt pos
   holding [v,ov,iv] (setItem ov iv v)
   release [v,ov,iv] []):=by intro _;rfl):PG X (.Subscript o i pos) (Zpg to ti t):=by
 intro pins s σ H v u Q I r h;rw[ha];refine wpAny_bind (wpAny_holding (thn (ho pins s σ H _ I h) fun ov s1 ⟨x,H1,I1,r1,q1⟩=>?_));refine wpAny_bind (wpAny_holding (thn (hi pins s1 σ H1 _ I1 q1) fun iv s2 ⟨y,H2,I2,r2,q2⟩=>?_));refine wpAny_bind (wpAny_standAt (wpAny_bind (wpAny_holding (thn (hs pins s2 σ H2 x y v ov iv u _ I2 r1 r2 r q2) fun _ s3 ⟨H3,I3,q3⟩=>?_))));exact wpAny_release ⟨σ,H3,I3,q3⟩
def Zn8(te:TE)(g:TG):TS:=fun D σ H=>te σ H fun x H1=>g x σ H1 D.nx
theorem Zjl{tg e:Expr}{te:TE}{g:TG}(he:PE X e te)(hg:PG X tg g)(hs:swapsWithSole [tg] e pos.line X.env=pure false:=by rfl)(hw:swappedStores [tg] e X.env=pure none:=by rfl)
  (h1:(assignEach [tg] X.env).map (·.2)=[assign tg X.env]:=by rfl):PS X (.Assign [tg] e pos) (Zn8 te g):=by
 intro pins s σ H D I h;refine wpAny_Assign_stores (thn (he pins s σ H _ I h) fun v s1 ⟨x,H1,I1,r1,q1⟩=>?_) hs hw;rw[h1];exact thn (hg pins s1 σ H1 x v _ I1 r1 q1) fun _ s2 q=>q
theorem ZD{i:Nat}{x:Str}{e:Expr}{te:TE}{pos':Pos}(hN:X.N.Nodup)(hi:X.N[i]?= some x)(hx:Loc X.env.scope x)(he:PE X e te)(hs:swapsWith e (some (.Name x pos')) pos.line X.env=pure false:=by rfl)(hf:X.fn x=true\/X.env.scope.names.lookup x=some .local:=by first|exact .inl rfl|exact .inr rfl|assumption) :
  PS X (.Assign [.Name x pos'] e pos) (Zn8 te (ZiE i)):=by
 intro pins s σ H D I h;refine wpAny_Assign_Name (thn (he pins s σ H _ I h) fun v s1 ⟨y,H1,I1,r1,q1⟩=>?_) hs;exact Zfq I1 hN hi hx r1 (fun s2 I2=>⟨_,H1,I2,q1⟩) hf
def Zm5(c:TT)(tb:TS):TS:=fun D σ H=>∃W:Nat->St->Hp->Prop,(∃m,W m σ H)/\∀m σ H,W m σ H ->
 c σ H fun b H1=>if b=true then ∃N:St->Hp->Prop,(∀ σ' H',N σ' H'->∃m',m'<m/\W m' σ' H')/\tb { D with nx:=N,ct:=N,bk:=D.nx } σ H1 else D.nx σ H1
theorem ZbL{c:Expr}{body:List Stmt}{tc:TT}{tb:TS}(hp:PassesOwn (model X.prog X.w) X.A X.env X.xe)(hc:PT X c tc)(hb:PSs X body tb):PS X (.While c body [] pos) (Zm5 tc tb):=by
 intro pins s σ H D I h;obtain⟨W,⟨m0,w0⟩,turn⟩:=h;refine wpAny_While (codeAny_whileLoop (fun n s'=>∃ σ' H',Inv X pins σ' H' s'/\W n σ' H') ?_ m0 ⟨σ,H,I,w0⟩);rintro n s1 ⟨σ1,H1,I1,w1⟩;refine wpAny_passesOwn hp (thn (hc pins s1 σ1 H1 _ I1 (turn n σ1 H1 w1)) fun b s2 ⟨H2,I2,q2⟩=>?_);cases b with
 | true =>
  obtain⟨N,hN,q2⟩:=q2;rw[if_pos rfl];refine wpAny_passesOwn hp (thn (hb pins s2 σ1 H2 _ I2 q2) fun f s3 q3=>?_);cases f with
  | next =>
   obtain⟨σ3,H3,I3,n3⟩:=q3;obtain⟨m',hm,w3⟩:=hN σ3 H3 n3;exact⟨m',hm,σ3,H3,I3,w3⟩
  | cont =>
   obtain⟨σ3,H3,I3,n3⟩:=q3;obtain⟨m',hm,w3⟩:=hN σ3 H3 n3;exact⟨m',hm,σ3,H3,I3,w3⟩
  | brk=>exact q3
  | ret v=>exact q3
 | false =>
  rw[if_neg Bool.false_ne_true];exact wpAny_execs_nil ⟨σ1,H2,I2,q2⟩
end
structure It where
 go:Nat->Hp->Prop
 yld:Nat->Hp->V->Hp->Prop
 stop:Nat->Hp->Prop
def ZcQ(X:Cx)(pins:List (Addr×Obj))(H:Hp)(b:Addr):Prop :=
 H b=none/\b≠X.env.locals/\b∉X.fs/\(b∈X.ex\/X.s₀.heap.objs.size<=b)/\(∀x c,X.env.cells.lookup x=some c->c≠b)/\∀p∈X.pn++pins,p.1≠b
theorem Inv.fpOk{X:Cx}{pins:List (Addr×Obj)}{σ : St}{H H':Hp}{s:Shared}{b:Addr}(I:Inv X pins σ H s)(hb:s.heap.objs.size<=b)(hn:H' b=none):ZcQ X pins H' b:=by
 refine⟨hn,Nat.ne_of_gt (Nat.lt_of_lt_of_le I.lt hb),I.nofs hb,.inr (Nat.le_trans I.sz hb),fun x c e z=>?_,fun p hp z=>?_⟩
 ·obtain⟨v,q⟩:=I.cell x c e;exact absurd (Nat.lt_of_lt_of_le q.lt (by rw[z];exact hb)) (Nat.lt_irrefl _)
 ·exact absurd (Nat.lt_of_lt_of_le (Heap.lt_size (I.pin p hp).1) (by rw[z];exact hb)) (Nat.lt_irrefl _)
structure Turn(P:Program)(w:World)(K:PySem.W.Frag)(tg:Expr)(J:It)(fp:List Addr)(it:Addr)(tn:Nat->Heap->Prop):Prop where
 mem:it∈fp
 obj:∀i h,tn i h->∀b∈fp,∃o,h.get? b=some o/\∀v,o.data ≠ .cell v
 keep:∀i h h',tn i h->(∀b∈fp,∀o,h.get? b=some o->h'.get? b=some o)->tn i h'
 item:∀(X:Cx),X.prog=P->X.w=w->X.K=K->X.calm=true->∀(i:Nat)(pins:List (Addr×Obj))(s:Shared)(σ : St)(H:Hp)(E:Value->Shared->Prop),Inv X pins σ H s->(∀b∈fp,ZcQ X pins H b)->tn i s.heap->J.go i H ->
  wpAny (model P w) X.A (pyNext (.ref it)) (fun r s1=>∃u,r=some u /\
   wpAny (model P w) X.A (letOwnedTupleGo tg (.ref it) u) (fun _ s2=>∃x H',Inv X pins σ H' s2/\RelV x u/\J.yld i H x H'/\tn (i+1) s2.heap/\∀b∈fp,H' b=none) E s1) E s
 done:∀(X:Cx),X.prog=P->X.w=w->X.K=K->X.calm=true->∀(i:Nat)(pins:List (Addr×Obj))(s:Shared)(σ : St)(H:Hp)(E:Value->Shared->Prop),Inv X pins σ H s->(∀b∈fp,ZcQ X pins H b)->tn i s.heap->J.stop i H ->
  wpAny (model P w) X.A (pyNext (.ref it)) (fun r s1=>r=none/\Inv X pins σ H s1) E s
 self:∀(A:Around)(i:Nat)(s:Shared)(Q:Value->Shared->Prop)(E:Value->Shared->Prop),tn i s.heap->Q (.ref it) s->wpAny (model P w) A (pyIter (.ref it)) Q E s
abbrev TI:=St->Hp->(It->Hp->Prop)->Prop
def PIE(X:Cx)(pins:List (Addr×Obj))(σ : St)(tg:Expr)(R:It->Hp->Prop)(itv:Value)(s2:Shared):Prop :=
 ∃(it:Addr)(fp:List Addr)(tn:Nat->Heap->Prop)(J:It)(H':Hp),itv=.ref it/\Inv X pins σ H' s2/\Turn X.prog X.w X.K tg J fp it tn/\tn 0 s2.heap/\(∀b∈fp,ZcQ X pins H' b)/\R J H'
def PI(X:Cx)(tg iter:Expr)(wi:TI):Prop :=
 ∀(pins:List (Addr×Obj))(s:Shared)(σ : St)(H:Hp)(R:It->Hp->Prop),Inv X pins σ H s->wi σ H R ->
  wpAny (model X.prog X.w) X.A (eval iter X.env) (fun v s1=>wpAny (model X.prog X.w) X.A (pyIter v) (PIE X pins σ tg R) X.xe s1) X.xe s
theorem Zmq{M:Model}{A:Around}{E:Value->Shared->Prop}{s:Shared}{tg:Expr}{it:Addr}{u:Value}{o:Obj}{n:String}{vs:Array Value}{Q:Unit->Shared->Prop}(ho:s.heap.get? it=some o)(hc:o.cls=.type n)(hd:o.data=.fields vs)
    (hn:["enumerate","zip","dict_itemiterator","dict_reverseitemiterator","odict_iterator","itertools.zip_longest","itertools.pairwise"].contains n=false) (hQ:Q () s):wpAny M A (letOwnedTupleGo tg (.ref it) u) Q E s:=by
  unfold letOwnedTupleGo;cases tg <;> first
    | exact wpAny_pure hQ
    | (cases u <;> first
        | exact wpAny_pure hQ
        | (refine wpAny_bind (wpAny_load ho ?_)
           rw[hc,hd];show wpAny M A (if(["enumerate","zip","dict_itemiterator","dict_reverseitemiterator","odict_iterator","itertools.zip_longest","itertools.pairwise"].contains n&&vs[0]? == some (rawInt _))=true then _ else _) Q E s
           rw[if_neg (by intro h;rw[hn,Bool.false_and] at h;cases h)];exact wpAny_pure hQ))
def Itl(K:PySem.W.Frag)(a:Addr):It :=
 ⟨fun i H=>∃xs x,SqL K H a xs/\xs[i]?= some x,fun i H x H'=>H'=H/\∀xs,SqL K H a xs->xs[i]?= some x,fun i H=>∃xs,SqL K H a xs/\xs.length<=i⟩
def Itt(K:PySem.W.Frag)(a:Addr):It :=
 ⟨fun i H=>∃xs x,SqT K H a xs/\xs[i]?= some x,fun i H x H'=>H'=H/\∀xs,SqT K H a xs->xs[i]?= some x,fun i H=>∃xs,SqT K H a xs/\xs.length<=i⟩
def Itr(lo:Int)(n:Nat):It:=⟨fun i _=>i<n,fun i H x H'=>H'=H/\x=.int (lo+i),fun i _=>n<=i⟩
theorem Zj9{P:Program}{w:World}{K:PySem.W.Frag}{tg:Expr}(a it:Addr):Turn P w K tg (Itl K a) [it] it (fun i h=>h.IsListIter it a i) where
 mem:=by simp
 obj:=fun i h st b hb=>by
  have e:b=it:=by simpa using hb
  subst e;obtain⟨o,e,c,d⟩:=st;exact⟨o,e,fun v z=>by rw[d] at z;cases z⟩
 keep:=fun i h h' st k=>st.at fun o e=>k it (by simp) o e
 item:=by
  intro X hP hw hK hc i pins s σ H E I hf st hg;subst hP hw hK;obtain⟨xs,x,hq,hx⟩:=hg;obtain⟨its,rv,p,hz⟩:=I.list hq;obtain⟨u,hu,ru⟩:=rv.get hx;obtain⟨f0,f1,f2,f3,f4,f5⟩:=hf it (by simp);refine wpAny_pyNext_list_item st p.isList (x:=u) (by simpa using hu) fun h' st' sb=>?_;have I1:Inv X pins σ H { s with heap:=h' }:=I.turned (t':=s.toks) (fun b o hb e=>(sb.2 b hb).trans e) f0 f1 f3 f4 f5;obtain⟨o,e,c,d⟩:=id st';exact⟨u,rfl,Zmq (s:={ s with heap:=h' }) e c d (by decide) ⟨x,H,I1,ru,⟨rfl,fun ys hy=>by rw[I.list_inj hy hq];exact hx⟩,st',fun b hb=>(hf b hb).1⟩⟩
 done:=by
  intro X hP hw hK hc i pins s σ H E I hf st hg;subst hP hw hK;obtain⟨xs,hq,hx⟩:=hg;obtain⟨its,rv,p,hz⟩:=I.list hq;obtain⟨f0,f1,f2,f3,f4,f5⟩:=hf it (by simp);have hl:=rv.length;exact wpAny_pyNext_list_end (I.ok.hd hc) st p.isList (by simp;lia) fun h' eb=>⟨rfl,I.turned (t':=s.toks) (fun b o hb e=>eb b o hb e) f0 f1 f3 f4 f5⟩
 self:=fun _ _ _ _ _ st h=>wpAny_pyIter_listiter st h
theorem Zia{P:Program}{w:World}{K:PySem.W.Frag}{tg:Expr}(a it:Addr):Turn P w K tg (Itt K a) [it] it (fun i h=>h.IsTupleIter it a i) where
 mem:=by simp
 obj:=fun i h st b hb=>by
  have e:b=it:=by simpa using hb
  subst e;obtain⟨o,e,c,d⟩:=st;exact⟨o,e,fun v z=>by rw[d] at z;cases z⟩
 keep:=fun i h h' st k=>st.at fun o e=>k it (by simp) o e
 item:=by
  intro X hP hw hK hc i pins s σ H E I hf st hg;subst hP hw hK;obtain⟨xs,x,hq,hx⟩:=hg;obtain⟨its,rv,p,hz⟩:=I.tuple hq;obtain⟨u,hu,ru⟩:=rv.get hx;obtain⟨f0,f1,f2,f3,f4,f5⟩:=hf it (by simp);refine wpAny_pyNext_tuple_item st (show s.heap.IsTuple a its.toArray from p) (x:=u) (by simpa using hu) fun h' st' sb=>?_;have I1:Inv X pins σ H { s with heap:=h' }:=I.turned (t':=s.toks) (fun b o hb e=>(sb.2 b hb).trans e) f0 f1 f3 f4 f5;obtain⟨o,e,c,d⟩:=id st';exact⟨u,rfl,Zmq (s:={ s with heap:=h' }) e c d (by decide) ⟨x,H,I1,ru,⟨rfl,fun ys hy=>by rw[I.tuple_inj hy hq];exact hx⟩,st',fun b hb=>(hf b hb).1⟩⟩
 done:=by
  intro X hP hw hK hc i pins s σ H E I hf st hg;subst hP hw hK;obtain⟨xs,hq,hx⟩:=hg;obtain⟨its,rv,p,hz⟩:=I.tuple hq;obtain⟨f0,f1,f2,f3,f4,f5⟩:=hf it (by simp);have hl:=rv.length;exact wpAny_pyNext_tuple_end (I.ok.hd hc) st (show s.heap.IsTuple a its.toArray from p) (by simp;lia) fun h' eb=>⟨rfl,I.turned (t':=s.toks) (fun b o hb e=>eb b o hb e) f0 f1 f3 f4 f5⟩
 self:=fun _ _ _ _ _ st h=>wpAny_pyIter_tupleiter st h
theorem ZhS{P:Program}{w:World}{K:PySem.W.Frag}{tg:Expr}(it:Addr)(lo:Int)(n:Nat):Turn P w K tg (Itr lo n) [it] it (fun i h=>IsRangeIter h it (lo+(i:Nat)*1) ((n:Int)-(i:Nat)) 1) where
 mem:=by simp
 obj:=fun i h st b hb=>by
  have e:b=it:=by simpa using hb
  subst e;exact⟨_,st,fun v z=>by
   have z':Data.fields _=Data.cell v:=z;cases z'⟩
 keep:=fun i h h' st k=>k it (by simp) _ st
 item:=by
  intro X hP hw hK hc i pins s σ H E I hf st hg;subst hP hw hK;obtain⟨f0,f1,f2,f3,f4,f5⟩:=hf it (by simp);have W:=Walks.range (prog:=X.prog) (w:=X.w) (I.ok.hd hc) it lo 1 n;refine W.item i s _ _ hg st fun v h' tk hv st' kk=>?_;obtain⟨t,rfl⟩:=hv;have I1:Inv X pins σ H { s with heap:=h',toks:=tk }:=I.turned (fun b o hb e=>kk b o (by simpa using hb) e) f0 f1 f3 f4 f5;refine⟨_,rfl,Zmq (s:={ s with heap:=h',toks:=tk }) (n := "range_iterator") st' rfl rfl (by decide) ⟨.int (lo+i),H,I1,⟨t,?_⟩,⟨rfl,rfl⟩,st',fun b hb=>(hf b hb).1⟩⟩;rw[Int.mul_one]
 done:=by
  intro X hP hw hK hc i pins s σ H E I hf st hg;subst hP hw hK;obtain⟨f0,f1,f2,f3,f4,f5⟩:=hf it (by simp);exact wpAny_pyNext_range_end (I.ok.hd hc) st (by have:n<=i:=hg;lia) fun h' eb=>⟨rfl,I.turned (t':=s.toks) (fun b o hb e=>eb b o hb e) f0 f1 f3 f4 f5⟩
 self:=fun _ _ _ _ _ st h=>wpAny_pyIter_rangeiter st h
section
variable{X:Cx}{tg:Expr}
def ZlP(K:PySem.W.Frag)(tl:TE):TI:=fun σ H R=>tl σ H fun x H1=>∃a,x=.ref a/\(∃xs,SqL K H1 a xs)/\R (Itl K a) H1
def ZoR(K:PySem.W.Frag)(tl:TE):TI:=fun σ H R=>tl σ H fun x H1=>∃a,x=.ref a/\(∃xs,SqT K H1 a xs)/\R (Itt K a) H1
theorem Zb1{l:Expr}{tl:TE}(hl:PE X l tl):PI X tg l (ZlP X.K tl):=by
 intro pins s σ H R I h;refine thn (hl pins s σ H _ I h) fun v s1 ⟨x,H1,I1,r1,q1⟩=>?_;obtain⟨a,e,⟨xs,hq⟩,q⟩:=q1;subst e;cases r1;obtain⟨its,rv,p,hz⟩:=I1.list hq;refine wpAny_pyIter_list p.isList ?_;refine⟨s1.heap.objs.size,[s1.heap.objs.size],_,_,H1,rfl,I1.kept (t':=s1.toks) fun b o e=>Heap.get?_push_of_some _ e,Zj9 a _,⟨_,Heap.get?_push_size _ rfl,rfl,rfl⟩,fun b hb=>?_,q⟩;have e:b=s1.heap.objs.size:=by simpa using hb
 subst e;exact I1.fpOk (Nat.le_refl _) (I1.hok.fresh (Nat.le_refl _))
theorem Zdt{l:Expr}{tl:TE}(hl:PE X l tl):PI X tg l (ZoR X.K tl):=by
 intro pins s σ H R I h;refine thn (hl pins s σ H _ I h) fun v s1 ⟨x,H1,I1,r1,q1⟩=>?_;obtain⟨a,e,⟨xs,hq⟩,q⟩:=q1;subst e;cases r1;obtain⟨its,rv,p,hz⟩:=I1.tuple hq;refine wpAny_pyIter_tuple (show s1.heap.IsTuple a its.toArray from p) ?_;refine⟨s1.heap.objs.size,[s1.heap.objs.size],_,_,H1,rfl,I1.kept (t':=s1.toks) fun b o e=>Heap.get?_push_of_some _ e,Zia a _,⟨_,Heap.get?_push_size _ rfl,rfl,rfl⟩,fun b hb=>?_,q⟩;have e:b=s1.heap.objs.size:=by simpa using hb
 subst e;exact I1.fpOk (Nat.le_refl _) (I1.hok.fresh (Nat.le_refl _))
theorem ZkG{pins:List (Addr×Obj)}{σ : St}{H:Hp}{s:Shared}{R:It->Hp->Prop}{E:Value->Shared->Prop}{lo hi:Int}{t u v:Tok}{tk:Nat}(I:Inv X pins σ H s)(h1 : -(2 ^ 62)<=lo)(h2:lo<2 ^ 62)(h3 : -(2 ^ 62)<=hi)(h4:hi<2 ^ 62)
  (q:R (Itr lo (hi-lo).toNat) H):wpAny (model X.prog X.w) X.A (pyIter (.ref s.heap.objs.size)) (PIE X pins σ tg R) E { s with heap:=s.heap.push { cls:=.type "range",data:=.fields #[.int lo t,.int hi u,.int 1 v] },toks:=tk }:=by
 refine wpAny_pyIter_range (IsRange.new ..) (small_one h1 h2 h3 h4) ?_;have I1:Inv X pins σ H { s with heap:=s.heap.push { cls:=.type "range",data:=.fields #[.int lo t,.int hi u,.int 1 v] },toks:=tk }:=I.kept fun b o e=>Heap.get?_push_of_some _ e;refine⟨(s.heap.push { cls:=.type "range",data:=.fields #[.int lo t,.int hi u,.int 1 v] }).objs.size,[(s.heap.push { cls:=.type "range",data:=.fields #[.int lo t,.int hi u,.int 1 v] }).objs.size],_,_,H,rfl,
  I1.kept (t':=tk) fun b o e=>Heap.get?_push_of_some _ e,ZhS _ lo (hi-lo).toNat,?_,fun b hb=>?_,q⟩
 ·have e1:lo+((0:Nat):Int)*1=lo:=by simp
  have e2:(((hi-lo).toNat:Nat):Int)-((0:Nat):Int)=Builtin.Range.rangeSize lo hi 1:=by rw[rangeSize_one];split <;> lia
  show IsRangeIter _ _ (lo+((0:Nat):Int)*1) ((((hi-lo).toNat:Nat):Int)-((0:Nat):Int)) 1;rw[e1,e2];exact Heap.get?_push_size _ rfl
 ·have e:b=(s.heap.push { cls:=.type "range",data:=.fields #[.int lo t,.int hi u,.int 1 v] }).objs.size:=by simpa using hb
  subst e;exact I1.fpOk (Nat.le_refl _) (I1.hok.fresh (Nat.le_refl _))
def ZoN(ta:TA):TI:=fun σ H R=>ta σ H fun vs H1=>∃j:Int,vs=[.int j] /\ -(2 ^ 62)<=j/\j<2 ^ 62/\R (Itr 0 j.toNat) H1
theorem Zcb{a:Expr}{ta:TA}{p pos:Pos}(hg:Gl X "range") (hm:X.mg "range" = none) (ha:PA X [a] ta) (hs:starEach [a] X.env=[(false,eval a X.env)]:=by rfl):PI X tg (.Call (.Name "range" p) [a] [] pos) (ZoN ta):=by
 intro pins s σ H R I h;refine Call_ (Zfz I hg hm boot_range (PyProof.Rows.callWith_type1 (thn (ha pos pins s σ H _ I h) fun us s1 ⟨vs,H1,I1,r1,q1⟩=>?_) hs rfl));obtain⟨j,e,q1,q2,q⟩:=q1;subst e;cases r1 with
 | cons r rr =>
  cases rr;obtain⟨t,rfl⟩:=r;exact call_range_1 (ZkG I1 (by lia) (by lia) q1 q2 (by simpa using q))
def Zpk(wi:TI)(g:TG)(tb:TS):TS:=fun D σ H=>wi σ H fun J H1=>∃W:Nat->Nat->St->Hp->Prop,(∃m,W 0 m σ H1)/\∀i m σ H,W i m σ H ->
 (J.stop i H/\D.nx σ H)\/(J.go i H/\∃N:St->Hp->Prop,(∀ σ' H',N σ' H'->∃m',m'<m/\W (i+1) m' σ' H')/\∀x H',J.yld i H x H'->g x σ H' fun σ2 H2=>tb { D with nx:=N,ct:=N,bk:=D.nx } σ2 H2)
def ZhM(fp:List Addr)(h:Heap):List (Addr×Obj):=fp.filterMap fun b=>(h.get? b).map fun o=>(b,o)
theorem Zbc{fp:List Addr}{h:Heap}{b:Addr}{o:Obj}(hb:b∈fp)(e:h.get? b=some o):(b,o)∈ZhM fp h:=List.mem_filterMap.mpr ⟨b,hb,by rw[e];rfl⟩
theorem Zit{fp:List Addr}{h:Heap}{p:Addr×Obj}(hp:p∈ZhM fp h):p.1∈fp/\h.get? p.1=some p.2:=by
 obtain⟨b,hb,e⟩:=List.mem_filterMap.mp hp;cases q:h.get? b with
 | none=>rw[q] at e;cases e
 | some o =>
  rw[q] at e;have e':(b,o)=p:=Option.some.inj e;subst e';exact⟨hb,q⟩
theorem Inv.pinned{pins:List (Addr×Obj)}{σ : St}{H:Hp}{s:Shared}{fp:List Addr}(I:Inv X pins σ H s)(hf:∀b∈fp,ZcQ X pins H b)(ho:∀b∈fp,∃o,s.heap.get? b=some o/\∀v,o.data ≠ .cell v):Inv X (pins++ZhM fp s.heap) σ H s :=
 I.pins_of fun p hp=>(List.mem_append.mp hp).elim (fun z=>I.pin p (List.mem_append_right _ z)) fun z=>by
  obtain⟨hb,e⟩:=Zit z;obtain⟨f0,f1,f2,_⟩:=hf p.1 hb;obtain⟨o,e',d⟩:=ho p.1 hb;rw[e] at e';cases e';exact⟨e,f0,f1,f2,d⟩
theorem Inv.unpinned{pins pl:List (Addr×Obj)}{σ : St}{H:Hp}{s:Shared}(I:Inv X (pins++pl) σ H s):Inv X pins σ H s:=I.pins_of fun p hp=>I.pin p (List.mem_append_right _ (List.mem_append_left _ hp))
theorem Zch{iter:Expr}{body:List Stmt}{wi:TI}{g:TG}{tb:TS}{pos:Pos}(hp:PassesOwn (model X.prog X.w) X.A X.env X.xe)(hc:X.calm=true)(hi:PI X tg iter wi)(hg:PG X tg g)(hb:PSs X body tb)
  (hs:∀x,foldedSetIterable iter X.env x=pure x:=by intro _;rfl):PS X (.For tg iter body [] pos) (Zpk wi g tb):=by
 intro pins s σ H D I h;refine wpAny_For (thn (hi pins s σ H _ I h) fun v s1 h1=>thn h1 fun itv s2 h2=>?_) hs;obtain⟨it,fp,tn,J,H2,e,I2,T,st2,f2,W,⟨m0,w0⟩,turn⟩:=h2;subst e;have stat:∀{H':Hp},(∀b∈fp,H' b=none)->∀b∈fp,ZcQ X pins H' b:=fun hn b hb=>⟨hn b hb,(f2 b hb).2⟩;refine codeAny_forLoop_any (fun n s'=>∃i σ' H',Inv X pins σ' H' s'/\tn i s'.heap/\(∀b∈fp,H' b=none)/\W i n σ' H') ?_ m0 ⟨0,σ,H2,I2,st2,fun b hb=>(f2 b hb).1,w0⟩;rintro n s3 ⟨i,σ3,H3,I3,st3,fr3,w3⟩;rcases turn i n σ3 H3 w3 with⟨stop,qn⟩|⟨go,N,hN,step⟩
 ·refine wpAny_passesOwn hp (thn (T.done X rfl rfl rfl hc i pins s3 σ3 H3 X.xe I3 (stat fr3) st3 stop) fun r s4 ⟨hr,I4⟩=>?_);subst hr;exact wpAny_execs_nil ⟨σ3,H3,I4,qn⟩
 ·refine wpAny_passesOwn hp (thn (T.item X rfl rfl rfl hc i pins s3 σ3 H3 X.xe I3 (stat fr3) st3 go) fun r s4 ⟨u,hr,h4⟩=>?_);subst hr;refine wpAny_passesOwn hp (thn h4 fun _ s5 ⟨x,H5,I5,r5,y5,st5,fr5⟩=>?_);have I5':=I5.pinned (stat fr5) (T.obj _ _ st5);refine wpAny_passesOwn hp (thn (hg _ s5 σ3 H5 x u _ I5' r5 (step x H5 y5)) fun _ s6 ⟨σ6,H6,I6,q6⟩=>?_);refine wpAny_passesOwn hp (thn (hb _ s6 σ6 H6 _ I6 q6) fun f s7 q7=>?_);have again:∀{σ7:St}{H7:Hp},Inv X (pins++ZhM fp s5.heap) σ7 H7 s7->N σ7 H7->∃m,m<n/\∃i σ' H',Inv X pins σ' H' s7/\tn i s7.heap/\(∀b∈fp,H' b=none)/\W i m σ' H':=fun{σ7 H7} I7 n7=>by
   obtain⟨m',hm,w7⟩:=hN σ7 H7 n7;refine⟨m',hm,i+1,σ7,H7,I7.unpinned,T.keep _ _ _ st5 fun b hb o e=>(I7.pin (b,o) (List.mem_append_right _ (List.mem_append_right _ (Zbc hb e)))).1,fun b hb=>?_,w7⟩;obtain⟨o,e,d⟩:=T.obj _ _ st5 b hb;exact(I7.pin (b,o) (List.mem_append_right _ (List.mem_append_right _ (Zbc hb e)))).2.1
  cases f with
  | next=>obtain⟨σ7,H7,I7,n7⟩:=q7;exact again I7 n7
  | cont=>obtain⟨σ7,H7,I7,n7⟩:=q7;exact again I7 n7
  | brk=>obtain⟨σ7,H7,I7,q7⟩:=q7;exact⟨σ7,H7,I7.unpinned,q7⟩
  | ret v=>obtain⟨x7,σ7,H7,I7,r7,q7⟩:=q7;exact⟨x7,σ7,H7,I7.unpinned,r7,q7⟩
end
theorem Zg3{K:PySem.W.Frag}{a:Addr}{xs:List V}{g:TG}{tb:TS}{D:Ends}{σ : St}{H:Hp}(Pv:Nat->St->Hp->Prop)(h0:Pv 0 σ H)(hl:∀i σ H,i<=xs.length->Pv i σ H->SqL K H a xs)
  (hs:∀i x σ H,xs[i]?= some x->Pv i σ H->g x σ H fun σ2 H2=>tb { D with nx:=Pv (i+1),ct:=Pv (i+1),bk:=D.nx } σ2 H2) (hd:∀ σ H,Pv xs.length σ H->D.nx σ H) :
  ∃W:Nat->Nat->St->Hp->Prop,(∃m,W 0 m σ H)/\∀i m σ H,W i m σ H ->
   ((Itl K a).stop i H/\D.nx σ H)\/((Itl K a).go i H/\∃N:St->Hp->Prop,(∀ σ' H',N σ' H'->∃m',m'<m/\W (i+1) m' σ' H')/\∀x H',(Itl K a).yld i H x H'->g x σ H' fun σ2 H2=>tb { D with nx:=N,ct:=N,bk:=D.nx } σ2 H2):=by
 refine⟨fun i m σ H=>m=xs.length-i/\i<=xs.length/\Pv i σ H,⟨xs.length,by simp,Nat.zero_le _,h0⟩,?_⟩;rintro i m σ H ⟨rfl,hi,p⟩;have q:=hl i σ H hi p;by_cases hlt:i<xs.length
 ·refine .inr ⟨⟨xs,xs[i],q,by simp[hlt]⟩,Pv (i+1),fun σ' H' p'=>⟨xs.length-(i+1),by lia,rfl,hlt,p'⟩,fun x H' y=>?_⟩;obtain⟨e,y⟩:=y;subst e;exact hs i x σ _ (y xs q) p
 ·have e:i=xs.length:=by lia
  subst e;exact .inl ⟨⟨xs,q,Nat.le_refl _⟩,hd σ H p⟩
theorem ZeR{K:PySem.W.Frag}{a:Addr}{xs:List V}{g:TG}{tb:TS}{D:Ends}{σ : St}{H:Hp}(Pv:Nat->St->Hp->Prop)(h0:Pv 0 σ H)(hl:∀i σ H,i<=xs.length->Pv i σ H->SqT K H a xs)
  (hs:∀i x σ H,xs[i]?= some x->Pv i σ H->g x σ H fun σ2 H2=>tb { D with nx:=Pv (i+1),ct:=Pv (i+1),bk:=D.nx } σ2 H2) (hd:∀ σ H,Pv xs.length σ H->D.nx σ H) :
  ∃W:Nat->Nat->St->Hp->Prop,(∃m,W 0 m σ H)/\∀i m σ H,W i m σ H ->
   ((Itt K a).stop i H/\D.nx σ H)\/((Itt K a).go i H/\∃N:St->Hp->Prop,(∀ σ' H',N σ' H'->∃m',m'<m/\W (i+1) m' σ' H')/\∀x H',(Itt K a).yld i H x H'->g x σ H' fun σ2 H2=>tb { D with nx:=N,ct:=N,bk:=D.nx } σ2 H2):=by
 refine⟨fun i m σ H=>m=xs.length-i/\i<=xs.length/\Pv i σ H,⟨xs.length,by simp,Nat.zero_le _,h0⟩,?_⟩;rintro i m σ H ⟨rfl,hi,p⟩;have q:=hl i σ H hi p;by_cases hlt:i<xs.length
 ·refine .inr ⟨⟨xs,xs[i],q,by simp[hlt]⟩,Pv (i+1),fun σ' H' p'=>⟨xs.length-(i+1),by lia,rfl,hlt,p'⟩,fun x H' y=>?_⟩;obtain⟨e,y⟩:=y;subst e;exact hs i x σ _ (y xs q) p
 ·have e:i=xs.length:=by lia
  subst e;exact .inl ⟨⟨xs,q,Nat.le_refl _⟩,hd σ H p⟩
theorem ZcS{lo:Int}{n:Nat}{g:TG}{tb:TS}{D:Ends}{σ : St}{H:Hp}(Pv:Nat->St->Hp->Prop)(h0:Pv 0 σ H)
  (hs:∀i σ H,i<n->Pv i σ H->g (.int (lo+i)) σ H fun σ2 H2=>tb { D with nx:=Pv (i+1),ct:=Pv (i+1),bk:=D.nx } σ2 H2) (hd:∀ σ H,Pv n σ H->D.nx σ H) :
  ∃W:Nat->Nat->St->Hp->Prop,(∃m,W 0 m σ H)/\∀i m σ H,W i m σ H ->
   ((Itr lo n).stop i H/\D.nx σ H)\/((Itr lo n).go i H/\∃N:St->Hp->Prop,(∀ σ' H',N σ' H'->∃m',m'<m/\W (i+1) m' σ' H')/\∀x H',(Itr lo n).yld i H x H'->g x σ H' fun σ2 H2=>tb { D with nx:=N,ct:=N,bk:=D.nx } σ2 H2):=by
 refine⟨fun i m σ H=>m=n-i/\i<=n/\Pv i σ H,⟨n,by simp,Nat.zero_le _,h0⟩,?_⟩;rintro i m σ H ⟨rfl,hi,p⟩;by_cases hlt:i<n
 ·refine .inr ⟨hlt,Pv (i+1),fun σ' H' p'=>⟨n-(i+1),by lia,rfl,hlt,p'⟩,fun x H' y=>?_⟩;obtain⟨e,y⟩:=y;subst e y;exact hs i σ _ hlt p
 ·have e:i=n:=by lia
  subst e;exact .inl ⟨Nat.le_refl _,hd σ H p⟩
abbrev R2:=V->V->Hp->VK->Prop
def OpR(X:Cx)(f:Value->Value->Sem Value)(r:R2):Prop :=
 ∀(pins:List (Addr×Obj))(s:Shared)(σ : St)(H:Hp)(x y:V)(v u:Value)(Q:VK),Inv X pins σ H s->RelV x v->RelV y u->r x y H Q ->
  wpAny (model X.prog X.w) X.A (f v u) (EP X pins σ Q) X.xe s
def UnR(X:Cx)(f:Value->Sem Value)(r:V->Hp->VK->Prop):Prop :=
 ∀(pins:List (Addr×Obj))(s:Shared)(σ : St)(H:Hp)(x:V)(v:Value)(Q:VK),Inv X pins σ H s->RelV x v->r x H Q ->
  wpAny (model X.prog X.w) X.A (f v) (EP X pins σ Q) X.xe s
def ZbR(X:Cx)(f:Value)(r:List V->Hp->VK->Prop):Prop :=
 ∀(pins:List (Addr×Obj))(s:Shared)(σ : St)(H:Hp)(xs:List V)(us:List Value)(Q:VK),Inv X pins σ H s->Vals xs us->r xs H Q ->
  wpAny (model X.prog X.w) X.A (call f us) (EP X pins σ Q) X.xe s
def Zpi(X:Cx)(r:V->Hp->(Bool->Hp->Prop)->Prop):Prop :=
 ∀(pins:List (Addr×Obj))(s:Shared)(σ : St)(H:Hp)(x:V)(v:Value)(Q:Bool->Hp->Prop),Inv X pins σ H s->RelV x v->r x H Q ->
  wpAny (model X.prog X.w) X.A (truthy v) (TP X pins σ Q) X.xe s
def tOp(r:R2)(ta tb:TE):TE:=fun σ H Q=>ta σ H fun x H1=>tb σ H1 fun y H2=>r x y H2 Q
def tUn(r:V->Hp->VK->Prop)(ta:TE):TE:=fun σ H Q=>ta σ H fun x H1=>r x H1 Q
def rI(C:Int->Int->Prop)(g:Int->Int->V):R2:=fun x y H Q=>∃i j,x=.int i/\y=.int j/\C i j/\Q (g i j) H
def rI0(g:Int->Int->V):R2:=fun x y H Q=>∃i j,x=.int i/\y=.int j/\Q (g i j) H
def rU(g:Int->V):V->Hp->VK->Prop:=fun x H Q=>∃i,x=.int i/\Q (g i) H
section
variable{X:Cx}{a b c:Expr}{ta tb tc:TE}{pos:Pos}
theorem Zof(ha:PE X a ta)(hb:PE X b tb){pins:List (Addr×Obj)}{s:Shared}{σ : St}{H:Hp}{R:V->V->Hp->Prop}(I:Inv X pins σ H s)
  (h:ta σ H fun x H1=>tb σ H1 fun y H2=>R x y H2) {Q:Value->Shared->Prop} {f:Value->Value->Sem Value}
  (hf:∀v u s2 x y H2,Inv X pins σ H2 s2->RelV x v->RelV y u->R x y H2->wpAny (model X.prog X.w) X.A (f v u) Q X.xe s2) :
  wpAny (model X.prog X.w) X.A (eval a X.env) (fun v s₁=>wpAny (model X.prog X.w) X.A (eval b X.env) (fun u s₂=>wpAny (model X.prog X.w) X.A (f v u) Q X.xe s₂) X.xe s₁) X.xe s:=by
 refine thn (ha pins s σ H _ I h) fun v s1 ⟨x,H1,I1,r1,q1⟩=>?_;refine thn (hb pins s1 σ H1 _ I1 q1) fun u s2 ⟨y,H2,I2,r2,q2⟩=>?_;exact hf v u s2 x y H2 I2 r1 r2 q2
theorem Zw{op:Operator}{r:R2}(ho:OpR X (binaryOp op) r)(ha:PE X a ta)(hb:PE X b tb):PE X (.BinOp a op b pos) (tOp r ta tb):=by
 intro pins s σ H Q I h;exact wpAny_BinOp (Zof ha hb I h fun v u s2 x y H2 I2 rx ry q=>ho pins s2 σ H2 x y v u Q I2 rx ry q)
theorem Zoi{op:UnaryOp}{r:V->Hp->VK->Prop}(ho:UnR X (unaryOp op) r)(ha:PE X a ta):PE X (.UnaryOp op a pos) (tUn r ta):=by
 intro pins s σ H Q I h;exact UnaryOp_ (thn (ha pins s σ H _ I h) fun v s1 ⟨x,H1,I1,r1,q1⟩=>ho pins s1 σ H1 x v Q I1 r1 q1)
theorem opI{f:Value->Value->Sem Value}{C:Int->Int->Prop}{g:Int->Int->Int}
  (rule:∀(i j:Int)(t u:Tok)(s:Shared)(Q:Value->Shared->Prop)(E:Value->Shared->Prop),C i j->Q (.int (g i j) s.toks) { s with toks:=s.toks+1 }->wpAny (model X.prog X.w) X.A (f (.int i t) (.int j u)) Q E s) :
  OpR X f (rI C fun i j=>.int (g i j)):=by
 intro pins s σ H x y v u Q I rx ry h;obtain⟨i,j,rfl,rfl,hc,q⟩:=h;obtain⟨t,rfl⟩:=rx;obtain⟨t',rfl⟩:=ry;exact rule i j t t' s _ _ hc ⟨.int (g i j),H,I.tok _,⟨_,rfl⟩,q⟩
theorem ZoY{f:Value->Value->Sem Value}{g:Int->Int->Int}
  (rule:∀(i j:Int)(t u:Tok)(s:Shared)(Q:Value->Shared->Prop)(E:Value->Shared->Prop),Q (.int (g i j) s.toks) { s with toks:=s.toks+1 }->wpAny (model X.prog X.w) X.A (f (.int i t) (.int j u)) Q E s) :
  OpR X f (rI0 fun i j=>.int (g i j)):=by
 intro pins s σ H x y v u Q I rx ry h;obtain⟨i,j,rfl,rfl,q⟩:=h;obtain⟨t,rfl⟩:=rx;obtain⟨t',rfl⟩:=ry;exact rule i j t t' s _ _ ⟨.int (g i j),H,I.tok _,⟨_,rfl⟩,q⟩
theorem ZoM{f:Value->Value->Sem Value}{g:Int->Int->Bool}
  (rule:∀(i j:Int)(t u:Tok)(s:Shared)(Q:Value->Shared->Prop)(E:Value->Shared->Prop),Q (.bool (g i j)) s->wpAny (model X.prog X.w) X.A (f (.int i t) (.int j u)) Q E s) :
  OpR X f (rI0 fun i j=>.bl (g i j)):=by
 intro pins s σ H x y v u Q I rx ry h;obtain⟨i,j,rfl,rfl,q⟩:=h;obtain⟨t,rfl⟩:=rx;obtain⟨t',rfl⟩:=ry;exact rule i j t t' s _ _ ⟨.bl (g i j),H,I,rfl,q⟩
def Zo9(i j:Int):Prop:=0<j/\j<1073741824
def ZoA(i j:Int):Prop:=(-(2 ^ 64)<i/\i<2 ^ 64)\/(-(2 ^ 64)<j/\j<2 ^ 64)
theorem ZoA.ok{i j:Int}(h:ZoA i j):IntMulOk i j:=by
 rcases h with⟨h1,h2⟩|⟨h1,h2⟩
 ·exact .of_left (intBits_le_64 h1 h2)
 ·exact .of_right (intBits_le_64 h1 h2)
theorem Za9:OpR X (binaryOp .Add) (rI0 fun i j=>.int (i+j)):=ZoY fun _ _ _ _ _ _ _ q=>add_int q
theorem Zhw:OpR X (binaryOp .Sub) (rI0 fun i j=>.int (i-j)):=ZoY fun _ _ _ _ _ _ _ q=>sub_int q
theorem ZjT:OpR X (binaryOp .Mult) (rI ZoA fun i j=>.int (i*j)):=opI fun _ _ _ _ _ _ _ hc q=>mul_int q hc.ok
theorem ZaQ:OpR X (binaryOp .FloorDiv) (rI Zo9 fun i j=>.int (i / j)):=opI fun i j _ _ _ _ _ hc q=>by
 have h1:(0:Int)<j:=hc.1;have h2:j<1073741824:=hc.2;exact floordiv_int (by lia) (by rw[Int.fdiv_eq_ediv_of_nonneg i (by lia)];exact q) (.inl (PyProof.noPylong_small (by lia)))
theorem Zam:OpR X (binaryOp .Mod) (rI (fun _ j=>0<j) fun i j=>.int (i % j)):=opI fun i j _ _ _ _ _ hc q=>by
 have h1:(0:Int)<j:=hc;exact mod_int' (by lia) (by rw[Int.fmod_eq_emod_of_nonneg i (by lia)];exact q)
theorem unI{f:Value->Sem Value}{g:Int->Int}
  (rule:∀(i:Int)(t:Tok)(s:Shared)(Q:Value->Shared->Prop)(E:Value->Shared->Prop),Q (.int (g i) s.toks) { s with toks:=s.toks+1 }->wpAny (model X.prog X.w) X.A (f (.int i t)) Q E s) :
  UnR X f (rU fun i=>.int (g i)):=by
 intro pins s σ H x v Q I rx h;obtain⟨i,rfl,q⟩:=h;obtain⟨t,rfl⟩:=rx;exact rule i t s _ _ ⟨.int (g i),H,I.tok _,⟨_,rfl⟩,q⟩
theorem ZnL:UnR X (unaryOp .USub) (rU fun i=>.int (-i)):=unI fun _ _ _ _ _ q=>neg_int q
end
def ZoP:V->V->Bool
 | .non,.non=>true | .non,.int _=>true | .int _,.non=>true | .non,.bl _=>true | .bl _,.non=>true | .non,.str _=>true | .str _,.non=>true
 | .int _,.int _=>true | .bl _,.bl _=>true | .str _,.str _=>true | .byt _,.byt _=>true
 | .int _,.str _=>true | .str _,.int _=>true | .bl _,.str _=>true | .str _,.bl _=>true
 | _,_=>false
def rEq:R2:=fun x y H Q=>ZoP x y=true/\Q (.bl (decide (x=y))) H
def rNe:R2:=fun x y H Q=>ZoP x y=true/\Q (.bl (!decide (x=y))) H
theorem ZjN{i j:Int}:decide (V.int i=V.int j)=(i == j):=by
 rw[Bool.eq_iff_iff];simp
theorem Zlp{i j:Bool}:decide (V.bl i=V.bl j)=(i == j):=by
 rw[Bool.eq_iff_iff];simp
theorem Zis{i j:Str}:decide (V.str i=V.str j)=(i == j):=by
 rw[Bool.eq_iff_iff];simp
theorem Zkb{i j:Array UInt8}:decide (V.byt i=V.byt j)=(i.toList == j.toList):=by
 rw[Bool.eq_iff_iff];cases i;cases j;simp
section
variable{X:Cx}{a b c:Expr}{ta tb tc:TE}{pos:Pos}
theorem Zat{pins:List (Addr×Obj)}{σ : St}{H:Hp}{s:Shared}{Q:VK}{k k':Bool}(I:Inv X pins σ H s)(q:Q (.bl k) H)(e:k=k'):EP X pins σ Q (.bool k') s:=by
 subst e;exact⟨.bl k,H,I,rfl,q⟩
theorem ZaV:OpR X (compareOp .Eq) rEq:=by
 intro pins s σ H x y v u Q I rx ry h;obtain⟨hs,q⟩:=h;cases x with
 | non =>
  cases rx;cases y with
  | non=>cases ry;exact PySem.EqNone.eq_none_none (Zat I q (by simp))
  | bl j=>cases ry;exact PySem.EqNone.eq_none_bool (Zat I q (by simp))
  | int j=>obtain⟨t',rfl⟩:=ry;exact PySem.EqNone.eq_none_int (Zat I q (by simp))
  | str j=>obtain⟨t',rfl⟩:=ry;exact PySem.EqNone.eq_none_str (Zat I q (by simp))
  | _=>exact absurd (show false=true from hs) Bool.false_ne_true
 | bl i =>
  cases rx;cases y with
  | non=>cases ry;exact PySem.EqNone.eq_bool_none (Zat I q (by simp))
  | bl j=>cases ry;exact eq_bool (Zat I q Zlp)
  | str j=>obtain⟨t',rfl⟩:=ry;exact PySem.EqMixed.eq_bool_str (Zat I q (by simp))
  | _=>exact absurd (show false=true from hs) Bool.false_ne_true
 | int i =>
  obtain⟨t,rfl⟩:=rx;cases y with
  | non=>cases ry;exact PySem.EqNone.eq_int_none (Zat I q (by simp))
  | int j=>obtain⟨t',rfl⟩:=ry;exact eq_int (Zat I q ZjN)
  | str j=>obtain⟨t',rfl⟩:=ry;exact PySem.EqMixed.eq_int_str (Zat I q (by simp))
  | _=>exact absurd (show false=true from hs) Bool.false_ne_true
 | str i =>
  obtain⟨t,rfl⟩:=rx;cases y with
  | non=>cases ry;exact PySem.EqNone.eq_str_none (Zat I q (by simp))
  | bl j=>cases ry;exact PySem.EqMixed.eq_str_bool (Zat I q (by simp))
  | int j=>obtain⟨t',rfl⟩:=ry;exact PySem.EqMixed.eq_str_int (Zat I q (by simp))
  | str j=>obtain⟨t',rfl⟩:=ry;exact eq_str (Zat I q Zis)
  | _=>exact absurd (show false=true from hs) Bool.false_ne_true
 | byt i =>
  obtain⟨t,rfl⟩:=rx;cases y with
  | byt j=>obtain⟨t',rfl⟩:=ry;exact PySem.W.eq_bytes (Zat I q Zkb)
  | _=>exact absurd (show false=true from hs) Bool.false_ne_true
 | _=>cases y <;> exact absurd (show false=true from hs) Bool.false_ne_true
theorem Zh6:OpR X (compareOp .NotEq) rNe:=by
 intro pins s σ H x y v u Q I rx ry h;obtain⟨hs,q⟩:=h;cases x with
 | non =>
  cases rx;cases y with
  | non=>cases ry;exact PySem.EqNone.ne_none_none (Zat I q (by simp))
  | bl j=>cases ry;exact PySem.EqNone.ne_none_bool (Zat I q (by simp))
  | int j=>obtain⟨t',rfl⟩:=ry;exact PySem.EqNone.ne_none_int (Zat I q (by simp))
  | str j=>obtain⟨t',rfl⟩:=ry;exact PySem.EqNone.ne_none_str (Zat I q (by simp))
  | _=>exact absurd (show false=true from hs) Bool.false_ne_true
 | bl i =>
  cases rx;cases y with
  | non=>cases ry;exact PySem.EqNone.ne_bool_none (Zat I q (by simp))
  | bl j=>cases ry;exact ne_bool (Zat I q (congrArg not Zlp))
  | str j=>obtain⟨t',rfl⟩:=ry;exact PySem.EqMixed.ne_bool_str (Zat I q (by simp))
  | _=>exact absurd (show false=true from hs) Bool.false_ne_true
 | int i =>
  obtain⟨t,rfl⟩:=rx;cases y with
  | non=>cases ry;exact PySem.EqNone.ne_int_none (Zat I q (by simp))
  | int j=>obtain⟨t',rfl⟩:=ry;exact ne_int (Zat I q (congrArg not ZjN))
  | str j=>obtain⟨t',rfl⟩:=ry;exact PySem.EqMixed.ne_int_str (Zat I q (by simp))
  | _=>exact absurd (show false=true from hs) Bool.false_ne_true
 | str i =>
  obtain⟨t,rfl⟩:=rx;cases y with
  | non=>cases ry;exact PySem.EqNone.ne_str_none (Zat I q (by simp))
  | bl j=>cases ry;exact PySem.EqMixed.ne_str_bool (Zat I q (by simp))
  | int j=>obtain⟨t',rfl⟩:=ry;exact PySem.EqMixed.ne_str_int (Zat I q (by simp))
  | str j=>obtain⟨t',rfl⟩:=ry;exact ne_str (Zat I q (congrArg not Zis))
  | _=>exact absurd (show false=true from hs) Bool.false_ne_true
 | byt i =>
  obtain⟨t,rfl⟩:=rx;cases y with
  | byt j=>obtain⟨t',rfl⟩:=ry;exact PySem.W.ne_bytes (Zat I q (congrArg not Zkb))
  | _=>exact absurd (show false=true from hs) Bool.false_ne_true
 | _=>cases y <;> exact absurd (show false=true from hs) Bool.false_ne_true
theorem ZfY:OpR X (compareOp .Lt) (rI0 fun i j=>.bl (decide (i<j))):=ZoM fun _ _ _ _ _ _ _ q=>lt_int q
theorem Zk0:OpR X (compareOp .LtE) (rI0 fun i j=>.bl (decide (i<=j))):=ZoM fun _ _ _ _ _ _ _ q=>le_int q
theorem Zkq:OpR X (compareOp .Gt) (rI0 fun i j=>.bl (decide (j<i))):=ZoM fun _ _ _ _ _ _ _ q=>gt_int q
theorem ZM(b:Expr){op:CmpOp}(h:op ≠ .In:=by decide)(h2:op ≠ .NotIn:=by decide):behindInMarks op b=false:=by
 have e1:(op == CmpOp.In)=false:=by cases op <;> first|rfl|exact absurd rfl h
 have e2:(op == CmpOp.NotIn)=false:=by cases op <;> first|rfl|exact absurd rfl h2
 cases b <;> simp[behindInMarks,e1,e2]
theorem Zbo{op:CmpOp}{r:R2}(ho:OpR X (compareOp op) r)(ha:PE X a ta)(hb:PE X b tb)(hm:behindInMarks op b=false):PE X (.Compare a [op] [b] pos) (tOp r ta tb):=by
 intro pins s σ H Q I h;exact wpAny_Compare1 (Zof ha hb I h fun v u s2 x y H2 I2 rx ry q=>ho pins s2 σ H2 x y v u Q I2 rx ry q) hm
def ZkC(t:TE):TT:=fun σ H Q=>t σ H fun x H'=>∃k,x=.bl k/\Q k H'
theorem ZC{op:CmpOp}{r:R2}(ho:OpR X (compareOp op) r)(ha:PE X a ta)(hb:PE X b tb)(hm:behindInMarks op b=false):PT X (.Compare a [op] [b] pos) (ZkC (tOp r ta tb)):=by
 intro pins s σ H Q I h;refine wpAny_isTrue_Compare1 (thn (ha pins s σ H _ I h) fun v s1 ⟨x,H1,I1,r1,q1⟩=>thn (hb pins s1 σ H1 _ I1 q1) fun u s2 ⟨y,H2,I2,r2,q2⟩ =>
  thn (ho pins s2 σ H2 x y v u _ I2 r1 r2 q2) fun c s3 ⟨z,H3,I3,r3,k,e,q3⟩=>?_) hm
 subst e;cases r3;exact wpAny_truthy_bool ⟨H3,I3,q3⟩
def ZlH(r r':R2)(ta tb tc:TE):TE:=fun σ H Q=>ta σ H fun x H1=>tb σ H1 fun y H2=>r x y H2 fun z H3=>∃k,z=.bl k /\
 (if k=true then tc σ H3 fun w' H4=>r' y w' H4 Q else Q (.bl false) H3)
theorem ZkM{op op':CmpOp}{r r':R2}(ho:OpR X (compareOp op) r)(ho':OpR X (compareOp op') r')(ha:PE X a ta)(hb:PE X b tb)(hc:PE X c tc)
  (hm:lastMarks [op,op'] [b,c]=false:=by with_unfolding_all rfl):PE X (.Compare a [op,op'] [b,c] pos) (ZlH r r' ta tb tc):=by
 intro pins s σ H Q I h;refine Compare_chain (thn (ha pins s σ H _ I h) fun v s1 ⟨x,H1,I1,r1,q1⟩=>chain_link (thn (hb pins s1 σ H1 _ I1 q1) fun u s2 ⟨y,H2,I2,r2,q2⟩ =>
  thn (ho pins s2 σ H2 x y v u _ I2 r1 r2 q2) fun d s3 ⟨z,H3,I3,r3,k,e,q3⟩=>?_)) hm
 subst e;cases r3;refine wpAny_truthy_bool ?_;cases k with
 | false=>exact ite_ff ⟨.bl false,H3,I3,rfl,q3⟩
 | true=>exact ite_tt (chain_last (thn (hc pins s3 σ H3 _ I3 q3) fun w' s4 ⟨z',H4,I4,r4,q4⟩=>ho' pins s4 σ H4 y z' u w' Q I4 r2 r4 q4))
theorem Zhd{op op':CmpOp}{r r':R2}(ho:OpR X (compareOp op) r)(ho':OpR X (compareOp op') r')(ha:PE X a ta)(hb:PE X b tb)(hc:PE X c tc)
  (hm:lastMarks [op,op'] [b,c]=false:=by with_unfolding_all rfl):PT X (.Compare a [op,op'] [b,c] pos) (ZkC (ZlH r r' ta tb tc)):=by
 intro pins s σ H Q I h;refine isTrue_chain (thn (ha pins s σ H _ I h) fun v s1 ⟨x,H1,I1,r1,q1⟩=>test_link (thn (hb pins s1 σ H1 _ I1 q1) fun u s2 ⟨y,H2,I2,r2,q2⟩ =>
  thn (ho pins s2 σ H2 x y v u _ I2 r1 r2 q2) fun d s3 ⟨z,H3,I3,r3,k,e,q3⟩=>?_)) hm
 subst e;cases r3;refine wpAny_truthy_bool ?_;cases k with
 | false =>
  obtain⟨k',e',q'⟩:=q3;cases e';exact ite_ff ⟨H3,I3,q'⟩
 | true =>
  refine ite_tt (test_last (thn (hc pins s3 σ H3 _ I3 q3) fun w' s4 ⟨z',H4,I4,r4,q4⟩=>thn (ho' pins s4 σ H4 y z' u w' _ I4 r2 r4 q4) fun d' s5 ⟨z2,H5,I5,r5,k2,e2,q5⟩=>?_));subst e2;cases r5;exact wpAny_truthy_bool ⟨H5,I5,q5⟩
def ZoH(K:PySem.W.Frag)(x:V)(H:Hp)(k:Bool):Prop :=
 match x with
 | .non=>k=false
 | .bl b=>k=b
 | .int i=>k=(i != 0)
 | .str y=>y.length<=sizeLine/\k=((y.length:Int) != 0)
 | .byt y=>y.size<=sizeLine/\k=((y.size:Int) != 0)
 | .ref p=>(∃xs,SqL K H p xs/\k= !xs.isEmpty)\/(∃xs,SqT K H p xs/\k= !xs.isEmpty)\/∃kvs,H p=some (.dK kvs)/\k= !kvs.isEmpty
 | _=>False
theorem ZhU{κ : Type}{kvs:List (κ × V)}{vs:List (κ × Value)}(r:KV kvs vs):(!vs.isEmpty)= !kvs.isEmpty:=by
 cases r <;> rfl
theorem Zew{xs:List V}{its:List Value}(r:Vals xs its):(!its.toArray.isEmpty)= !xs.isEmpty:=by
 cases r <;> simp
theorem Zeb:(sizeLine:Nat)<2 ^ 63:=by rw[sizeLine_eq];decide
theorem ZnE:Zpi X (fun x H Q=>∃k,ZoH X.K x H k/\Q k H):=by
 intro pins s σ H x v Q I rx h;obtain⟨k,e,q⟩:=h;have hl:=Zeb;have hs:sizeLine=16777216:=sizeLine_eq;cases x with
 | non =>
  cases rx;have e':k=false:=e;subst e';exact truthy_none ⟨H,I,q⟩
 | bl b =>
  cases rx;have e':k=b:=e;subst e';exact wpAny_truthy_bool ⟨H,I,q⟩
 | int i =>
  obtain⟨t,rfl⟩:=rx;have e':k=(i != 0):=e;subst e';exact PySem.P.truthy_int ⟨H,I,q⟩
 | str y =>
  obtain⟨t,rfl⟩:=rx;obtain⟨hy,e'⟩:y.length<=sizeLine/\k=((y.length:Int) != 0):=e;subst e';exact PySem.P.truthy_str (by lia) ⟨H,I.tok _,q⟩
 | byt y =>
  obtain⟨t,rfl⟩:=rx;obtain⟨hy,e'⟩:y.size<=sizeLine/\k=((y.size:Int) != 0):=e;subst e';exact PySem.W.truthy_bytes (by lia) ⟨H,I.tok _,q⟩
 | ref p =>
  cases rx;have e':(∃xs,SqL X.K H p xs/\k= !xs.isEmpty)\/(∃xs,SqT X.K H p xs/\k= !xs.isEmpty)\/∃kvs,H p=some (.dK kvs)/\k= !kvs.isEmpty:=e;rcases e' with⟨xs,hx,e'⟩|⟨xs,hx,e'⟩|⟨kvs,hx,e'⟩
  ·subst e';obtain⟨its,r,pl,hz⟩:=I.list hx;have hlen:=r.length;exact wpAny_truthy_list pl.isList (by simp only[List.size_toArray];lia) ⟨H,I.tok _,by rw[Zew r];exact q⟩
  ·subst e';obtain⟨its,r,pl,hz⟩:=I.tuple hx;have hlen:=r.length;exact truthy_tuple pl (by simp only[List.size_toArray];lia) ⟨H,I.tok _,by rw[Zew r];exact q⟩
  ·subst e';obtain⟨hz,hS,vs,r,m⟩:kvs.length<=sizeLine/\(p == sysModules)=false/\∃vs,KV kvs vs/\s.heap.DictOf (Zax X.prog X.w) p vs:=I.hok p _ hx;have hlen:kvs.length=vs.length:=Paired.length r;exact wpAny_truthy_dict hS m (by lia) ⟨H,I.tok _,by rw[ZhU r];exact q⟩
 | _=>exact(show False from e).elim
theorem ZW(ha:PE X a ta)(he:∀whole,isTrue a X.env whole=(do let v <- whole;standAt a.pos;holding [v] (truthy v))) :
  PT X a (fun σ H Q=>ta σ H fun x H'=>∃k,ZoH X.K x H' k/\Q k H'):=by
 intro pins s σ H Q I h;exact isTrue_plain (thn (ha pins s σ H _ I h) fun v s1 ⟨x,H1,I1,r1,q1⟩=>ZnE pins s1 σ H1 x v Q I1 r1 q1) (he _)
theorem Zr:OpR X (binaryOp .Add) (fun x y H Q=>∃i j,x=.str i/\y=.str j/\i.length+j.length<=sizeLine/\Q (.str (i++j)) H):=by
 intro pins s σ H x y v u Q I rx ry h;obtain⟨i,j,rfl,rfl,hz,q⟩:=h;obtain⟨t,rfl⟩:=rx;obtain⟨t',rfl⟩:=ry;exact add_str (fun t' tk=>⟨.str (i++j),H,I.tok _,⟨_,rfl⟩,q⟩) hz
theorem vals1{x:V}{us:List Value}(r:Vals [x] us):∃u,us=[u]/\RelV x u:=by
 cases r with
 | cons r1 r2=>cases r2;exact⟨_,rfl,r1⟩
theorem vals2{x y:V}{us:List Value}(r:Vals [x,y] us):∃u w',us=[u,w']/\RelV x u/\RelV y w':=by
 cases r with
 | cons r1 r2 =>
  cases r2 with
  | cons r3 r4=>cases r4;exact⟨_,_,rfl,r1,r3⟩
end
structure ObjM(h:Heap)(x dx C:Addr)(mA:Str->Option Value):Prop where
 obj:h.get? x=some (PySem.W.instObj C dx)
 ns:h.Ns1 dx mA
 ne:dx≠x
theorem Zkc{h:Heap}{dx:Addr}{mA:Str->Option Value}(n:h.Ns1 dx mA):∃od,h.get? dx=some od/\∀name,PySem.W.lookIn name od=some (mA name):=by
 obtain⟨o,es,ep,ho,hd,hk,_,hm⟩:=n;refine⟨o,ho,fun name=>?_⟩;have e:=hm name;unfold nsFind findBy at e;rw[<- Array.find?_toList] at e;unfold PySem.W.lookIn;rw[hd];dsimp only
 split
 ·rename_i y q
  rw[q] at e;exact congrArg some e
 ·rename_i q
  rw[q] at e;have a:es.toList.any (·.refKey)=false:=by
   rw[List.any_eq_false];intro y hy;obtain⟨z,t,hkey⟩:=hk y (Array.mem_toList_iff.mp hy);simp[DictEntry.refKey,hkey]
  have a' : ¬ es.toList.any (·.refKey)=true:=by rw[a];exact Bool.false_ne_true
  rw[if_neg a'];exact congrArg some e
theorem ObjM.look{h:Heap}{x dx C:Addr}{mA:Str->Option Value}(I:ObjM h x dx C mA):∃od,PySem.W.InstAt h x (PySem.W.instObj C dx) C (some od)/\∀name,PySem.W.lookIn name od=some (mA name) :=
 let ⟨od,ho,hl⟩:=Zkc I.ns
 ⟨od,⟨I.obj,rfl,rfl,ho⟩,hl⟩
section
variable{prog:Program}{w:World}{A:Around}{E:Value->Shared->Prop}{s:Shared}{K:PySem.W.Frag}{x dx C f:Addr}{mA:Str->Option Value}{name:Str}{v:Value}
theorem Zmd{expr:Bool}{Q:Value->Shared->Prop}(X:K.In s.heap)(I:ObjM s.heap x dx C mA)(hg:PySem.W.plainGet K C name=true)(hh:PySem.W.hasDictIn K C=true)
  (ha:PySem.W.findIn K (.ref C) name=some none) (hv:mA name=some v) (hv':PySem.W.handedIn v=true) (h:Q v { s with toks:=s.toks+1 }) :
  wpAny (model prog w) A (getAttr (.ref x) name expr) Q E s:=by
 obtain⟨od,J,hl⟩:=I.look;exact PySem.W.get_value X J (PySem.W.plainGet_of hg).1 (PySem.W.findObj_own hh ha rfl (by rw[hl,hv])) hv' h
theorem ZkI{pl:Sem Bool}{Q:Value×List Value->Shared->Prop}(X:K.In s.heap)(I:ObjM s.heap x dx C mA)(hg:PySem.W.plainGet K C name=true)
  (hf:PySem.W.findIn K (.ref C) name=some (some (.ref f))) (ht:PySem.W.isFn K (.ref f)=true) (hv:mA name=none) (h:Q (.ref f,[.ref x]) s) :
  wpAny (model prog w) A (getMethod (.ref x) name pl) Q E s:=by
 obtain⟨od,J,hl⟩:=I.look;exact PySem.W.method_fn X J (PySem.W.plainGet_of hg).1 (PySem.W.plainGet_of hg).2 hf (beq_iff_eq.mp ht) (by show(PySem.W.lookIn name od).map (·.isSome)=some false;rw[hl,hv];rfl) h
theorem ZmT{ns:List Str}{Q:Unit->Shared->Prop}(X:K.In s.heap)(I:ObjM s.heap x dx C mA)
  (hs:PySem.W.findIn K (.ref C) "__setattr__" = some (some (.builtin "object.__setattr__"))) (hp:PySem.W.plainOver K C=true) (ht:PySem.W.takerIn K C name=some none) (hh:PySem.W.hasDictIn K C=true)
  (hw:PySem.Within mA ns) (hsz:ns.length<=sizeLine)
  (h:∀h',ObjM h' x dx C (fun y=>if y=name then some v else mA y)->Heap.SameBut dx s.heap h'->Q () { s with heap:=h',toks:=s.toks+2 }) :
  wpAny (model prog w) A (setAttr (.ref x) name v) Q E s:=by
 obtain⟨od,J,hl⟩:=I.look;refine PySem.W.set_plain X J hs (PySem.W.osa_open (s:={ s with toks:=s.toks+1 }) (r:=none) X J hp ht fun b=>?_);obtain⟨cd,hc,hd'⟩:=PySem.W.any_some hh;have hx:s.heap.get? x=some ⟨.ref C,some dx,.plain,#[]⟩:=I.obj;refine wpAny_bind (wpAny_pure (wpAny_bind (wpAny_bind (wpAny_loadPart hx (wpAny_bind (PySem.W.Looks.here (s:={ s with toks:=s.toks+1 }) (PySem.W.looks_clsIn X hc) ?_))))));rw[hd'];refine wpAny_pure (a:=some dx) (wpAny_bind (wpAny_pure (wpAny_bind ?_)));refine wpAny_nsSet1 (s:={ s with toks:=s.toks+1 }) I.ns fun h' hn2 hs2=>?_;obtain⟨oD,esD,epD,hoD,hdD,hcD⟩:=hn2.count (PySem.Within.cons name v hw);refine wpAny_bind (wpAny_lookBehind hoD (by rw[hdD];exact pastItsLine_dict (Nat.le_trans hcD (by rw[List.length_cons];lia))) ?_);exact wpAny_pure (h _ ⟨(hs2.2 _ (Ne.symm I.ne)).trans I.obj,hn2,I.ne⟩ hs2)
theorem Zku{R:Result->Shared->Prop}{vs:List Value}{kw:List (Str×Value)}(X:K.In s.heap)(hm:PySem.W.makesIn K C=true)
  (hi:PySem.W.findIn K (.ref C) "__init__" = some (some (.ref f))) (hf:PySem.W.typeIn K (.ref f)=some (.type "function"))
  (h:codeAny (model prog w) (A.under (.builtin "type.__call__" ⟨.ref C::vs,kw⟩)) (.call (.ref f) ⟨.ref (s.heap.objs.size+1)::vs,kw⟩) (PySem.W.InitBack (s.heap.objs.size+1) R)
   { s with heap:=(s.heap.push PySem.W.emptyDict).push (PySem.W.instObj C s.heap.objs.size) }) :
  codeAny (model prog w) A (.call (.ref C) ⟨vs,kw⟩) R s:=by
 obtain⟨hh,g,d,t,os⟩:=s;exact PySem.W.make_core (PySem.W.makes_of X hm) (PySem.W.looks_findIn X hi) (fun self=>PySem.W.bind_fn X self hf) (.inl rfl) h
end
def ZfD(f:Str)(v:V):List (Str×V)->List (Str×V)
 | []=>[(f,v)]
 | (g,x)::r=>if g=f then(g,v)::r else(g,x)::ZfD f v r
theorem Zeh(f g:Str)(v:V):∀fs:List (Str×V),(ZfD f v fs).lookup g=if g=f then some v else fs.lookup g
 | []=>by
  show List.lookup g [(f,v)]=_;by_cases h:g=f
  ·have hb:(g == f)=true:=beq_iff_eq.mpr h;simp only[List.lookup,hb,if_pos h]
  ·have hb:(g == f)=false:=beq_eq_false_iff_ne.mpr h;simp only[List.lookup,hb,if_neg h]
 | (k,x)::r=>by
  have ih:=Zeh f g v r;rw[show ZfD f v ((k,x)::r)=(if k=f then(k,v)::r else(k,x)::ZfD f v r) from rfl]
  by_cases hk:k=f
  ·rw[if_pos hk];by_cases h:g=k
   ·have hb:(g == k)=true:=beq_iff_eq.mpr h;simp only[List.lookup,hb,if_pos (h.trans hk)]
   ·have hb:(g == k)=false:=beq_eq_false_iff_ne.mpr h;simp only[List.lookup,hb,if_neg (fun e:g=f=>h (e.trans hk.symm))]
  ·rw[if_neg hk];by_cases h:g=k
   ·have hb:(g == k)=true:=beq_iff_eq.mpr h;simp only[List.lookup,hb,if_neg (fun e:g=f=>hk (h.symm.trans e))]
   ·have hb:(g == k)=false:=beq_eq_false_iff_ne.mpr h;simp only[List.lookup,hb];exact ih
theorem Zd1(f:Str)(v:V):∀fs:List (Str×V),f∈(ZfD f v fs).map (·.1)/\∀g,g∈fs.map (·.1)->g∈(ZfD f v fs).map (·.1)
 | []=>⟨by simp[ZfD],fun g h=>by simp at h⟩
 | (k,x)::r=>by
  obtain⟨i1,i2⟩:=Zd1 f v r;rw[show ZfD f v ((k,x)::r)=(if k=f then(k,v)::r else(k,x)::ZfD f v r) from rfl]
  by_cases hk:k=f
  ·rw[if_pos hk];subst hk;exact⟨by simp,fun g h=>by simpa using h⟩
  ·rw[if_neg hk];refine⟨?_,fun g h=>?_⟩
   ·rw[List.map_cons];exact List.mem_cons_of_mem _ i1
   ·rw[List.map_cons] at h ⊢;rcases List.mem_cons.mp h with e|e
    ·exact List.mem_cons.mpr (.inl e)
    ·exact List.mem_cons_of_mem _ (i2 g e)
theorem Zd7(f:Str)(v:V):∀fs:List (Str×V),(ZfD f v fs).length<=fs.length+1
 | []=>by simp[ZfD]
 | (k,x)::r=>by
  have ih:=Zd7 f v r;rw[show ZfD f v ((k,x)::r)=(if k=f then(k,v)::r else(k,x)::ZfD f v r) from rfl]
  by_cases hk:k=f
  ·rw[if_pos hk,List.length_cons,List.length_cons];lia
  ·rw[if_neg hk,List.length_cons,List.length_cons];lia
theorem ZfH.some_of{v:V}{o:Option Value}(r:ZfH (some v) o):∃u,o=some u/\RelV v u:=by
 cases o with
 | none=>exact(show False from r).elim
 | some u=>exact⟨u,rfl,r⟩
theorem ZfH.none_of{o:Option Value}(r:ZfH none o):o=none:=by
 cases o with
 | none=>rfl
 | some u=>exact(show False from r).elim
theorem Zj0{v:V}{u:Value}(r:RelV v u):PySem.W.handedIn u=true:=by
 cases v with
 | non=>cases (show u=Value.none from r);rfl
 | bl b=>cases (show u=Value.bool b from r);rfl
 | int i=>obtain⟨t,e⟩:=(show ∃t,u=Value.int i t from r);cases e;rfl
 | str x=>obtain⟨t,e⟩:=(show ∃t,u=Value.str x t from r);cases e;rfl
 | byt b=>obtain⟨t,e⟩:=(show ∃t,u=Value.bytes b t from r);cases e;rfl
 | flt b=>obtain⟨t,e⟩:=(show ∃t,u=Value.float b t from r);cases e;rfl
 | ref a=>cases (show u=Value.ref a from r);rfl
 | ty n=>cases (show u=Value.type n from r);rfl
section
variable{P:Program}{w:World}{H H':Hp}{h h':Heap}{a C dx:Addr}{fs fs':List (Str×V)}
theorem ZeX(hok:HOk P w H h)(e:H a=some (.ins C dx fs)):∃mA,ObjM h a dx C mA/\(∀f,ZfH (fs.lookup f) (mA f))/\PySem.Within mA (fs.map (·.1))/\fs.length<=1000/\H dx=some (.own a):=by
 obtain⟨d,z,ne,ob,mA,n,r,q⟩:=(show ZaL P w H h a (.ins C dx fs) from hok a _ e);exact⟨mA,⟨ob,n,ne⟩,r,q,z,d⟩
end
structure Cls(K:PySem.W.Frag)(C:Addr):Prop where
 pg:PySem.W.plainGet K C Str.empty=true
 hd:PySem.W.hasDictIn K C=true
 po:PySem.W.plainOver K C=true
 sa:PySem.W.findIn K (.ref C) "__setattr__" = some (some (.builtin "object.__setattr__"))
theorem Cls.get{K:PySem.W.Frag}{C:Addr}(c:Cls K C)(f:Str):PySem.W.plainGet K C f=true:=c.pg
def Zdd(K:PySem.W.Frag)(C:Addr)(f:Str):Prop:=PySem.W.findIn K (.ref C) f=some none
theorem Zdd.taker{K:PySem.W.Frag}{C:Addr}{f:Str}(n:Zdd K C f):PySem.W.takerIn K C f=some none:=by
 unfold PySem.W.takerIn;rw[show PySem.W.findIn K (.ref C) f=some none from n];rfl
structure Meth(K:PySem.W.Frag)(C:Addr)(m:Str)(f:Addr):Prop where
 at_:PySem.W.findIn K (.ref C) m=some (some (.ref f))
 fn:PySem.W.isFn K (.ref f)=true
 kp:PySem.W.keepIn K (.ref f)=true
section
variable{X:Cx}{pins:List (Addr×Obj)}{σ : St}{H:Hp}{s:Shared}{a C dx:Addr}{fs:List (Str×V)}{f:Str}{v:V}{A:Around}{E:Value->Shared->Prop}
theorem ZeJ{b:Bool}{Q:Value->Shared->Prop}(I:Inv X pins σ H s)(e:H a=some (.ins C dx fs))(c:Cls X.K C)(n:Zdd X.K C f)(l:fs.lookup f=some v)
  (h:∀u s',Inv X pins σ H s'->RelV v u->Q u s'):wpAny (model X.prog X.w) A (getAttr (.ref a) f b) Q E s:=by
 obtain⟨mA,O,r,_,_,_⟩:=ZeX I.hok e;obtain⟨u,hu,ru⟩:=ZfH.some_of (v:=v) (o:=mA f) (by rw[<- l];exact r f);exact Zmd I.kIn O (c.get f) c.hd n hu (Zj0 ru) (h u _ (I.tok _) ru)
theorem Zcv{m:Str}{g:Addr}{pl:Sem Bool}{Q:Value×List Value->Shared->Prop}(I:Inv X pins σ H s)(e:H a=some (.ins C dx fs))(c:Cls X.K C)(k:Meth X.K C m g)(l:fs.lookup m=none)
  (h:Q (.ref g,[.ref a]) s):wpAny (model X.prog X.w) A (getMethod (.ref a) m pl) Q E s:=by
 obtain⟨mA,O,r,_,_,_⟩:=ZeX I.hok e;have hn:mA m=none:=ZfH.none_of (by rw[<- l];exact r m);exact ZkI I.kIn O (c.get m) k.at_ k.fn hn h
theorem Zeu{y:V}{u:Value}{Q:Unit->Shared->Prop}(I:Inv X pins σ H s)(e:H a=some (.ins C dx fs))(c:Cls X.K C)(n:Zdd X.K C f)(hl:fs.length<1000)(ry:RelV y u)
  (h:∀s',Inv X pins σ (upd H a (.ins C dx (ZfD f y fs))) s'->Q () s'):wpAny (model X.prog X.w) A (setAttr (.ref a) f u) Q E s:=by
 obtain⟨mA,O,r,wi,_,ho⟩:=ZeX I.hok e;have hz:(fs.map (·.1)).length<=sizeLine:=by rw[List.length_map,sizeLine_eq];lia
 refine ZmT I.kIn O c.sa c.po n.taker c.hd wi hz fun h' O' sb=>h _ ?_;have hd:∃o,h'.get? dx=some o:=let ⟨o,_,_,e',_⟩:=O'.ns;⟨o,e'⟩;refine I.write (x:=a) (e:=dx) (by rw[e];exact True.intro) (.inr ho) (fun b q hb z=>(sb.2 b hb).trans z) hd ?_;refine⟨by rw[Zu O.ne];exact ho,?_,O.ne,O'.obj,_,O'.ns,fun g=>?_,fun g hg=>?_⟩
 ·have:=Zd7 f y fs;lia
 ·show ZfH ((ZfD f y fs).lookup g) (if g=f then some u else mA g)
  rw[Zeh];by_cases q:g=f
  ·rw[if_pos q,if_pos q];exact ry
  ·rw[if_neg q,if_neg q];exact r g
 ·by_cases q:g=f
  ·rw[q];exact(Zd1 f y fs).1
  ·refine(Zd1 f y fs).2 g (wi g fun z=>hg ?_);show(if g=f then some u else mA g)=none
   rw[if_neg q];exact z
theorem Inv.made(I:Inv X pins σ H s):Inv X pins σ (upd (upd H s.heap.objs.size (.own (s.heap.objs.size+1))) (s.heap.objs.size+1) (.ins C s.heap.objs.size []))
  { s with heap:=(s.heap.push PySem.W.emptyDict).push (PySem.W.instObj C s.heap.objs.size) }:=by
 have e1:(s.heap.push PySem.W.emptyDict).get? s.heap.objs.size=some PySem.W.emptyDict:=Heap.get?_push_size s.heap rfl;have e2:((s.heap.push PySem.W.emptyDict).push (PySem.W.instObj C s.heap.objs.size)).get? (s.heap.objs.size+1)=some (PySem.W.instObj C s.heap.objs.size):=by
  have:=Heap.get?_push_size (s.heap.push PySem.W.emptyDict) (o:=PySem.W.instObj C s.heap.objs.size) rfl
  rwa [Heap.size_push] at this
 have e3:(s.heap.push PySem.W.emptyDict).Ns s.heap.objs.size (fun _=>none):=⟨PySem.W.emptyDict,#[],_,e1,rfl,(fun e he=>absurd he (by simp)),fun _=>rfl⟩;have I1:=I.laid (a:=s.heap.objs.size) (o:=.own (s.heap.objs.size+1)) (h':=s.heap.push PySem.W.emptyDict) (t':=s.toks) (fun b u q=>Heap.get?_push_of_some _ q) (Nat.le_refl _) ⟨_,e1⟩;refine I1.laid (a:=s.heap.objs.size+1) (o:=.ins C s.heap.objs.size []) (t':=s.toks) (fun b u q=>Heap.get?_push_of_some _ q) (Nat.le_of_eq (Heap.size_push _ _)) ?_;have ne:s.heap.objs.size≠s.heap.objs.size+1:=Nat.ne_of_lt (Nat.lt_succ_self _);refine⟨by rw[Zu ne,Zb],Nat.zero_le _,ne,e2,fun _=>none,(Heap.Ns1.of_empty e3).at fun o q=>Heap.get?_push_of_some _ q,fun _=>True.intro,fun y hy=>absurd rfl hy⟩
theorem Zm0{prog:Program}{w:World}{env:Env}{e:Expr}{f:Str}{pos:Pos}{s:Shared}{Q:Value->Shared->Prop}(hb:attributeBase e f env (eval e env)=eval e env)
  (h:wpAny (model prog w) A (eval e env) (fun o s₁=>wpAny (model prog w) A (getAttr o f true) Q E s₁) E s):wpAny (model prog w) A (eval (.Attribute e f pos) env) Q E s :=
 Attribute_any_ h (by rw[arm_eval_Attribute,hb])
end
def Zob(K:PySem.W.Frag)(ta:TE)(f:Str):TE:=fun σ H Q=>ta σ H fun x H1=>∃a C dx fs v,x=.ref a/\H1 a=some (.ins C dx fs)/\Cls K C/\Zdd K C f/\fs.lookup f=some v/\Q v H1
def Zpl(K:PySem.W.Frag)(ta tv:TE)(f:Str):TS:=fun D σ H=>tv σ H fun y H1=>ta σ H1 fun x H2=>∃a C dx fs,x=.ref a/\H2 a=some (.ins C dx fs)/\Cls K C/\Zdd K C f/\fs.length<1000 /\
 D.nx σ (upd H2 a (.ins C dx (ZfD f y fs)))
def ZoX(X:Cx)(op:Operator)(rd:V->V->Hp->VK->Prop):Prop :=
 ∀(pins:List (Addr×Obj))(s:Shared)(σ : St)(H:Hp)(x y:V)(u v:Value)(Q:VK),Inv X pins σ H s->RelV x u->RelV y v->rd x y H Q->wpAny (model X.prog X.w) X.A (inplaceOp op u v) (EP X pins σ Q) X.xe s
def Zmp(K:PySem.W.Frag)(ta tv:TE)(rd:V->V->Hp->VK->Prop)(f:Str):TS:=fun D σ H=>ta σ H fun x H1=>∃a C dx fs v,x=.ref a/\H1 a=some (.ins C dx fs)/\Cls K C/\Zdd K C f/\fs.lookup f=some v /\
 tv σ H1 fun y H2=>rd v y H2 fun z H3=>∃dx' fs',H3 a=some (.ins C dx' fs')/\fs'.length<1000/\D.nx σ (upd H3 a (.ins C dx' (ZfD f z fs')))
section
variable{X:Cx}{o e value:Expr}{f:Str}{pos pos' tpos:Pos}{ta tv:TE}
theorem ZcR(he:PE X e ta)(hb:attributeBase e f X.env (eval e X.env)=eval e X.env):PE X (.Attribute e f pos) (Zob X.K ta f):=by
 intro pins s σ H Q I h;refine Zm0 hb (thn (he pins s σ H _ I h) fun u s1 ⟨x,H1,I1,rx,a,C,dx,fs,v,ex,ea,c,n,l,q⟩=>?_);subst ex;obtain rfl:u=Value.ref a:=rx;exact ZeJ I1 ea c n l fun u' s2 I2 ru=>⟨v,H1,I2,ru,q⟩
theorem ZlL(ha:PE X o ta)(hv:PE X value tv)(hs:swapsWith value (some (.Attribute o f pos')) pos.line X.env=pure false):PS X (.Assign [.Attribute o f pos'] value pos) (Zpl X.K ta tv f):=by
 intro pins s σ H D I h;refine plainObj_wpAny_Assign_Attribute (thn (hv pins s σ H _ I h) fun u s1 ⟨y,H1,I1,ry,q⟩=>thn (ha pins s1 σ H1 _ I1 q) fun ov s2 ⟨x,H2,I2,rx,a,C,dx,fs,ex,ea,c,n,l,q2⟩=>?_) hs;subst ex;obtain rfl:ov=Value.ref a:=rx;exact Zeu I2 ea c n l ry fun s3 I3=>⟨σ,_,I3,q2⟩
theorem ZfK{op:Operator}{rd:V->V->Hp->VK->Prop}(ha:PE X o ta)(hv:PE X value tv)(hop:ZoX X op rd):PS X (.AugAssign (.Attribute o f tpos) op value pos) (Zmp X.K ta tv rd f):=by
 intro pins s σ H D I h;refine wpAny_AugAssign_AttributeAny (thn (ha pins s σ H _ I h) fun ov s1 ⟨x,H1,I1,rx,a,C,dx,fs,v,ex,ea,c,n,l,q⟩=>?_);subst ex;obtain rfl:ov=Value.ref a:=rx;refine ZeJ I1 ea c n l fun u s2 I2 ru=>thn (hv pins s2 σ H1 _ I2 q) fun w3 s3 ⟨y,H2,I3,ry,q3⟩=>thn (hop pins s3 σ H2 v y u w3 _ I3 ru ry q3) fun w4 s4 ⟨z,H3,I4,rz,dx',fs',ea',l',q4⟩=>?_;exact Zeu I4 ea' c n l' rz fun s5 I5=>⟨σ,_,I5,q4⟩
def Zo1:V->V->Hp->VK->Prop:=fun x y H Q=>∃i j,x=.int i/\y=.int j/\Q (.int (i+j)) H
theorem ZlE:ZoX X .Add Zo1:=by
 rintro pins s σ H x y u v Q I rx ry ⟨i,j,rfl,rfl,q⟩;obtain⟨t,rfl⟩:=(show ∃t,u=Value.int i t from rx);obtain⟨t',rfl⟩:=(show ∃t',v=Value.int j t' from ry);exact PyProof.Rows.iadd_int ⟨.int (i+j),H,I.tok _,⟨_,rfl⟩,q⟩
end
section
variable{X:Cx}{pins:List (Addr×Obj)}{σ : St}{H:Hp}{s:Shared}{A:Around}{E:Value->Shared->Prop}{Q:Value->Shared->Prop}{c:Value}{b:Bool}
inductive TyOf(K:PySem.W.Frag)(H:Hp):V->Value->Prop where
 | non:TyOf K H .non (.type "NoneType")
 | bl (x:Bool):TyOf K H (.bl x) (.type "bool")
 | int (i:Int):TyOf K H (.int i) (.type "int")
 | str (x:Str):TyOf K H (.str x) (.type "str")
 | flt (x:UInt64):TyOf K H (.flt x) (.type "float")
 | lst {a:Addr} {xs:List V} (e:H a=some (.lst xs)):TyOf K H (.ref a) (.type "list")
 | frz {a:Addr} {o:Obj} {xs:List V} (e:H a=some (.frz o (.lst xs))):TyOf K H (.ref a) (.type "list")
 | tup {a:Addr} {xs:List V} (e:H a=some (.tup xs)):TyOf K H (.ref a) (.type "tuple")
 | dK {a:Addr} {kvs:List (Key×V)} (e:H a=some (.dK kvs)):TyOf K H (.ref a) (.type "dict")
 | dT {a:Addr} {kvs:List (List Key×V)} (e:H a=some (.dT kvs)):TyOf K H (.ref a) (.type "dict")
 | ins {a C dx:Addr} {fs:List (Str×V)} (e:H a=some (.ins C dx fs)) (cl:Cls K C) (ha:PySem.W.findIn K (.ref C) "__class__" = some (some (.builtin "object.__class__")))
   (hn:PySem.W.specialIn K (.builtin "object.__class__") "__get__" = some (some (.builtin "getset_descriptor.__get__"))) (htk:PySem.W.takesIn K (.builtin "object.__class__")=some true)
   (hm:PySem.W.mroIn K C (.type "object")=some true):TyOf K H (.ref a) (.ref C)
theorem Zjz{x:V}{u t:Value}(I:Inv X pins σ H s)(rx:RelV x u)(ty:TyOf X.K H x t)(e:PySem.W.kitOne X.K t c=some b)(h:∀tk,Q (.bool b) { s with toks:=tk }) :
  wpAny (model X.prog X.w) A (call (.builtin "isinstance") [u,c]) Q E s:=by
 cases ty with
 | non=>cases (show u=Value.none from rx);exact PySem.W.kia_one PySem.W.kitx_none I.kIn True.intro e (fun z=>nomatch z) h
 | bl y=>cases (show u=Value.bool y from rx);exact PySem.W.kia_one PySem.W.kitx_bool I.kIn True.intro e (fun z=>nomatch z) h
 | int i=>obtain⟨t,q⟩:=(show ∃t,u=Value.int i t from rx);cases q;exact PySem.W.kia_one PySem.W.kitx_int I.kIn True.intro e (fun z=>nomatch z) h
 | str y=>obtain⟨t,q⟩:=(show ∃t,u=Value.str y t from rx);cases q;exact PySem.W.kia_one PySem.W.kitx_str I.kIn True.intro e (fun z=>nomatch z) h
 | flt y=>obtain⟨t,q⟩:=(show ∃t,u=Value.float y t from rx);cases q;exact PySem.W.kia_one PySem.W.kitx_float I.kIn True.intro e (fun z=>nomatch z) h
 | @lst a xs ea =>
  cases (show u=Value.ref a from rx);obtain⟨_,_,n,_,h1⟩:=(show ZaL X.prog X.w H s.heap a (.lst xs) from I.hok a _ ea);exact PySem.W.kia_one PySem.W.kitx_list I.kIn ⟨_,h1,rfl⟩ e (fun z=>nomatch z) h
 | @frz a ob xs ea =>
  cases (show u=Value.ref a from rx);obtain⟨_,_,_,n,_,h1⟩:=(show ZaL X.prog X.w H s.heap a (.frz ob (.lst xs)) from I.hok a _ ea);exact PySem.W.kia_one PySem.W.kitx_list I.kIn ⟨_,h1,rfl⟩ e (fun z=>nomatch z) h
 | @tup a xs ea =>
  cases (show u=Value.ref a from rx);obtain⟨_,_,_,p⟩:=(show ZaL X.prog X.w H s.heap a (.tup xs) from I.hok a _ ea);obtain⟨o,h1,h2,_⟩:=p;exact PySem.W.kia_one PySem.W.kitx_tuple I.kIn ⟨o,h1,h2⟩ e (fun z=>nomatch z) h
 | @dK a kvs ea =>
  cases (show u=Value.ref a from rx);obtain⟨_,_,vs,_,p⟩:=(show ZaL X.prog X.w H s.heap a (.dK kvs) from I.hok a _ ea);obtain⟨o,es,ep,h1,h2,_⟩:=p;exact PySem.W.kia_one PySem.W.kitx_dict I.kIn ⟨o,h1,h2.1⟩ e (fun z=>nomatch z) h
 | @dT a kvs ea =>
  cases (show u=Value.ref a from rx);obtain⟨_,_,xs,_,o,es,ep,h1,h2,_⟩:=(show ZaL X.prog X.w H s.heap a (.dT kvs) from I.hok a _ ea);exact PySem.W.kia_one PySem.W.kitx_dict I.kIn ⟨o,h1,h2.1⟩ e (fun z=>nomatch z) h
 | @ins a C dx fs ea cl ha hn htk hm =>
  cases (show u=Value.ref a from rx);obtain⟨mA,O,_⟩:=ZeX I.hok ea;obtain⟨od,J,_⟩:=O.look;exact PySem.W.kia_one (PySem.W.kitx_own (cl.get _) cl.hd ha hn htk hm) I.kIn J e (fun z=>nomatch z) h
end
structure Room(k:Nat)(A:Around):Prop where
 hd:A.handled=none
 dp:A.depth+2*k+5<recursionLimit
 un:A.units+16*k+200<cLine
 gd:A.guards=some []
theorem Room.mono{j k:Nat}{A:Around}(r:Room k A)(h:j<=k):Room j A:=⟨r.hd,by have:=r.dp;lia,by have:=r.un;lia,r.gd⟩
theorem Room.deeper{k:Nat}{A:Around}(r:Room (k+1) A)(env:Env):Room k (A.deeper env) :=
 ⟨r.hd,by have:=r.dp;show A.depth+1+2*k+5<_;lia,by have:=r.un;show A.units+3+16*k+200<_;lia,r.gd⟩
theorem Zib{A:Around}{C:Addr}{us:List Value}{kw:List (Str×Value)}:(A.under (.builtin "type.__call__" ⟨.ref C::us,kw⟩)).depth=A.depth+1:=by
 first|rfl|simp[Around.under,Code.weight,Code.isCreation,Code.isGuard,Code.isCaller,Code.frames,Code.isFrame,guardIds]
theorem Zh8{A:Around}{C:Addr}{us:List Value}{kw:List (Str×Value)}:(A.under (.builtin "type.__call__" ⟨.ref C::us,kw⟩)).units=A.units+1:=by
 first|rfl|simp[Around.under,Code.cUnits,Code.frames,Code.isFrame]
theorem Zgg{A:Around}{C:Addr}{us:List Value}{kw:List (Str×Value)}:(A.under (.builtin "type.__call__" ⟨.ref C::us,kw⟩)).guards=A.guards:=by
 have h:(Code.builtin "type.__call__" ⟨.ref C::us,kw⟩).guards=[]:=by first|rfl|simp[Code.guards,Code.isGuard,guardIds]
 unfold Around.under;dsimp only;rw[h];cases A.guards <;> rfl
theorem Room.make{k:Nat}{A:Around}(r:Room (k+1) A)(C:Addr)(us:List Value)(kw:List (Str×Value)):Room k (A.under (.builtin "type.__call__" ⟨.ref C::us,kw⟩)) :=
 ⟨r.hd,by have:=r.dp;rw[Zib];lia,by have:=r.un;rw[Zh8];lia,by rw[Zgg];exact r.gd⟩
theorem Room.depth{k:Nat}{A:Around}(r:Room k A):A.depth<recursionLimit:=by have:=r.dp;lia
def Zhg:TA:=fun _ H Q=>Q [] H
def Zc0(ta:TE)(tr:TA):TA:=fun σ H Q=>ta σ H fun x H1=>tr σ H1 fun xs H2=>Q (x::xs) H2
section
variable{X:Cx}{e:Expr}{es:List Expr}{te:TE}{t:TA}{pos:Pos}
theorem Zd:PA X [] Zhg:=fun _ _ _ _ H Q I h=>Calls.spliced_nil ⟨[],H,I,.nil,h⟩
theorem Za(ha:PE X e te)(hr:PA X es t)(hs:starEach (e::es) X.env=(false,eval e X.env)::starEach es X.env:=by rfl):PA X (e::es) (Zc0 te t):=by
 intro pos pins s σ H Q I h;rw[hs];show wpAny _ _ (spliced ((false,eval e X.env)::backTo pos (starEach es X.env))) _ _ s;refine Calls.spliced_cons (thn (ha pins s σ H _ I h) fun u s1 ⟨x,H1,I1,r1,q1⟩=>?_);exact thn (hr pos pins s1 σ H1 _ I1 q1) fun us s2 ⟨xs,H2,I2,r2,q2⟩=>⟨x::xs,H2,I2,.cons r1 r2,q2⟩
def Zn7(t:TA):TE:=fun σ H Q=>t σ H fun xs H1=>xs.length<=sizeLine/\∀p,H1 p=none->Q (.ref p) (upd H1 p (.tup xs))
def ZoQ(t:TA):TE:=fun σ H Q=>t σ H fun xs H1=>xs.length<=sizeLine/\∀p,H1 p=none->Q (.ref p) (upd H1 p (.lst xs))
theorem Zbs{x1}(h:PA X es t):PE X (.Tuple es x1 pos) (Zn7 t):=by
 intro pins s σ H Q I hq;refine wpAny_Tuple_spliced (thn (h pos pins s σ H _ I hq) fun us s1 ⟨xs,H1,I1,r,z,q⟩=>⟨by rw[<- r.length];exact z,?_⟩);have hf:H1 s1.heap.objs.size=none:=I1.hok.fresh (Nat.le_refl _);refine⟨.ref s1.heap.objs.size,upd H1 s1.heap.objs.size (.tup xs),I1.laid (t':=s1.toks) (fun b u e=>Heap.get?_push_of_some _ e) (Nat.le_refl _) ?_,rfl,q _ hf⟩;exact⟨z,us,r,⟨_,Heap.get?_push_size _ rfl,rfl,_,rfl⟩⟩
theorem Zb6(h:PA X es t):PE X (.List es pos) (ZoQ t):=by
 intro pins s σ H Q I hq;refine wpAny_List_spliced (thn (h pos pins s σ H _ I hq) fun us s1 ⟨xs,H1,I1,r,z,q⟩=>⟨by rw[<- r.length];exact z,?_⟩);have hf:H1 s1.heap.objs.size=none:=I1.hok.fresh (Nat.le_refl _);refine⟨.ref s1.heap.objs.size,upd H1 s1.heap.objs.size (.lst xs),I1.laid (t':=s1.toks) (fun b u e=>Heap.get?_push_of_some _ e) (Nat.le_refl _) ?_,rfl,q _ hf⟩;exact⟨z,us,0,r,Heap.get?_push_size _ rfl⟩
end
abbrev Sp:=List V->Hp->VK->XK->Prop
abbrev CXT:=List Env->Hp->Shared->XK->Value->Shared->Prop
structure Env0(P:Program)(w:World)(K:PySem.W.Frag)(mg:Str->Option Value)(base:Heap)(A:Around)(outer:List Env)(s:Shared)(H:Hp):Prop where
 frames:A.frames=some outer
 mod:Mod K mg base
 bs:∀b o,base.get? b=some o->s.heap.get? b=some o/\H b=none
 bsz:base.objs.size<=s.heap.objs.size
 funs:s.heap.FunFrames base outer
 frf:∀b∈frs outer,H b=none
 hok:HOk P w H s.heap
 bare:AllBare s.gens
def CE(outer:List Env)(P:Program)(w:World)(H:Hp)(s:Shared)(Q:VK)(u:Value)(s':Shared):Prop :=
 ∃v H',s'.os=s.os/\AllBare s'.gens/\Un (frs outer) [] H H' s.heap s'.heap/\HOk P w H' s'.heap/\RelV v u/\Q v H'
def CR(CX:CXT)(outer:List Env)(P:Program)(w:World)(H:Hp)(s:Shared)(Q:VK)(E:XK)(r:Result)(s':Shared):Prop :=
 match r with
 | .ok (.ret u)=>CE outer P w H s Q u s'
 | .ok _=>False
 | .error e=>CX outer H s E e s'
structure FnOk(P:Program)(w:World)(K:PySem.W.Frag)(mg:Str->Option Value)(base:Heap)(CX:CXT)(k:Nat)(f:Addr)(fd:FuncData)(ps:List Str)(sp:Sp):Prop where
 len:∀vs H Q E,sp vs H Q E->vs.length=ps.length
 run:∀(A:Around)(outer:List Env)(s:Shared)(H:Hp)(args:Args)(us:List Value)(vs:List V)(Q:VK)(E:XK),Room k A->Env0 P w K mg base A outer s H->BindsTo s fd args (ps.zip us)->Vals vs us->sp vs H Q E ->
  codeAny (model P w) A (.call (.ref f) args) (CR CX outer P w H s Q E) s
theorem Env0.make{P:Program}{w:World}{K:PySem.W.Frag}{mg:Str->Option Value}{base:Heap}{A:Around}{outer:List Env}{s:Shared}{H:Hp}(e:Env0 P w K mg base A outer s H)(C:Addr)(us:List Value)(kw:List (Str×Value)) :
  Env0 P w K mg base (A.under (.builtin "type.__call__" ⟨.ref C::us,kw⟩)) outer s H:=⟨by first|exact e.frames|(simpa[Around.under,Code.envs,Code.isFrame,pushEnvs] using e.frames),e.mod,e.bs,e.bsz,e.funs,e.frf,e.hok,e.bare⟩
section
variable{X:Cx}{pins:List (Addr×Obj)}{σ : St}{H:Hp}{s s':Shared}
theorem Inv.env0(I:Inv X pins σ H s):Env0 X.prog X.w X.K X.mg X.base X.A X.stack s H :=
 ⟨I.ok.frames,I.ok.mod,I.bs,Nat.le_trans I.ok.bsz I.sz,I.stack,I.stkFree,I.hok,I.bare⟩
theorem Inv.after{Q:VK}{u:Value}(I:Inv X pins σ H s)(h:CE X.stack X.prog X.w H s Q u s'):EP X pins σ Q u s':=by
 obtain⟨v,H',os,bare,un,hok,r,q⟩:=h;obtain⟨hh,g,d,t,os'⟩:=s';obtain rfl:os'=s.os:=os;exact⟨v,H',I.call (h':=hh) (g':=g) (d':=d) (t':=t) (ch:=[]) un hok bare (fun b z=>absurd z (by simp)),r,q⟩
end
def Zne(sp:Sp)(dvs:List V)(E:XK)(t:TA):TE:=fun σ H Q=>t σ H fun vs H1=>sp (vs++dvs) H1 Q E
def Zk6(C:Addr)(m:Str)(sp:Sp)(dvs:List V)(E:XK)(ta:TE)(t:TA):TE:=fun σ H Q=>ta σ H fun x H1=>∃a dx fs,x=.ref a/\H1 a=some (.ins C dx fs)/\fs.lookup m=none /\
 t σ H1 fun vs H2=>sp (x::(vs++dvs)) H2 Q E
def ZnJ(C:Addr)(sp:Sp)(dvs:List V)(E:XK)(t:TA):TE:=fun σ H Q=>t σ H fun vs H1=>∀x dx,H1 x=none->H1 dx=none->dx≠x ->
 sp (.ref x::(vs++dvs)) (upd (upd H1 dx (.own x)) x (.ins C dx [])) (fun v H2=>v=.non/\Q (.ref x) H2) E
def Binds(K:PySem.W.Frag)(fd:FuncData)(ps:List Str)(ds:List Value):Prop :=
 ∀(s:Shared)(us:List Value),K.In s.heap->(us++ds).length=ps.length->BindsTo s fd ⟨us,[]⟩ (ps.zip (us++ds))
theorem Binds.all{K:PySem.W.Frag}{fd:FuncData}{ps:List Str}(h:∀us:List Value,us.length=ps.length->bindArgs fd ⟨us,[]⟩=pure (ps.zip us)):Binds K fd ps []:=fun s us _ hl=>by
 rw[List.append_nil] at hl ⊢;exact .of_eq (h us hl)
def Zed(CX:CXT)(X:Cx)(E:XK):Prop := ∀(pins:List (Addr×Obj))(σ : St)(H:Hp)(s:Shared)(e:Value)(s':Shared),Inv X pins σ H s->CX X.stack H s E e s'->X.xe e s'
section
variable{X:Cx}{CX:CXT}{k:Nat}{f C:Addr}{fd:FuncData}{ps:List Str}{sp:Sp}{dvs:List V}{ds:List Value}{E:XK}{x m:Str}{p pos apos:Pos}{e o:Expr}{es:List Expr}{ta:TE}{t:TA}
theorem ZjW{pins:List (Addr×Obj)}{σ : St}{H:Hp}{s:Shared}{Q:VK}{us:List Value}{vs:List V}(F:FnOk X.prog X.w X.K X.mg X.base CX k f fd ps sp)(hr:Room k X.A)(hb:Binds X.K fd ps ds)(hd:Vals dvs ds)(hx:Zed CX X E)
  (I:Inv X pins σ H s) (r:Vals vs us) (h:sp (vs++dvs) H Q E):wpAny (model X.prog X.w) X.A (call (.ref f) us) (EP X pins σ Q) X.xe s:=by
 have r2:Vals (vs++dvs) (us++ds):=r.append hd;have hl:(us++ds).length=ps.length:=by rw[<- r2.length];exact F.len _ _ _ _ h
 refine wpAny_call (codeAny_mono (F.run X.A X.stack s H ⟨us,[]⟩ (us++ds) (vs++dvs) Q E hr I.env0 (hb s us I.kIn hl) r2 h) fun r s' hq=>?_);cases r with
 | error e=>exact hx pins σ H s e s' I hq
 | ok fl =>
  cases fl with
  | ret u=>exact I.after hq
  | next=>exact False.elim hq
  | brk=>exact False.elim hq
  | cont=>exact False.elim hq
theorem ZmL(F:FnOk X.prog X.w X.K X.mg X.base CX k f fd ps sp)(hr:Room k X.A)(hg:Gl X x)(hm:X.mg x=some (.ref f))(hk:PySem.W.keepIn X.K (.ref f)=true)(hb:Binds X.K fd ps ds)(hd:Vals dvs ds)(hx:Zed CX X E)
  (ha:PA X (e::es) t) (hdb:(x == ("__debug__" : Str))=false:=by decide) (he:starEach (e::es) X.env=(false,eval e X.env)::starEach es X.env:=by rfl) (hpl:(backTo pos (starEach es X.env)).any (·.1)=false:=by rfl) :
  PE X (.Call (.Name x p) (e::es) [] pos) (Zne sp dvs E t):=by
 intro pins s σ H Q I h;refine wpAny_Call_Name_kw (ZcF I hg hm ?_ hdb);refine PySem.W.callWith_K (h₀ := X.base) I.ok.mod.kin hk (thn (ha pos pins s σ H _ I h) fun us s1 ⟨vs,H1,I1,r,q⟩=>⟨I1.kIn,?_⟩) he hpl;exact ZjW F hr hb hd hx I1 r q
theorem ZlZ{pl:Sem Bool}(he:PE X o ta)(c:Cls X.K C)(hm:Meth X.K C m f)(F:FnOk X.prog X.w X.K X.mg X.base CX k f fd ps sp)(hr:Room k X.A)(hb:Binds X.K fd ps ds)(hd:Vals dvs ds)(hx:Zed CX X E)(ha:PA X (e::es) t)
  (hst:starEach (e::es) X.env=(false,eval e X.env)::starEach es X.env:=by rfl) (hpl:(backTo pos (starEach es X.env)).any (·.1)=false:=by rfl)
  (ht:eval (.Call (.Attribute o m apos) (e::es) [] pos) X.env=(do
   let ov <- eval o X.env
   standAt apos.atName
   let (f,first) <- holding [ov] (getMethod ov m pl)
   callWith pos f first (backTo pos (starEach (e::es) X.env)) (backToKw pos (keywordEach [] X.env))):=by rfl) :
  PE X (.Call (.Attribute o m apos) (e::es) [] pos) (Zk6 C m sp dvs E ta t):=by
 intro pins s σ H Q I h;refine PySem.W.methodCall_KW (pl:=pl) (thn (he pins s σ H _ I h) fun u s1 ⟨x,H1,I1,rx,a,dx,fs,ex,ea,l,q⟩=>?_) ht;subst ex;obtain rfl:u=Value.ref a:=rx;refine Zcv I1 ea c hm l ?_;refine PySem.W.callWith_K (first:=[.ref a]) (h₀ := X.base) I.ok.mod.kin hm.kp (thn (ha pos pins s1 σ H1 _ I1 q) fun us s2 ⟨vs,H2,I2,r,q2⟩=>⟨I2.kIn,?_⟩) hst hpl
 exact ZjW (us:=.ref a::us) (vs:=.ref a::vs) F hr hb hd hx I2 (.cons rfl r) q2
theorem Zkn{pl:Sem Bool}(he:PE X o ta)(c:Cls X.K C)(hm:Meth X.K C m f)(F:FnOk X.prog X.w X.K X.mg X.base CX k f fd ps sp)(hr:Room k X.A)(hb:Binds X.K fd ps ds)(hd:Vals dvs ds)(hx:Zed CX X E)
  (ht:eval (.Call (.Attribute o m apos) [] [] pos) X.env=(do
   let ov <- eval o X.env
   standAt apos.atName
   let (f,first) <- holding [ov] (getMethod ov m pl)
   callWith pos f first (backTo pos (starEach [] X.env)) (backToKw pos (keywordEach [] X.env))):=by rfl) :
  PE X (.Call (.Attribute o m apos) [] [] pos) (Zk6 C m sp dvs E ta Zhg):=by
 intro pins s σ H Q I h;refine PySem.W.methodCall_KW (pl:=pl) (thn (he pins s σ H _ I h) fun u s1 ⟨x,H1,I1,rx,a,dx,fs,ex,ea,l,q⟩=>?_) ht;subst ex;obtain rfl:u=Value.ref a:=rx;refine Zcv I1 ea c hm l ?_;exact PySem.W.callWith_K0 (first:=[.ref a]) I1.kIn hm.kp (ZjW (us:=[.ref a]) (vs:=[.ref a]) F hr hb hd hx I1 (.cons rfl .nil) q)
structure Mk(K:PySem.W.Frag)(C f:Addr):Prop where
 makes:PySem.W.makesIn K C=true
 init:PySem.W.findIn K (.ref C) "__init__" = some (some (.ref f))
 fn:PySem.W.isFn K (.ref f)=true
 kp:PySem.W.keepIn K (.ref C)=true
theorem Zkv{pins:List (Addr×Obj)}{σ : St}{H:Hp}{s:Shared}{Q:VK}{us:List Value}{vs:List V}(M:Mk X.K C f)(F:FnOk X.prog X.w X.K X.mg X.base CX k f fd ps sp)(hr:Room (k+1) X.A)(hb:Binds X.K fd ps ds)(hd:Vals dvs ds)
  (hx:Zed CX X E) (I:Inv X pins σ H s) (r:Vals vs us)
  (h:∀x dx,H x=none->H dx=none->dx≠x->sp (.ref x::(vs++dvs)) (upd (upd H dx (.own x)) x (.ins C dx [])) (fun v H2=>v=.non/\Q (.ref x) H2) E) :
  wpAny (model X.prog X.w) X.A (call (.ref C) us) (EP X pins σ Q) X.xe s:=by
 have hq:=h (s.heap.objs.size+1) s.heap.objs.size (I.hok.fresh (Nat.le_succ _)) (I.hok.fresh (Nat.le_refl _)) (Nat.ne_of_lt (Nat.lt_succ_self _));have I2:=Inv.made (C:=C) I;have r2:Vals (V.ref (s.heap.objs.size+1)::(vs++dvs)) (Value.ref (s.heap.objs.size+1)::(us++ds)):=.cons rfl (r.append hd);have hl:(Value.ref (s.heap.objs.size+1)::us++ds).length=ps.length:=by
  have e:=r2.length;rw[F.len _ _ _ _ hq] at e;exact e.symm
 refine wpAny_call (Zku (f:=f) I.kIn M.makes M.init (beq_iff_eq.mp M.fn) (codeAny_mono (F.run _ X.stack _ _ ⟨Value.ref (s.heap.objs.size+1)::us,[]⟩ (Value.ref (s.heap.objs.size+1)::(us++ds)) _ _ E (hr.make C us [])
  (I2.env0.make C us []) (hb _ (Value.ref (s.heap.objs.size+1)::us) I2.kIn hl) r2 hq) fun r s' hq'=>?_))
 cases r with
 | error e=>exact hx pins σ _ _ e s' I2 hq'
 | ok fl =>
  cases fl with
  | ret u =>
   obtain⟨v,H',I3,rv,ev,q3⟩:=I2.after hq';subst ev;exact⟨rv,⟨V.ref (s.heap.objs.size+1),H',I3,rfl,q3⟩⟩
  | next=>exact False.elim hq'
  | brk=>exact False.elim hq'
  | cont=>exact False.elim hq'
theorem ZmU(M:Mk X.K C f)(F:FnOk X.prog X.w X.K X.mg X.base CX k f fd ps sp)(hr:Room (k+1) X.A)(hg:Gl X x)(hm:X.mg x=some (.ref C))(hb:Binds X.K fd ps ds)(hd:Vals dvs ds)(hx:Zed CX X E)
  (ha:PA X (e::es) t) (hdb:(x == ("__debug__" : Str))=false:=by decide) (he:starEach (e::es) X.env=(false,eval e X.env)::starEach es X.env:=by rfl) (hpl:(backTo pos (starEach es X.env)).any (·.1)=false:=by rfl) :
  PE X (.Call (.Name x p) (e::es) [] pos) (ZnJ C sp dvs E t):=by
 intro pins s σ H Q I h;refine wpAny_Call_Name_kw (ZcF I hg hm ?_ hdb);refine PySem.W.callWith_K (h₀ := X.base) I.ok.mod.kin M.kp (thn (ha pos pins s σ H _ I h) fun us s1 ⟨vs,H1,I1,r,q⟩=>⟨I1.kIn,?_⟩) he hpl;exact Zkv M F hr hb hd hx I1 r q
end
def PK(X:Cx)(kws:List Keyword)(t:TA):Prop :=
 ∀(pos:Pos)(pins:List (Addr×Obj))(s:Shared)(σ : St)(H:Hp)(Q:List V->Hp->Prop),Inv X pins σ H s->t σ H Q->wpAny (model X.prog X.w) X.A (evalAll ((backToKw pos (keywordEach kws X.env)).map (·.2))) (AP X pins σ Q) X.xe s
section
variable{X:Cx}{CX:CXT}{k:Nat}{f C:Addr}{fd:FuncData}{ps ks:List Str}{sp:Sp}{E:XK}{x m:Str}{p pos apos kpos:Pos}{e o:Expr}{es:List Expr}{kws:List Keyword}{te ta:TE}{t tk:TA}{nm:Option Str}
theorem Zn5:PK X [] Zhg:=fun _ _ _ _ H Q I h=>wpAny_evalAll_nil ⟨[],H,I,.nil,h⟩
theorem ZlR(ha:PE X e te)(hr:PK X kws t):PK X (⟨nm,e,kpos⟩::kws) (Zc0 te t):=by
 intro pos pins s σ H Q I h;show wpAny _ _ (evalAll ((do let v <- eval e X.env;standAt pos;pure v)::(backToKw pos (keywordEach kws X.env)).map (·.2))) _ _ s;refine wpAny_evalAll_cons (wpAny_bind (thn (ha pins s σ H _ I h) fun u s1 ⟨x,H1,I1,r1,q1⟩=>wpAny_bind (wpAny_standAt (wpAny_pure ?_))));exact thn (hr pos pins s1 σ H1 _ I1 q1) fun us s2 ⟨xs,H2,I2,r2,q2⟩=>⟨x::xs,H2,I2,.cons r1 r2,q2⟩
variable{g:List Value->List Value->List Value}{gV:List V->List V->List V}
end
structure FnScope(N P:List Str)(sc:Scope):Prop where
 kind:sc.kind=.function
 co:sc.isCoroutine=false
 gen:sc.isGenerator=false
 nd:N.Nodup
 pre:N.take P.length=P
 par:∀x∈P,sc.names.lookup x=some .local\/sc.names.lookup x=some .cell
 Zds:∀y∈sc.names,y.2 ≠ .free
theorem ZfN{kindOf:Str->Option NameKind}{x:Str}:∀{binds:List (Str×Value)}{m:Str->Option Value},(∀v,(x,v)∉binds)->bindL kindOf binds m x=m x
 | [],_,_=>rfl
 | (n,v)::r,m,h=>by
  unfold bindL;rw[ZfN fun w hw=>h w (List.mem_cons_of_mem _ hw)]
  split
  ·have:x≠n:=by rintro rfl;exact h v List.mem_cons_self
   simp[this]
  ·rfl
theorem ZfS{kindOf:Str->Option NameKind}{x:Str}:∀{binds:List (Str×Value)}{m:Str->Option Value},(∀v,(x,v)∉binds)->bindC kindOf binds m x=m x
 | [],_,_=>rfl
 | (n,v)::r,m,h=>by
  unfold bindC;rw[ZfS fun w hw=>h w (List.mem_cons_of_mem _ hw)]
  split
  ·rfl
  ·have:x≠n:=by rintro rfl;exact h v List.mem_cons_self
   simp[this]
theorem ZfU{kindOf:Str->Option NameKind}{x:Str}{v:Value}:∀{P:List Str}{vs:List Value}{i:Nat}{m:Str->Option Value},P.Nodup->P[i]?= some x->vs[i]?= some v->kindOf x=some .local ->
  bindL kindOf (P.zip vs) m x=some v
 | [],_,_,_,_,h,_,_=>by simp at h
 | _::_,[],_,_,_,_,h,_=>by simp at h
 | p::P,w::vs,0,m,nd,h1,h2,hk=>by
  simp at h1 h2;subst h1;subst h2;show bindL kindOf ((p,w)::P.zip vs) m p=_;unfold bindL;rw[ZfN fun v hv=>(List.nodup_cons.mp nd).1 (List.of_mem_zip hv).1,if_pos hk];simp
 | p::P,w::vs,i+1,m,nd,h1,h2,hk=>by
  show bindL kindOf ((p,w)::P.zip vs) m x=_;unfold bindL;exact ZfU (i:=i) (List.nodup_cons.mp nd).2 (by simpa using h1) (by simpa using h2) hk
theorem Zf0{kindOf:Str->Option NameKind}{x:Str}{v:Value}:∀{P:List Str}{vs:List Value}{i:Nat}{m:Str->Option Value},P.Nodup->P[i]?= some x->vs[i]?= some v->kindOf x≠some .local ->
  bindC kindOf (P.zip vs) m x=some v
 | [],_,_,_,_,h,_,_=>by simp at h
 | _::_,[],_,_,_,_,h,_=>by simp at h
 | p::P,w::vs,0,m,nd,h1,h2,hk=>by
  simp at h1 h2;subst h1;subst h2;show bindC kindOf ((p,w)::P.zip vs) m p=_;unfold bindC;rw[ZfS fun v hv=>(List.nodup_cons.mp nd).1 (List.of_mem_zip hv).1,if_neg hk];simp
 | p::P,w::vs,i+1,m,nd,h1,h2,hk=>by
  show bindC kindOf ((p,w)::P.zip vs) m x=_;unfold bindC;exact Zf0 (i:=i) (List.nodup_cons.mp nd).2 (by simpa using h1) (by simpa using h2) hk
def start(N:List Str)(vs:List V):St:=vs.map some++List.replicate (N.length-vs.length) none
def Zko(CX:CXT)(P:Program)(w:World)(K:PySem.W.Frag)(mg:Str->Option Value)(base:Heap)(N:List Str)(qual:Str)(scope:Scope)(f:Addr)(cd:Value)(A:Around)(outer:List Env)(s:Shared)(H:Hp)(E:XK):Cx where
 prog:=P
 w:=w
 K:=K
 mg:=mg
 base:=base
 A:=A.deeper (envOfC qual scope s.heap.objs.size f cd)
 N:=N
 s₀ := s
 H₀ := H
 env:=envOfC qual scope s.heap.objs.size f cd
 outer:=outer
 stack:=envOfC qual scope s.heap.objs.size f cd::outer
 ex:=[]
 calm:=true
 fn:=fun _=>true
 pn:=[]
 xe:=fun e s'=>wpAny (model P w) (A.deeper (envOfC qual scope s.heap.objs.size f cd)) (leaving (envOfC qual scope s.heap.objs.size f cd) e) (fun _ s''=>CX outer H s E e s'') (fun e' s''=>CX outer H s E e' s'') s'
theorem Zg6{sc:Scope}{n:Nat}{x:Str}(h:sc.names.lookup x=some .cell):∃c,(cellsFrom n sc.names []).lookup x=some c:=by
 have q:=PySem.W.cellsFrom_some sc.names n [] (.inl h);exact Option.isSome_iff_exists.mp q
theorem Zjk{CX:CXT}{P:Program}{w:World}{K:PySem.W.Frag}{mg:Str->Option Value}{base:Heap}{N ps:List Str}{qual:Str}{scope:Scope}{f:Addr}{cd:Value}{A:Around}{outer:List Env}{s s1:Shared}{H:Hp}{E:XK}{us:List Value}{vs:List V}
  (S:FnScope N ps scope) (hd:A.handled=none) (e0:Env0 P w K mg base A outer s H) (hl:vs.length=ps.length) (r:Vals vs us)
  (x:InCallC s s.heap.objs.size (bindL (envOfC qual scope s.heap.objs.size f cd).kindOf (ps.zip us) fun _=>none) (cellsFrom (s.heap.objs.size+1) scope.names []) (bindC (envOfC qual scope s.heap.objs.size f cd).kindOf (ps.zip us) fun _=>none) s1) :
  Inv (Zko CX P w K mg base N qual scope f cd A outer s H E) [] (start N vs) H s1:=by
 have hpl:ps.length<=N.length:=by have:=congrArg List.length S.pre;rw[List.length_take] at this;lia
 obtain⟨h1,tk,rfl,hk⟩:=x.done;have noA:∀b:Addr,b∉(Zko CX P w K mg base N qual scope f cd A outer s H E).ex:=fun b z=>absurd (show b∈([]:List Addr) from z) (by simp);refine⟨⟨e0.mod,S.kind,rfl,rfl,Nat.le_refl _,fun y z c h1 h2=>?_,fun y hy=>?_,fun y c _ h=>?_,fun _=>hd,Around.frames_deeper e0.frames,.inr ⟨rfl,rfl⟩,fun b z=>absurd z (noA b),e0.bs,e0.bsz,fun b _ _=>noA b,fun b z=>absurd z (noA b),e0.funs,e0.frf⟩,
  rfl,e0.bare,Un.kept hk,⟨_,x.toInCall.ns,fun i y v h1 h2 h3=>?_⟩,fun y c h=>⟨_,x.cell y c h⟩,e0.hok.fresh (Nat.le_refl _),fun y c h=>?_,fun p hp=>absurd (show p∈([]:List (Addr×Obj)) from hp) (by simp),e0.hok.kept hk,?_⟩
 ·exact name_of_addr x.apart (PySem.mem_of_lookup h1) (PySem.mem_of_lookup h2)
 ·have hy:scope.names.lookup y=some .cell\/scope.names.lookup y=some .free:=hy;rcases hy with hy|hy
  ·exact Zg6 hy
  ·exact absurd rfl (S.Zds _ (PySem.mem_of_lookup hy))
 ·exact Nat.le_of_lt (x.above y c (PySem.mem_of_lookup h))
 ·have hi:i<vs.length:=by
   unfold start at h2;by_cases hi:i<vs.length
   ·exact hi
   ·rw[List.getElem?_append_right (by simpa using hi)] at h2;rw[List.getElem?_replicate] at h2
    split at h2 <;> cases h2
  have ha:vs[i]?= some v:=by
   unfold start at h2;rw[List.getElem?_append_left (by simpa using hi),List.getElem?_map] at h2;cases e:vs[i]? with
   | none=>rw[e] at h2;cases h2
   | some a=>rw[e] at h2;cases h2;rfl
  obtain⟨u,hu,rv⟩:=r.get ha;have hp:ps[i]?= some y:=by
   rw[<- S.pre,List.getElem?_take_of_lt (by lia)];exact h1
  have ndP:ps.Nodup:=by rw[<- S.pre];exact S.nd.sublist (List.take_sublist _ _)
  refine⟨u,rv,?_⟩;rcases S.par y (List.mem_of_getElem? hp) with k|k
  ·exact .inl ⟨k,ZfU ndP hp hu k⟩
  ·obtain⟨c,e⟩:=Zg6 (n:=s.heap.objs.size+1) k;refine .inr ⟨.inl k,c,e,?_⟩;have q:=x.cell y c e;rw[Zf0 ndP hp hu (by show scope.names.lookup y≠_;rw[k];decide)] at q;exact q
 ·exact e0.hok.fresh (Nat.le_of_lt (x.above y c (PySem.mem_of_lookup h)))
 ·unfold start;show _=N.length;rw[List.length_append,List.length_map,List.length_replicate];lia
theorem Znk{CX:CXT}{P:Program}{w:World}{K:PySem.W.Frag}{mg:Str->Option Value}{base:Heap}{k:Nat}{f:Addr}{name qual:Str}{params:Arguments}{body:List Stmt}{scope:Scope}{dV kV doc pm cdv ct oc:Value}{an od:Option Addr}
  {osl:Array (Option Value)} {N ps:List Str} {sp:Sp} (lk:K.lookup f=some ⟨oc,od,.func (PySem.W.fnOf name qual params body scope dV kV doc pm an cdv ct),osl⟩) (hcd:PySem.W.codeIn K cdv qual=true) (S:FnScope N ps scope)
  (len:∀vs H Q E,sp vs H Q E->vs.length=ps.length)
  (hbody:∀(A:Around)(outer:List Env)(s:Shared)(H:Hp)(vs:List V)(Q:VK)(E:XK),Room k (A.deeper (envOfC qual scope s.heap.objs.size f cdv))->sp vs H Q E ->
   ∃t,PSs (Zko CX P w K mg base N qual scope f cdv A outer s H E) body t/\t { nx:=fun _ H'=>Q .non H',rt:=Q } (start N vs) H) :
  FnOk P w K mg base CX (k+1) f (PySem.W.fnOf name qual params body scope dV kV doc pm an cdv ct) ps sp:=by
 refine⟨len,fun A outer s H args us vs Q E hr e0 hb r hsp=>?_⟩;have hl:=len _ _ _ _ hsp;have KX:K.In s.heap:=e0.mod.kin.keeps fun b o e=>(e0.bs b o e).1;have lim:s.heap.NoLimit:=e0.mod.nolimit.keeps fun b o e=>(e0.bs b o e).1;have hkind:∀y∈ps.zip us,scope.names.lookup y.1=some .local\/(scope.names.lookup y.1=some .cell/\((cellsFrom (s.heap.objs.size+1) scope.names []).lookup y.1).isSome=true):=fun⟨n,v⟩ hy=>by
  rcases S.par n (List.of_mem_zip hy).1 with q|q
  ·exact .inl q
  ·exact .inr ⟨q,PySem.W.cellsFrom_some _ _ _ (.inl q)⟩
 refine codeAny_call_function hr.depth (KX _ _ lk) rfl S.co S.gen rfl (PySem.W.codeRec_of KX hcd) (hb _ _ _ _ ?_);refine wpAny_newFunctionEnv_cells S.kind hkind fun env he s1 x=>?_;subst he;refine⟨lim.keeps x.toInCall.keep,codeAny_func ?_⟩;obtain⟨t,ht,hq⟩:=hbody A outer s H vs Q E (hr.deeper _) hsp;have I:Inv (Zko CX P w K mg base N qual scope f cdv A outer s H E) [] (start N vs) H s1:=Zjk S hr.hd e0 hl r x;refine wpAny_mono (ht [] s1 (start N vs) H _ I hq) (fun fl s' hs=>?_) fun e s' hs=>hs;have fin:∀{σ':St}{H':Hp}{v:V}{u:Value},Inv (Zko CX P w K mg base N qual scope f cdv A outer s H E) [] σ' H' s'->RelV v u->Q v H'->CE outer P w H s Q u s' :=
  fun{σ' H' v u} J rv q=>⟨v,H',J.os,J.bare,J.base,J.hok,rv,q⟩
 cases fl with
 | ret u =>
  obtain⟨v,σ',H',J,rv,q⟩:=hs;exact fin J rv q
 | next =>
  obtain⟨σ',H',J,q⟩:=hs;exact fin (v:=V.non) (u:=Value.none) J rfl q
 | brk =>
  obtain⟨_,_,_,q⟩:=hs;exact False.elim q
 | cont =>
  obtain⟨_,_,_,q⟩:=hs;exact False.elim q
section
variable{X:Cx}{x:Str}{p pos:Pos}{e:Expr}{es:List Expr}{t:TA}{id T:String}{r:List V->Hp->VK->Prop}
def tCB(r:List V->Hp->VK->Prop)(t:TA):TE:=fun σ H Q=>t σ H fun vs H1=>r vs H1 Q
theorem ZS(hc:ZbR X (.builtin id) r)(hg:Gl X x)(hm:X.mg x=none)(hv:bootBuiltins x=some (.builtin id))(ha:PA X (e::es) t)(hn:x ≠ "__name__" := by decide) (hdb:(x == ("__debug__" : Str))=false:=by decide)
  (he:starEach (e::es) X.env=(false,eval e X.env)::starEach es X.env:=by rfl) (hpl:(backTo pos (starEach es X.env)).any (·.1)=false:=by rfl):PE X (.Call (.Name x p) (e::es) [] pos) (tCB r t):=by
 intro pins s σ H Q I h;refine wpAny_Call_Name_kw (Zfz I hg hm hv ?_ hn hdb);exact PyProof.Rows.callWith_builtin1 (thn (ha pos pins s σ H _ I h) fun us s1 ⟨vs,H1,I1,r1,q1⟩=>hc pins s1 σ H1 vs us Q I1 r1 q1) he hpl
theorem ZaG(hc:ZbR X (.type T) r)(hg:Gl X x)(hm:X.mg x=none)(hv:bootBuiltins x=some (.type T))(ha:PA X (e::es) t)(hn:x ≠ "__name__" := by decide) (hdb:(x == ("__debug__" : Str))=false:=by decide)
  (he:starEach (e::es) X.env=(false,eval e X.env)::starEach es X.env:=by rfl) (hpl:(backTo pos (starEach es X.env)).any (·.1)=false:=by rfl):PE X (.Call (.Name x p) (e::es) [] pos) (tCB r t):=by
 intro pins s σ H Q I h;refine wpAny_Call_Name_kw (Zfz I hg hm hv ?_ hn hdb);exact PyProof.Rows.callWith_type1 (thn (ha pos pins s σ H _ I h) fun us s1 ⟨vs,H1,I1,r1,q1⟩=>hc pins s1 σ H1 vs us Q I1 r1 q1) he hpl
end
end L2
namespace HT
open PySem PyProof.Rows
section
variable{prog:Program}{w:World}{A:Around}{E:Value->Shared->Prop}{s:Shared}
def sIx(n d:Nat):Option Int->Nat
 | none=>d
 | some v=>if v<0 then(v+(n:Int)).toNat else min v.toNat n
theorem Zkz(n d:Nat):sIx n d none=d:=rfl
theorem Zmz(n d k:Nat):sIx n d (some (k:Int))=min k n:=by
 show(if(k:Int)<0 then((k:Int)+(n:Int)).toNat else min (k:Int).toNat n)=min k n
 rw[if_neg (by lia),Int.toNat_natCast]
end
end HT
namespace L2
open PySem PySem.Spec PyProof.Rows
abbrev TO:=St->Hp->(Option Int->Hp->Prop)->Prop
def PO(X:Cx)(e:Option Expr)(t:TO):Prop :=
 ∀(pins:List (Addr×Obj))(s:Shared)(σ : St)(H:Hp)(Q:Option Int->Hp->Prop),Inv X pins σ H s->t σ H Q ->
  wpAny (model X.prog X.w) X.A (evalPart e X.env) (fun u s'=>∃o H',Inv X pins σ H' s'/\IsPart u o/\Q o H') X.xe s
def Zl1:TO:=fun _ H Q=>Q none H
def Zmw(t:TE):TO:=fun σ H Q=>t σ H fun x H1=>∃i,x=.int i/\Q (some i) H1
section
variable{X:Cx}{e:Expr}{te:TE}{lo hi:Option Expr}{tl th:TO}{pos p2:Pos}
theorem ZgS:PO X none Zl1:=by
 intro pins s σ H Q I h;rw[evalPart_none];exact wpAny_pure ⟨none,H,I,.none,h⟩
theorem ZdQ(h:PE X e te):PO X (some e) (Zmw te):=by
 intro pins s σ H Q I hw;rw[evalPart_some];refine thn (h pins s σ H _ I hw) fun u s1 ⟨x,H1,I1,r1,q1⟩=>?_;obtain⟨i,rfl,q⟩:=q1;obtain⟨t,rfl⟩:=r1;exact⟨some i,H1,I1,.int i t,q⟩
def SlR(X:Cx)(r:V->Option Int->Option Int->Hp->VK->Prop):Prop :=
 ∀(pins:List (Addr×Obj))(s:Shared)(σ : St)(H:Hp)(x:V)(v vl vu:Value)(lo hi:Option Int)(sl:Addr)(Q:VK),Inv X pins σ H s->RelV x v->s.heap.IsSliceOf sl vl vu .none->IsPart vl lo->IsPart vu hi->r x lo hi H Q ->
  ∃T id,typeLookup (.type T) "__getitem__" = pure (some (.builtin id))/\s.TypeIs v T/\wpAny (model X.prog X.w) X.A (getItem v (.ref sl)) (EP X pins σ Q) X.xe s
def tSl(r:V->Option Int->Option Int->Hp->VK->Prop)(te:TE)(tl th:TO):TE:=fun σ H Q=>te σ H fun x H1=>tl σ H1 fun l H2=>th σ H2 fun u H3=>r x l u H3 Q
theorem ZdE{r:V->Option Int->Option Int->Hp->VK->Prop}(hr:SlR X r)(he:PE X e te)(hl:PO X lo tl)(hu:PO X hi th):PE X (.Subscript e (.Slice lo hi none p2) pos) (tSl r te tl th):=by
 intro pins s σ H Q I h;refine Subscript_ (thn (he pins s σ H _ I h) fun v s1 ⟨x,H1,I1,r1,q1⟩=>?_);refine wpAny_Slice (thn (hl pins s1 σ H1 _ I1 q1) fun vl s2 ⟨l,H2,I2,pl,q2⟩=>thn (hu pins s2 σ H2 _ I2 q2) fun vu s3 ⟨u,H3,I3,pu,q3⟩=>?_);rw[evalPart_none];refine wpAny_pure ?_;have I4:Inv X pins σ H3 { s3 with heap:=s3.heap.push { cls:=.type "slice",data:=.fields #[vl,vu,.none] } }:=I3.kept (t':=s3.toks) fun b ob q=>Heap.get?_push_of_some _ q;obtain⟨T,id,hT,ht,hg⟩:=hr pins { s3 with heap:=s3.heap.push { cls:=.type "slice",data:=.fields #[vl,vu,.none] } } σ H3 x v vl vu l u s3.heap.objs.size Q I4 r1 (Heap.IsSliceOf.new ..) pl pu q3;show wpAny (model X.prog X.w) X.A (subscriptTail e (.Slice lo hi none p2) v (.ref s3.heap.objs.size)) (EP X pins σ Q) X.xe { s3 with heap:=s3.heap.push { cls:=.type "slice",data:=.fields #[vl,vu,.none] } };exact tail_any (ops:=[.ref s3.heap.objs.size,v]) ht hT hg (by with_unfolding_all rfl)
def ZmJ(xs:List V)(lo hi:Option Int):List V:=(xs.drop (HT.sIx xs.length 0 lo)).take (HT.sIx xs.length xs.length hi-HT.sIx xs.length 0 lo)
theorem Zgd(xs:List V)(lo hi:Option Int):(ZmJ xs lo hi).length<=xs.length:=by
 unfold ZmJ;rw[List.length_take,List.length_drop];lia
end
def ixN(n:Nat)(i:Int):Option Nat:=if 0<=i then(if i<n then some i.toNat else none) else if -(n:Int)<=i then some (i+n).toNat else none
def atI{α : Type}(xs:List α)(i:Int):Option α := (ixN xs.length i).bind fun j=>xs[j]?
theorem ZjS{n:Nat}{i:Int}{j:Nat}(h:ixN n i=some j):seqIndex? i n=some j/\j<n /\ -(n:Int)<=i/\i<n:=by
 unfold ixN at h;by_cases h0:0<=i
 ·rw[if_pos h0] at h;by_cases h1:i<n
  ·rw[if_pos h1] at h;have e:i.toNat=j:=Option.some.inj h;exact⟨by rw[seqIndex_of h0 h1,e],by lia,by lia,h1⟩
  ·rw[if_neg h1] at h;cases h
 ·rw[if_neg h0] at h;by_cases h1 : -(n:Int)<=i
  ·rw[if_pos h1] at h;have e:(i+n).toNat=j:=Option.some.inj h;exact⟨by rw[seqIndex_neg (by lia) h1,e],by lia,h1,by lia⟩
  ·rw[if_neg h1] at h;cases h
theorem ZgZ{α : Type}{xs:List α}{i:Int}{v : α}(h:atI xs i=some v):∃j,seqIndex? i xs.length=some j/\xs[j]?= some v/\j<xs.length /\ -(xs.length:Int)<=i/\i<xs.length:=by
 unfold atI at h;cases e:ixN xs.length i with
 | none=>rw[e] at h;cases h
 | some j =>
  rw[e] at h;obtain⟨h1,h2,h3,h4⟩:=ZjS e;exact⟨j,h1,h,h2,h3,h4⟩
theorem ZbP{α : Type}{xs:List α}{j:Nat}{v : α}(h:xs[j]?= some v):atI xs (j:Int)=some v:=by
 have hj:j<xs.length:=(List.getElem?_eq_some_iff.mp h).1;have e:ixN xs.length (j:Int)=some j:=by
  unfold ixN;rw[if_pos (by lia),if_pos (by lia)];simp
 unfold atI;rw[e];exact h
theorem Zk7{α : Type}(xs:List α)(v : α):atI (xs ++ [v]) (-1)=some v:=by
 have hl:(xs ++ [v]).length=xs.length+1:=by simp
 have e:ixN (xs ++ [v]).length (-1)=some xs.length:=by
  unfold ixN;rw[hl,if_neg (by decide),if_pos (by lia)]
  congr 1
  lia
 unfold atI;rw[e];show(xs ++ [v])[xs.length]?= some v;simp
def ZiP(b:Expr):Prop := ∀o i,subscripted b false o i=operate [o,i] (getItem o i)
def IxR(X:Cx)(r:R2):Prop :=
 ∀(value slice:Expr)(pins:List (Addr×Obj))(s:Shared)(σ : St)(H:Hp)(x y:V)(v u:Value)(Q:VK),Inv X pins σ H s->RelV x v->RelV y u->r x y H Q ->
  subscripted slice false v u=operate [v,u] (getItem v u)->wpAny (model X.prog X.w) X.A (subscriptTail value slice v u) (EP X pins σ Q) X.xe s
def MtR(X:Cx)(id:String)(r:V->List V->Hp->VK->Prop):Prop :=
 ∀(pins:List (Addr×Obj))(s:Shared)(σ : St)(H:Hp)(x:V)(xs:List V)(v:Value)(us:List Value)(Q:VK),Inv X pins σ H s->RelV x v->Vals xs us->r x xs H Q ->
  wpAny (model X.prog X.w) X.A (call (.builtin id) (v::us)) (EP X pins σ Q) X.xe s
section
variable{X:Cx}{a b:Expr}{ta tb:TE}{pos:Pos}
theorem Z9{r:R2}(hr:IxR X r)(ha:PE X a ta)(hb:PE X b tb)(hs:ZiP b):PE X (.Subscript a b pos) (tOp r ta tb):=by
 intro pins s σ H Q I h;exact Subscript_ (Zof ha hb I h fun v u s2 x y H2 I2 rx ry q=>hr a b pins s2 σ H2 x y v u Q I2 rx ry q (hs _ _))
def Zn6(K:PySem.W.Frag):R2:=fun x y H Q=>∃p xs i v,x=.ref p/\y=.int i/\SqL K H p xs/\atI xs i=some v/\Q v H
def ZoV(K:PySem.W.Frag):R2:=fun x y H Q=>∃p xs i v,x=.ref p/\y=.int i/\SqT K H p xs/\atI xs i=some v/\Q v H
def Zo3:R2:=fun x y H Q=>∃z i c,x=.str z/\y=.int i/\z.length<=sizeLine/\atI z.cps.toList i=some c/\Q (.str ⟨#[c]⟩) H
theorem Zaz:IxR X (Zn6 X.K):=by
 intro value slice pins s σ H x y v u Q I rx ry h hs;obtain⟨p,xs,i,z,rfl,rfl,hq,he,q⟩:=h;cases rx;obtain⟨t,rfl⟩:=ry;obtain⟨its,r,pl,hz⟩:=I.list hq;obtain⟨j,h1,h2,h3,h4,h5⟩:=ZgZ he;obtain⟨w,ew,rw'⟩:=r.get h2;have hl:=r.length;have hn:=Zeb;have fin:EP X pins σ Q w s:=⟨z,H,I,rw',q⟩;by_cases h0:0<=i
 ·have hj:i.toNat=j:=by
   rw[seqIndex_of h0 h5] at h1;exact Option.some.inj h1
  exact item_listR pl.isList h0 (by lia) (by rw[hj];simpa using ew) fin hs
 ·have hj:(i+(its.toArray.size:Int)).toNat=j:=by
   rw[seqIndex_neg (by lia) h4] at h1;rw[List.size_toArray,<- hl];exact Option.some.inj h1
  exact subscriptTail_builtinR (x:=w) pl.isList.typeIs slot_list_getitem.lookup
   (wpAny_getItem_list_neg (Q:=fun r s'=>r=w/\EP X pins σ Q r s') pl.isList (by lia) (by rw[List.size_toArray] <;> lia) (by lia) (by rw[hj];simpa using ew) ⟨rfl,fin⟩) hs
theorem Zaf:IxR X (ZoV X.K):=by
 intro value slice pins s σ H x y v u Q I rx ry h hs;obtain⟨p,xs,i,z,rfl,rfl,hq,he,q⟩:=h;cases rx;obtain⟨t,rfl⟩:=ry;obtain⟨its,r,pl,hz⟩:=I.tuple hq;obtain⟨j,h1,h2,h3,h4,h5⟩:=ZgZ he;obtain⟨w,ew,rw'⟩:=r.get h2;have hl:=r.length;have hn:=Zeb;have fin:EP X pins σ Q w s:=⟨z,H,I,rw',q⟩;exact subscriptTail_builtinR (x:=w) pl.typeIs slot_tuple_getitem.lookup
  (getItem_tuple (j:=j) (Q:=fun r s'=>r=w/\EP X pins σ Q r s') pl (by lia) (by lia) (by rw[List.size_toArray,<- hl];exact h1) (by simpa using ew) ⟨rfl,fin⟩) hs
theorem Zjr:IxR X Zo3:=by
 intro value slice pins s σ H x y v u Q I rx ry h hs;obtain⟨z,i,c,rfl,rfl,hz,he,q⟩:=h;obtain⟨t,rfl⟩:=rx;obtain⟨t',rfl⟩:=ry;obtain⟨j,h1,h2,h3,h4,h5⟩:=ZgZ he;have hl:z.cps.toList.length=z.length:=by simp[Str.length]
 rw[hl] at h1 h4 h5;have hn:=Zeb;exact tail_any (typeIs_str s z t) slot_str_getitem.lookup (getItem_str (c:=c) (by
  have e1:decide (i < -(2 ^ 63:Int))=false:=decide_eq_false (by lia);have e2:decide (i>=2 ^ 63)=false:=decide_eq_false (by lia);rw[e1,e2,Bool.or_false]) (by rw[h1];simpa using h2) ⟨.str ⟨#[c]⟩,H,I.tok _,⟨_,rfl⟩,q⟩) hs
theorem ZhY(its:List Value)(n j:Nat)(u:Value):Obj.mapSeq (·.setIfInBounds j u) { cls:=.type "list",data:=.seq its.toArray n }= { cls:=.type "list",data:=.seq (its.set j u).toArray n }:=by
 simp[Obj.mapSeq]
theorem Inv.lst{pins:List (Addr×Obj)}{σ : St}{H:Hp}{s:Shared}{p:Addr}{xs:List V}(I:Inv X pins σ H s)(h:H p=some (.lst xs)) :
  ∃(its:List Value)(n:Nat),Vals xs its/\s.heap.get? p=some { cls:=.type "list",data:=.seq its.toArray n }/\xs.length<=sizeLine:=by
 obtain⟨z,its,n,r,e⟩:=I.hok p _ h;exact⟨its,n,r,e,z⟩
theorem Inv.lstUpd{pins:List (Addr×Obj)}{σ : St}{H:Hp}{s:Shared}{p:Addr}{xs ys:List V}{its its':List Value}{n n':Nat}{f:Obj->Obj}(I:Inv X pins σ H s)(h:H p=some (.lst xs))
  (ho:s.heap.get? p=some { cls:=.type "list",data:=.seq its.toArray n }) (hf:f { cls:=.type "list",data:=.seq its.toArray n }= { cls:=.type "list",data:=.seq its'.toArray n' }) (r:Vals ys its') (hz:ys.length<=sizeLine) (t:Nat) :
  Inv X pins σ (upd H p (.lst ys)) { s with heap:=s.heap.update p f,toks:=t }:=by
 have e:(s.heap.update p f).get? p=some { cls:=.type "list",data:=.seq its'.toArray n' }:=by
  rw[Heap.get?_update_self f ho (by rw[hf] <;> rfl),hf]
 refine I.write (x:=p) (e:=p) (by rw[h];trivial) (.inl rfl) (fun b u hb q=>(Heap.get?_update_other _ _ (Ne.symm hb)).trans q) ⟨_,e⟩ ?_;exact⟨hz,its',n',r,e⟩
def ZoD:V->V->V->Hp->(Hp->Prop)->Prop:=fun o i v H Q=>∃p xs k j,o=.ref p/\i=.int k/\H p=some (.lst xs)/\ixN xs.length k=some j/\Q (upd H p (.lst (xs.set j v)))
theorem set_list:ZoU X ZoD:=by
 intro pins s σ H o i v ov iv u Q I ro ri rv h;obtain⟨p,xs,k,j,rfl,rfl,hp,hj,q⟩:=h;cases ro;obtain⟨t,rfl⟩:=ri;obtain⟨its,n,r,ho,hz⟩:=I.lst hp;obtain⟨h1,h2,h3,h4⟩:=ZjS hj;have hl:=r.length;have hn:=Zeb;have I':Inv X pins σ (upd H p (.lst (xs.set j v))) { s with heap:=s.heap.update p (Obj.mapSeq (·.setIfInBounds j u)) } :=
  I.lstUpd hp ho (ZhY its n j u) (r.set rv j) (by rw[List.length_set];exact hz) s.toks
 by_cases h0:0<=k
 ·have hk:k.toNat=j:=by
   rw[seqIndex_of h0 h4] at h1;exact Option.some.inj h1
  exact PySem.W.ki_setAt ho h0 (by lia) (by rw[List.size_toArray,<- hl];exact h4) (by rw[hk];exact⟨_,I',q⟩)
 ·have hk:(k+(its.toArray.size:Int)).toNat=j:=by
   rw[seqIndex_neg (by lia) h3] at h1;rw[List.size_toArray,<- hl];exact Option.some.inj h1
  exact PySem.W.ki_setBack ho (by lia) (by rw[List.size_toArray,<- hl];exact h3) (by lia) (by rw[hk];exact⟨_,I',q⟩)
theorem Zf3(lo hi:Option Int)(n:Nat):(sliceBounds lo hi none n).1=((HT.sIx n 0 lo:Nat):Int)/\(sliceBounds lo hi none n).2.1=((HT.sIx n n hi:Nat):Int)/\(sliceBounds lo hi none n).2.2=1:=by
 refine⟨?_,?_,rfl⟩
 ·cases lo with
  | none=>simp[sliceBounds,HT.sIx]
  | some i =>
   simp only[sliceBounds,HT.sIx,Option.getD_none,show(1:Int) > 0 by decide,if_true];by_cases h:i<0
   ·simp only[h,if_true] <;> lia
   ·simp only[h,if_false] <;> lia
 ·cases hi with
  | none=>simp[sliceBounds,HT.sIx]
  | some i =>
   simp only[sliceBounds,HT.sIx,Option.getD_none,show(1:Int) > 0 by decide,if_true];by_cases h:i<0
   ·simp only[h,if_true] <;> lia
   ·simp only[h,if_false] <;> lia
theorem Zfp(its:List Value)(lo hi:Option Int):slicePick its.toArray lo hi none=((its.drop (HT.sIx its.length 0 lo)).take (HT.sIx its.length its.length hi-HT.sIx its.length 0 lo)).toArray:=by
 obtain⟨h1,h2,h3⟩:=Zf3 lo hi its.toArray.size;unfold slicePick;rw[h1,h2,h3];simp only[sliceRange_one,pick_run,List.size_toArray] <;> rfl
def Zo0(K:PySem.W.Frag):V->Option Int->Option Int->Hp->VK->Prop:=fun x lo hi H Q=>∃a xs,x=.ref a/\SqL K H a xs/\∀p,H p=none->Q (.ref p) (upd H p (.lst (ZmJ xs lo hi)))
theorem Zl8:SlR X (Zo0 X.K):=by
 intro pins s σ H x v vl vu lo hi sl Q I rx hs pl pu h;obtain⟨a,xs,rfl,hx,q⟩:=h;cases rx;obtain⟨its,r,ht,hz⟩:=I.list hx;have hlen:=r.length;refine⟨"list",_,slot_list_getitem.lookup,ht.isList.typeIs,?_⟩;refine wpAny_getItem_list_slice ht.isList hs pl pu .none (by simp) ?_ (by rw[List.size_toArray] <;> lia)
 rw[Zfp,<- hlen];refine⟨.ref s.heap.objs.size,_,I.laid (t':=s.toks) (o:=.lst (ZmJ xs lo hi)) (fun b ob q=>Heap.get?_push_of_some _ q) (Nat.le_refl _) ?_,rfl,q _ (I.hok.fresh (Nat.le_refl _))⟩;exact⟨Nat.le_trans (Zgd xs lo hi) hz,_,0,(r.drop (HT.sIx xs.length 0 lo)).take (HT.sIx xs.length xs.length hi-HT.sIx xs.length 0 lo),Heap.get?_push_size _ rfl⟩
def Zeo:V->Bool
 | .non=>true
 | .bl _=>true
 | .int _=>true
 | .str _=>true
 | _=>false
def eqV:V->V->Bool
 | .non,.non=>true
 | .bl a,.bl b=>a == b
 | .bl a,.int b=>(if a then 1 else 0) == b
 | .int a,.bl b=>a == (if b then 1 else 0)
 | .int a,.int b=>a == b
 | .str a,.str b=>a == b
 | _,_=>false
theorem Znf{A:Around}{s:Shared}{y x:V}{u v:Value}(ry:RelV y u)(rx:RelV x v)(fy:Zeo y=true)(fx:Zeo x=true):SeqAt.EqAt A s u v (eqV y x):=by
 cases y with
 | non =>
  cases ry;cases x with
  | non=>cases rx;exact SeqAt.EqAt.same _
  | bl b=>cases rx;exact SeqAt.EqAt.none_bool b
  | int b=>obtain⟨t,rfl⟩:=rx;exact SeqAt.EqAt.none_int b t
  | str b=>obtain⟨t,rfl⟩:=rx;exact SeqAt.EqAt.none_str b t
  | _=>exact absurd (show false=true from fx) Bool.false_ne_true
 | bl a =>
  cases ry;cases x with
  | non=>cases rx;exact SeqAt.EqAt.bool_none a
  | bl b=>cases rx;exact SeqAt.EqAt.bool_bool a b
  | int b=>obtain⟨t,rfl⟩:=rx;exact SeqAt.EqAt.bool_int a b t
  | str b=>obtain⟨t,rfl⟩:=rx;exact SeqAt.EqAt.bool_str a b t
  | _=>exact absurd (show false=true from fx) Bool.false_ne_true
 | int a =>
  obtain⟨t',rfl⟩:=ry;cases x with
  | non=>cases rx;exact SeqAt.EqAt.int_none a t'
  | bl b=>cases rx;exact SeqAt.EqAt.int_bool a t' b
  | int b=>obtain⟨t,rfl⟩:=rx;exact SeqAt.EqAt.int_int a t' b t
  | str b=>obtain⟨t,rfl⟩:=rx;exact SeqAt.EqAt.int_str a t' b t
  | _=>exact absurd (show false=true from fx) Bool.false_ne_true
 | str a =>
  obtain⟨t',rfl⟩:=ry;cases x with
  | non=>cases rx;exact SeqAt.EqAt.str_none a t'
  | bl b=>cases rx;exact SeqAt.EqAt.str_bool a t' b
  | int b=>obtain⟨t,rfl⟩:=rx;exact SeqAt.EqAt.str_int a t' b t
  | str b=>obtain⟨t,rfl⟩:=rx;exact SeqAt.EqAt.str_str a t' b t
  | _=>exact absurd (show false=true from fx) Bool.false_ne_true
 | _=>exact absurd (show false=true from fy) Bool.false_ne_true
def eqU(x:V)(u:Value):Bool:=match u with
 | .none=>eqV .non x
 | .bool b=>eqV (.bl b) x
 | .int i _=>eqV (.int i) x
 | .str z _=>eqV (.str z) x
 | _=>false
theorem Zjv{x y:V}{u:Value}(r:RelV y u)(f:Zeo y=true):eqU x u=eqV y x:=by
 cases y with
 | non=>cases r;rfl
 | bl b=>cases r;rfl
 | int i=>obtain⟨t,rfl⟩:=r;rfl
 | str z=>obtain⟨t,rfl⟩:=r;rfl
 | _=>exact absurd (show false=true from f) Bool.false_ne_true
theorem ZdV{x:V}:∀{xs:List V}{us:List Value},Vals xs us->xs.all Zeo=true->us.any (eqU x)=xs.any fun y=>eqV y x
 | _,_,.nil,_=>rfl
 | y::xs,u::us,.cons r t,f=>by
  rw[List.all_cons,Bool.and_eq_true] at f;rw[List.any_cons,List.any_cons,Zjv r f.1,ZdV t f.2]
theorem Zct{A:Around}{s:Shared}{x:V}{v:Value}(rx:RelV x v)(fx:Zeo x=true):∀{xs:List V}{us:List Value},Vals xs us->xs.all Zeo=true->∀u∈us,SeqAt.EqAt A s u v (eqU x u)
 | _,_,.nil,_=>fun u hu=>by cases hu
 | y::xs,u::us,.cons r t,f=>fun u' hu=>by
  rw[List.all_cons,Bool.and_eq_true] at f;rcases List.mem_cons.mp hu with rfl|hu
  ·rw[Zjv r f.1];exact Znf r rx f.1 fx
  ·exact Zct rx fx t f.2 u' hu
def inV(x:V)(xs:List V):Bool:=xs.any fun y=>eqV y x
def rIn(K:PySem.W.Frag)(neg:Bool):R2:=fun x y H Q=>∃p xs,y=.ref p/\(SqL K H p xs\/SqT K H p xs)/\Zeo x=true/\xs.all Zeo=true/\Q (.bl (if neg then !inV x xs else inV x xs)) H
theorem Zcm:OpR X (compareOp .In) (rIn X.K false):=by
 intro pins s σ H x y v u Q I rx ry h;obtain⟨p,xs,rfl,hq,fx,fs,q⟩:=h;cases ry;rcases hq with hq|hq
 ·obtain⟨its,r,pl,hz⟩:=I.list hq;refine SeqAt.in_listAt (eqU x) pl.isList (fun w hw=>Zct rx fx r fs w (by simpa using hw)) ⟨.bl _,H,I,rfl,?_⟩;rw[show its.toArray.any (eqU x)=its.any (eqU x) by simp,ZdV r fs];exact q
 ·obtain⟨its,r,pl,hz⟩:=I.tuple hq;refine SeqAt.in_tupleAt (eqU x) pl (fun w hw=>Zct rx fx r fs w (by simpa using hw)) ⟨.bl _,H,I,rfl,?_⟩;rw[show its.toArray.any (eqU x)=its.any (eqU x) by simp,ZdV r fs];exact q
theorem Zga:OpR X (compareOp .NotIn) (rIn X.K true):=by
 intro pins s σ H x y v u Q I rx ry h;obtain⟨p,xs,rfl,hq,fx,fs,q⟩:=h;cases ry;rcases hq with hq|hq
 ·obtain⟨its,r,pl,hz⟩:=I.list hq;refine SeqAt.notIn_listAt (eqU x) pl.isList (fun w hw=>Zct rx fx r fs w (by simpa using hw)) ⟨.bl _,H,I,rfl,?_⟩;rw[show its.toArray.any (eqU x)=its.any (eqU x) by simp,ZdV r fs];exact q
 ·obtain⟨its,r,pl,hz⟩:=I.tuple hq;refine SeqAt.notIn_tupleAt (eqU x) pl (fun w hw=>Zct rx fx r fs w (by simpa using hw)) ⟨.bl _,H,I,rfl,?_⟩;rw[show its.toArray.any (eqU x)=its.any (eqU x) by simp,ZdV r fs];exact q
theorem Zac:ZbR X (.builtin "len") (fun xs H Q=>∃p ys,xs=[.ref p]/\(SqL X.K H p ys\/SqT X.K H p ys)/\Q (.int ys.length) H):=by
 intro pins s σ H xs us Q I r h;obtain⟨p,ys,rfl,hq,q⟩:=h;obtain⟨u,rfl,rx⟩:=vals1 r;cases rx;have hn:=Zeb;rcases hq with hq|hq
 ·obtain⟨its,r',pl,hz⟩:=I.list hq;have hlen:=r'.length;exact Calls.call_len_list pl.isList (by simp only[List.size_toArray] <;> lia) ⟨.int ys.length,H,I.tok _,⟨s.toks+1,by rw[List.size_toArray,hlen]⟩,q⟩
 ·obtain⟨its,r',pl,hz⟩:=I.tuple hq;have hlen:=r'.length;exact len_tuple pl (by simp only[List.size_toArray] <;> lia) ⟨.int ys.length,H,I.tok _,⟨s.toks+1,by rw[List.size_toArray,hlen]⟩,q⟩
theorem ZaX:ZbR X (.builtin "len") (fun xs H Q=>∃z,xs=[.str z]/\z.length<=sizeLine/\Q (.int z.length) H):=by
 intro pins s σ H xs us Q I r h;obtain⟨z,rfl,hz,q⟩:=h;obtain⟨u,rfl,t,rfl⟩:=vals1 r;have hn:=Zeb;exact len_str (by lia) ⟨.int z.length,H,I.tok _,⟨_,rfl⟩,q⟩
theorem Zf1:ZbR X (.type "list") (fun xs H Q=>∃p ys,xs=[.ref p]/\(SqL X.K H p ys\/SqT X.K H p ys)/\∀l,H l=none->Q (.ref l) (upd H l (.lst ys))):=by
 intro pins s σ H xs us Q I r h;obtain⟨p,ys,rfl,hq,q⟩:=h;obtain⟨u,rfl,rx⟩:=vals1 r;cases rx;have fin:∀(its:List Value),Vals ys its->ys.length<=sizeLine->∀(h':Heap)(c':Nat),(∀b o',s.heap.get? b=some o'->h'.get? b=some o') ->
   h'.get? s.heap.objs.size=some { cls:=.type "list",dict:=none,data:=.seq its.toArray c',slots :=#[] }->EP X pins σ Q (.ref s.heap.objs.size) { s with heap:=h' }:=fun its r' hz h' c' kp e =>
  ⟨.ref s.heap.objs.size,_,I.laid (t':=s.toks) kp (Nat.le_refl _) (show ZaL X.prog X.w _ h' _ (.lst ys) from⟨hz,its,c',r',e⟩),rfl,q _ (I.hok.fresh (Nat.le_refl _))⟩
 rcases hq with hq|hq
 ·obtain⟨its,r',pl,hz⟩:=I.list hq;have hlen:=r'.length;obtain⟨o,ho,hc,n,hd⟩:=pl.isList;exact call_list_seq p (.inl rfl) ho hc hd (fun h' c' kp e=>fin its r' hz h' c' kp e) (by simp only[List.size_toArray] <;> lia)
 ·obtain⟨its,r',pl,hz⟩:=I.tuple hq;have hlen:=r'.length;obtain⟨o,ho,hc,n,hd⟩:=pl;exact call_list_seq p (.inr rfl) ho hc hd (fun h' c' kp e=>fin its r' hz h' c' kp e) (by simp only[List.size_toArray] <;> lia)
theorem Zbf:ZbR X (.type "tuple") (fun xs H Q=>∃p ys,xs=[.ref p]/\((SqL X.K H p ys/\∀l,H l=none->Q (.ref l) (upd H l (.tup ys)))\/(SqT X.K H p ys/\Q (.ref p) H))):=by
 intro pins s σ H xs us Q I r h;obtain⟨p,ys,rfl,h⟩:=h;obtain⟨u,rfl,rx⟩:=vals1 r;cases rx;rcases h with⟨hq,q⟩|⟨hq,q⟩
 ·obtain⟨its,r',pl,hz⟩:=I.list hq;have hlen:=r'.length;refine call_tuple_list pl.isList (fun h' kp=>?_) (by simp only[List.size_toArray] <;> lia)
  have I1:Inv X pins σ H { s with heap:=h' }:=I.kept (t':=s.toks) kp;have I2:Inv X pins σ (upd H h'.objs.size (.tup ys)) { s with heap:=h'.push { cls:=.type "tuple",data:=.seq its.toArray } } :=
   I1.laid (t':=s.toks) (fun b o e=>Heap.get?_push_of_some _ e) (Nat.le_refl _) (show ZaL X.prog X.w _ _ _ (.tup ys) from⟨hz,its,r',IsTup.new _ _⟩)
  exact⟨.ref h'.objs.size,_,I2,rfl,q _ (I1.hok.fresh (Nat.le_refl _))⟩
 ·obtain⟨its,r',pl,hz⟩:=I.tuple hq;exact call_tuple_same pl ⟨.ref p,H,I,rfl,q⟩
def tyV(K:PySem.W.Frag)(T:String)(x:V)(H:Hp):Prop:=match x with
 | .str _=>T= "str"
 | .int _=>T= "int"
 | .ref p=>(T= "list" /\ ∃xs,SqL K H p xs)\/(T= "tuple" /\ ∃o,K.lookup p=some o/\o.cls=.type "tuple" /\ o.dict=none) \/
   (T= "dict" /\ ((∃kvs,H p=some (.dK kvs))\/∃kvs,H p=some (.dT kvs)))\/(T= "set" /\ ∃S n,H p=some (.set S n))
 | _=>False
theorem Zli{pins:List (Addr×Obj)}{σ : St}{H:Hp}{s:Shared}{T:String}{x:V}{v:Value}(I:Inv X pins σ H s)(r:RelV x v)(ty:tyV X.K T x H) :
  s.TypeIs v T/\∀a,v=.ref a->∃ob,s.heap.get? a=some ob/\ob.dict=none:=by
 cases x with
 | str z =>
  obtain⟨t,rfl⟩:=r;cases (show T= "str" from ty);exact⟨typeIs_str s z t,fun _ e=>nomatch e⟩
 | int i =>
  obtain⟨t,rfl⟩:=r;cases (show T= "int" from ty);exact⟨typeIs_int s i t,fun _ e=>nomatch e⟩
 | ref p =>
  cases r;rcases ty with⟨rfl,xs,hq⟩|⟨rfl,o,hk,hc,hd⟩|⟨rfl,hk⟩|⟨rfl,S,n,hk⟩
  ·obtain⟨its,_,pl,_⟩:=I.list hq;refine⟨pl.isList.typeIs,fun a e=>?_⟩;cases e;obtain⟨o,n,e,c,hd,_⟩:=pl;exact⟨o,e,hd⟩
  ·refine⟨⟨o,I.kIn p o hk,hc⟩,fun a e=>?_⟩;cases e;exact⟨o,I.kIn _ o hk,hd⟩
  ·have z:∃o,s.heap.get? p=some o/\o.ExactDict:=by
    rcases hk with⟨kvs,hk⟩|⟨kvs,hk⟩
    ·obtain⟨_,_,_,_,o,_,_,e,ex,_⟩:=I.hok p _ hk;exact⟨o,e,ex⟩
    ·obtain⟨_,_,_,_,o,_,_,e,ex,_⟩:=I.hok p _ hk;exact⟨o,e,ex⟩
   obtain⟨o,e,ex⟩:=z;refine⟨⟨o,e,ex.1⟩,fun a e2=>?_⟩;cases e2;exact⟨o,e,ex.2.1⟩
  ·obtain⟨o,_,_,_,e,ex,_⟩:=I.hok p _ hk;refine⟨⟨o,e,ex.1⟩,fun a e2=>?_⟩;cases e2;exact⟨o,e,ex.2.1⟩
 | _=>exact False.elim ty
def Zpj(K:PySem.W.Frag)(T:String)(r:V->List V->Hp->VK->Prop)(to:TE):TE:=fun σ H Q=>to σ H fun x H1=>tyV K T x H1/\r x [] H1 Q
def tBM(K:PySem.W.Frag)(T:String)(r:V->List V->Hp->VK->Prop)(to:TE)(t:TA):TE:=fun σ H Q=>to σ H fun x H1=>tyV K T x H1/\t σ H1 fun xs H2=>r x xs H2 Q
variable{o e:Expr}{es:List Expr}{to:TE}{t:TA}{name:Str}{apos cpos:Pos}{T id:String}{r:V->List V->Hp->VK->Prop}
theorem ZlD(pa:PlainAttrs T)(slot:Slot T name id)(hty:typeOf (.builtin id)=pure (.type "method_descriptor")) (hm:MtR X id r) (ho:PE X o to)
  (hbase:attributeBase o name X.env (eval o X.env)=eval o X.env:=by rfl) (hline:(apos.endLine == cpos.line)=true:=by rfl):PE X (.Call (.Attribute o name apos) [] [] cpos) (Zpj X.K T r to):=by
 intro pins s σ H Q I h;refine wpAny_Call_method0_late hbase hline (thn (ho pins s σ H _ I h) fun v s1 ⟨x,H1,I1,r1,ty,q1⟩=>?_);obtain⟨h1,h2⟩:=Zli I1 r1 ty;exact⟨T,id,pa,slot,hty,h1,h2,Calls.callWith_builtin rfl (PySem.evalArgs_none (hm pins s1 σ H1 x [] v [] Q I1 r1 .nil q1))⟩
theorem ZbT(pa:PlainAttrs T)(slot:Slot T name id)(hty:typeOf (.builtin id)=pure (.type "method_descriptor")) (hm:MtR X id r) (ho:PE X o to) (ha:PA X (e::es) t)
  (hbase:attributeBase o name X.env (eval o X.env)=eval o X.env:=by rfl)
  (hfew:((backTo cpos (starEach (e::es) X.env)).all (fun x=>!x.1)&&(backToKw cpos (keywordEach [] X.env)).all (fun x=>x.1.isSome)
   && decide ((e::es).length+([]:List Keyword).length+(if([]:List Keyword).isEmpty then 0 else 1)<30))=true:=by rfl)
  (hline:(apos.endLine == cpos.line)=true:=by rfl) (hs:starEach (e::es) X.env=(false,eval e X.env)::starEach es X.env:=by rfl) (hplain:(backTo cpos (starEach es X.env)).any (·.1)=false:=by rfl) :
  PE X (.Call (.Attribute o name apos) (e::es) [] cpos) (tBM X.K T r to t):=by
 intro pins s σ H Q I h;refine wpAny_Call_method_late hbase hfew hline rfl (thn (ho pins s σ H _ I h) fun v s1 ⟨x,H1,I1,r1,ty,q1⟩=>?_);obtain⟨h1,h2⟩:=Zli I1 r1 ty;refine⟨T,id,pa,slot,hty,h1,h2,?_⟩;have hA:=ha cpos pins s1 σ H1 _ I1 q1;rw[hs] at hA ⊢;refine Calls.callWith_builtin (by show(false || (backTo cpos (starEach es X.env)).any (·.1))=false;rw[hplain] <;> rfl) (Calls.evalArgs_plain ?_)
 exact thn hA fun us s2 ⟨vs,H2,I2,r2,q2⟩=>hm pins s2 σ H2 x vs v us Q I2 r1 r2 q2
/- xs.append(e),list.index on a module's tuple .. are MtR facts of 06m -/
end
def MtM(X:Cx)(id:String)(r:V->List V->Hp->VK->Prop):Prop :=
 ∀(pins:List (Addr×Obj))(s:Shared)(σ : St)(H:Hp)(x:V)(xs:List V)(v:Value)(us:List Value)(Q:VK),Inv X pins σ H s->RelV x v->Vals xs us->r x xs H Q ->
  wpAny (model X.prog X.w) X.A (call (.builtin id) (v::us)) (EP X pins σ Q) X.xe s
theorem Vals.one:∀{x:V}{us:List Value},Vals [x] us->∃u,us=[u]/\RelV x u
 | _,_,.cons r .nil=>⟨_,rfl,r⟩
theorem Vals.two:∀{x y:V}{us:List Value},Vals [x,y] us->∃u v,us=[u,v]/\RelV x u/\RelV y v
 | _,_,_,.cons r (.cons q .nil)=>⟨_,_,rfl,r,q⟩
theorem Vals.zero:∀{us:List Value},Vals [] us->us=[]
 | _,.nil=>rfl
section
variable{X:Cx}{pins:List (Addr×Obj)}{σ : St}{H:Hp}{s:Shared}{l b:Addr}{xs ys zs:List V}
theorem Inv.lset{its its':List Value}{n:Nat}{f:Array Value->Array Value}{t':Nat}(I:Inv X pins σ H s)(hH:H l=some (.lst xs))
  (e:s.heap.get? l=some { cls:=.type "list",data:=.seq its.toArray n }) (hf:f its.toArray=its'.toArray) (hv:Vals ys its') (hz:ys.length<=sizeLine) :
  Inv X pins σ (upd H l (.lst ys)) { s with heap:=s.heap.update l (Obj.mapSeq f),toks:=t' }:=by
 have q:=PySem.IsL.update e f;rw[hf] at q;refine I.write (x:=l) (e:=l) (by rw[hH];exact trivial) (.inl rfl) (fun b' u hb hu=>(Heap.get?_update_other s.heap (Obj.mapSeq f) (Ne.symm hb)).trans hu) ⟨_,q⟩ ?_;exact⟨hz,its',_,hv,q⟩
theorem Inv.lnew{its:List Value}{t':Nat}(I:Inv X pins σ H s)(hv:Vals ys its)(hz:ys.length<=sizeLine) :
  Inv X pins σ (upd H s.heap.objs.size (.lst ys)) { s with heap:=s.heap.push { cls:=.type "list",data:=.seq its.toArray },toks:=t' } :=
 I.laid (fun _ _ q=>Heap.get?_push_of_some _ q) (Nat.le_refl _) ⟨hz,its,0,hv,Heap.get?_push_size _ rfl⟩
theorem Inv.fresh(I:Inv X pins σ H s):H s.heap.objs.size=none:=I.hok.fresh (Nat.le_refl _)
theorem Inv.lstM(I:Inv X pins σ H s)(hH:H l=some (.lst xs)):xs.length<=sizeLine/\∃(its:List Value)(n:Nat),Vals xs its/\xs.length=its.length/\s.heap.get? l=some { cls:=.type "list",data:=.seq its.toArray n }:=by
 obtain⟨z,its,n,r,e⟩:=I.hok l _ hH;exact⟨z,its,n,r,r.length,e⟩
theorem Zlc{n:Nat}(h:n<=sizeLine):Builtin.List.listTooLong n=false:=by
 unfold Builtin.List.listTooLong;exact decide_eq_false (by lia)
end
section
variable{X:Cx}
def ZmF:V->List V->Hp->VK->Prop:=fun x vs H Q=>∃l xs y,x=.ref l/\vs=[y]/\H l=some (.lst xs)/\xs.length<sizeLine/\Q .non (upd H l (.lst (xs ++ [y])))
theorem ZaM:MtM X "list.append" ZmF:=by
 intro pins s σ H x vs v us Q I rx rv h;obtain⟨l,xs,y,rfl,rfl,hH,hz,q⟩:=h;cases rx;obtain⟨u,rfl,ru⟩:=rv.one;obtain⟨z,its,n,r,hl,e⟩:=I.lstM hH;refine call_meets F.slot_list_append ⟨_,e,rfl⟩ F.entry_list_append (F.args_list_append_2 _ _) (PySem.list_append l its.toArray n u (by rw[List.size_toArray];lia)) ⟨e,?_⟩;refine⟨.non,_,I.lset (its':=its ++ [u]) hH e (by simp) (r.append (.cons ru .nil)) ?_,rfl,q⟩;rw[List.length_append,List.length_singleton];lia
def ZlU:V->List V->Hp->VK->Prop:=fun x vs H Q=>∃l b xs zs,x=.ref l/\vs=[.ref b]/\H l=some (.lst xs)/\H b=some (.lst zs)/\xs.length+zs.length<=sizeLine/\Q .non (upd H l (.lst (xs++zs)))
theorem Zf5:MtM X "list.extend" ZlU:=by
 intro pins s σ H x vs v us Q I rx rv h;obtain⟨l,b,xs,zs,rfl,rfl,hH,hB,hz,q⟩:=h;cases rx;obtain⟨u,rfl,ru⟩:=rv.one;cases ru;obtain⟨z,its,n,r,hl,e⟩:=I.lstM hH;obtain⟨z2,its2,n2,r2,hl2,e2⟩:=I.lstM hB;have hsz:its.toArray.size+its2.toArray.size<=sizeLine:=by rw[List.size_toArray,List.size_toArray];lia
 have hlong : ¬ (!its.toArray.isEmpty&&Builtin.List.listTooLong (its.toArray.size+its2.toArray.size))=true:=by
  rw[Zlc hsz,Bool.and_false];exact Bool.false_ne_true
 refine call_meets F.slot_list_extend ⟨_,e,rfl⟩ F.entry_list_extend (F.args_list_extend_2 _ _)
  (AutoSeq1.list_extend_list_list_0 l its.toArray n b its2.toArray n2 hlong (by rw[List.size_toArray];lia) (by lia)) ⟨e,e2,?_⟩
 refine⟨.non,_,I.lset (its':=its++its2) hH e (by simp) (r.append r2) ?_,rfl,q⟩;rw[List.length_append];lia
end
end L2
namespace Att
open PySem PySem.W PySem.Calls PyProof.Rows
theorem ZdX{P:Params}{h:Heap}:∀(ns:List Int)(vs:List Value),WellAll P h vs (ns.map WData.int)->IntsAre vs ns:=by
 intro ns
 induction ns with
 | nil =>
  intro vs w;rw[List.map_nil] at w;cases w;exact .nil
 | cons n ns ih =>
  intro vs w;rw[List.map_cons] at w;cases w with
  | cons a b =>
   cases a;exact .cons _ _ (ih _ b)
theorem Zjx{l:OpenLaw}{n:Nat}(hn:l.most=some n){P:Params}{h:Heap}{args:List WData}{vals:List Value}
  (hpre:l.row.toRowW.claim.pre args=true) (hwl:WellAll P h vals args) :
  ∃a vs ns,vals=[Value.ref a]/\args=[WData.list (ns.map WData.int)]/\h.get? a=some { cls:=.type "list",data:=.seq vs.toArray }/\IntsAre vs ns/\ns.length<=n:=by
 have hsh:WShape.hasAll [] args [.list .int]=true:=(pre_splitW hpre).1;have hc:l.pre.holds [] { args:=args }=true:=(pre_splitW hpre).2;obtain⟨d,r,rfl,h1,h2⟩:=hasAllW_cons hsh;obtain rfl:=hasAllW_nil h2;obtain⟨xs,rfl,h3⟩:=hasW_list h1;obtain⟨ns,rfl⟩:=items_int h3;have hlen:ns.length<=n:=by
  unfold OpenLaw.pre at hc;have h4:(WTm.not (.lt (.lit (.int (n:Int))) (.len (.arg 0)))).holds [] { args:=[.list (ns.map .int)] }=true:=by
   have h4:=(holds_andW hc).1;rw[hn] at h4;exact h4
  have h5:=condW_of h4 (w_not (w_lt w_lit (w_len_list (w_arg rfl))));rw[List.length_map] at h5;refine Nat.le_of_not_lt fun q=>?_;have q':(n:Int)<((ns.length:Nat):Int):=by lia
  first
   | (rw[decide_eq_true q'] at h5;exact absurd h5 (by decide))
   | (simp at h5;lia)
 cases hwl with
 | cons w1 w2 =>
  cases w2;cases w1 with
  | list ho hall=>exact⟨_,_,ns,rfl,rfl,ho,ZdX ns _ hall,hlen⟩
theorem Ziq(l:OpenLaw)(args:List WData):l.row.toRowW.claim.post args (.bool true) args=true :=
 postW_of (r:=l.row.toRowW) (X:=(true == true))
  (show WShape.has [] (.bool true) .bool=true by first|rfl|decide|simp[WShape.has,WShape.arms,WShape.armsAll])
  (show(WTm.eq .res (.lit (.bool true))).value [] { args:=args,res:=some (.bool true),after:=args }=some (.bool (true == true)) from w_eq_bool (w_res rfl) w_lit) rfl
theorem ZgM{l:OpenLaw}{n:Nat}{q:Program}{loose:List Str}{XP:(Str->Option Value)->Heap->Prop}{YP:World->Heap->Prop}{d:DefRec}
  (hn:l.most=some n) (hdf:d.params.defaults=[])
  (call:∀(w:World)(s₀ s₁ : Shared)(mg mb:Str->Option Value)(fa:Addr)(o:Obj)(pm cd doc:Value)(a:Addr)(vs:List Value)(ns:List Int),
   Ground q loose [] XP w s₀ mg mb s₁.heap->YP w s₁.heap ->
   s₁.heap.get? fa=some o->o.data=.func (docDef d.name d.params d.body d.scope pm cd doc)->s₁.heap.CodeRec cd d.name->mg d.name=some (.ref fa) ->
   s₁.heap.get? a=some { cls:=.type "list",data:=.seq vs.toArray }->IntsAre vs ns->ns.length<=n->s₁.gens=#[] ->
   codeAny (model l.prog w) callerA (.call (.ref fa) ⟨[.ref a],[]⟩) (fun r s'=>r=.ok (.ret (.bool true))/\OldK s₁.heap s'.heap/\s'.os=s₁.os/\AllBare s'.gens) s₁) :
  WalkO q loose XP YP l.row.toRowW d [] (fun f vs=>PySem.call f vs):=by
 intro w s₀ s₁ mg mb G Y fa o pm cd doc dV kV ho hd hcd hD hmg hg args vals as hpre hlay hrd hwl hlo;obtain rfl:dV=.none:=Dflts.none hD hdf;obtain rfl:kV=.none:=Dflts.noKw hD;obtain⟨a,vs,ns,rfl,rfl,hobj,hints,hlen⟩:=Zjx hn hpre hwl;refine enter_call (codeAny_mono (call w s₀ s₁ mg mb fa o pm cd doc a vs ns G Y ho (fd_plain hd) hcd hmg hobj hints hlen hg) fun r s' hq=>?_);obtain⟨rfl,h2,h3,h4⟩:=hq;exact⟨.inl ⟨.bool true,.bool true,[],rfl,fun _=>rfl,.bool true,Ziq l _,fun _=>⟨List.Pairwise.nil,fun _ hm=>(nomatch hm)⟩⟩,h2,h3,h4⟩
end Att
namespace L2
open PySem PySem.Spec PyProof.Rows
theorem ZfC:∀{vs:List Value}{ns:List Int},IntsAre vs ns->Vals (ns.map V.int) vs
 | _,_,.nil=>.nil
 | _,_,.cons n t h=>.cons ⟨t,rfl⟩ (ZfC h)
def Only(H:Hp):Prop := ∀b,H b=none\/∃o xs,H b=some (.frz o (.lst xs))
theorem Zky{P:Program}{w:World}{K:PySem.W.Frag}{mg mb:Str->Option Value}{CX:CXT}{k:Nat}{fa a:Addr}{fd:FuncData}{x:Str}{sp:Sp}{s₁ : Shared}{vs:List Value}{ns:List Int}
  (KX:K.In s₁.heap) (hns:s₁.heap.Ns mainGlobals mg) (hb:s₁.heap.Ns builtinsNs mb) (hbb:∀x:Str,x ≠ "__name__" -> mb x=bootBuiltins x) (hlim:s₁.heap.NoLimit) (hg:s₁.gens=#[])
  (ha:s₁.heap.get? a=some { cls:=.type "list",data:=.seq vs.toArray }) (hi:IntsAre vs ns) (hl:ns.length<=sizeLine) (hr:Room k callerA)
  (F:∀base:Heap,K.In base->base.Ns mainGlobals mg->FnOk P w K mg base CX k fa fd [x] sp) (hbind:∀(s:Shared)(u:Value),BindsTo s fd ⟨[u],[]⟩ [(x,u)])
  (hsp:∀H:Hp,Only H->SqL K H a (ns.map V.int)->sp [.ref a] H (fun v _=>v=.bl true) fun _ _ _=>False)
  (hCX:∀H e s',CX [] H s₁ (fun _ _ _=>False) e s'->False) :
  codeAny (model P w) callerA (.call (.ref fa) ⟨[.ref a],[]⟩) (fun r s'=>r=.ok (.ret (.bool true))/\OldK s₁.heap s'.heap/\s'.os=s₁.os/\AllBare s'.gens) s₁ := by
 have rv:=ZfC hi;have lenV:=hi.length;have core:∀H:Hp,Only H->SqL K H a (ns.map V.int)->HOk P w H s₁.heap->(∀b,H b≠none->b=a)->(H a≠none->K.lookup a=none) ->
   codeAny (model P w) callerA (.call (.ref fa) ⟨[.ref a],[]⟩) (fun r s'=>r=.ok (.ret (.bool true))/\OldK s₁.heap s'.heap/\s'.os=s₁.os/\AllBare s'.gens) s₁ := by
  intro H hO hS hok hA hK;have base_of:∀{b:Addr}{o:Obj},s₁.heap.get? b=some o->H b=none->(ZkK s₁.heap H).get? b=some o:=fun e n=>ZkY e n;have noA:∀{b:Addr}{o:Obj}{es:Array DictEntry}{ep:Nat},s₁.heap.get? b=some o->o.data=.dict es ep->H b=none:=fun{b o es ep} e d=>by
   cases q:H b with
   | none=>rfl
   | some u =>
    have e':b=a:=hA b (by rw[q];simp);subst e';rw[ha] at e;cases e;have d':Data.seq vs.toArray _=Data.dict es ep:=d;cases d'
  have nsK:∀{b:Addr}{m:Str->Option Value},s₁.heap.Ns b m->(ZkK s₁.heap H).Ns b m:=fun{b m} ⟨o,es,ep,e,d,r⟩=>⟨o,es,ep,base_of e (noA e d),d,r⟩;have hKb:K.In (ZkK s₁.heap H):=fun b o e=>base_of (KX b o e) (by
   cases q:H b with
   | none=>rfl
   | some u =>
    have e':b=a:=hA b (by rw[q];simp);subst e';rw[hK (by rw[q];simp)] at e;cases e)
  have hM:Mod K mg (ZkK s₁.heap H):=⟨hKb,nsK hns,⟨mb,nsK hb,hbb⟩,let ⟨mc,h1,h2⟩:=hlim;⟨mc,nsK h1,h2⟩⟩;have e0:Env0 P w K mg (ZkK s₁.heap H) callerA [] s₁ H:=⟨rfl,hM,fun b o e=>ZlW e,Nat.le_of_eq (ZjJ _ _),trivial,fun b hb=>absurd (show b∈([]:List Addr) from hb) (by simp),hok,.of_eq hg⟩;refine codeAny_mono ((F _ hKb (nsK hns)).run callerA [] s₁ H ⟨[.ref a],[]⟩ [.ref a] [.ref a] _ _ hr e0 (hbind s₁ (.ref a)) (.cons rfl .nil) (hsp H hO hS)) fun r s' h=>?_;cases r with
  | error e=>exact(hCX H e s' h).elim
  | ok fl =>
   cases fl with
   | next=>exact False.elim h
   | brk=>exact False.elim h
   | cont=>exact False.elim h
   | ret u =>
    obtain⟨v,H',os,bare,un,hok',r',q⟩:=h;have q':v=.bl true:=q;subst q';obtain rfl:u=Value.bool true:=r';refine⟨rfl,OldK.of_keep fun b o e=>?_,os,bare⟩;cases q:H b with
    | none=>exact un.keep b o e q (by intro z;exact absurd (show b∈([]:List Addr) from z) (by simp)) (by simp)
    | some u =>
     rcases hO b with z|⟨ob,xs,z⟩
     ·rw[q] at z;cases z
     ·have z2:=un.frzs b ob _ z;obtain⟨e1,_⟩:=hok b _ z;obtain⟨e2,_⟩:=hok' b _ z2;rw[e] at e1;cases e1;exact e2
 cases hk:K.lookup a with
 | some o =>
  have e:=KX a o hk;rw[ha] at e;cases e;refine core (fun _=>none) (fun _=>.inl rfl) (.inr ⟨_,vs.toArray,_,hk,rfl,rfl,rfl,by rw[List.size_toArray,lenV];exact hl,by simpa using rv⟩) (fun b u z=>by have z':(none:Option HO)=some u:=z;cases z') (fun b z=>absurd rfl z) fun z=>absurd rfl z
 | none =>
  refine core (fun b=>if b=a then some (.frz { cls:=.type "list",data:=.seq vs.toArray } (.lst (ns.map V.int))) else none) (fun b=>?_) (.inl (.inr ⟨{ cls:=.type "list",data:=.seq vs.toArray },if_pos rfl⟩)) (fun b u z=>?_) (fun b z=>?_) fun _=>hk
  ·by_cases hb:b=a
   ·exact .inr ⟨_,_,if_pos hb⟩
   ·exact .inl (if_neg hb)
  ·by_cases hb:b=a
   ·have z':=(if_pos hb).symm.trans z;cases z';subst hb;exact⟨ha,by rw[List.length_map];exact hl,vs,_,rv,ha⟩
   ·have z':=(if_neg hb).symm.trans z;cases z'
  ·by_cases hb:b=a
   ·exact hb
   ·exact absurd (if_neg hb) z
theorem Zi2{l:PySem.W.OpenLaw}{n k:Nat}{q:Program}{loose:List Str}{XP:(Str->Option Value)->Heap->Prop}{YP:World->Heap->Prop}{d:DefRec}{K:Params->PySem.W.Frag}{CX:World->CXT}{sp:World->Sp}{x:Str}
  (hn:l.most=some n) (hn2:n<=sizeLine) (hdf:d.params.defaults=[]) (hr:Room k callerA)
  (hY:∀(w:World)(h:Heap),YP w h->(K w.params).In h)
  (F:∀(w:World)(mg:Str->Option Value)(fa:Addr)(h:Heap),(K w.params).In h->h.Ns mainGlobals mg->mg d.name=some (.ref fa) ->
   ∃fd:FuncData,(∀(s:Shared)(u:Value),BindsTo s fd ⟨[u],[]⟩ [(x,u)]) /\
    ∀base:Heap,(K w.params).In base->base.Ns mainGlobals mg->FnOk l.prog w (K w.params) mg base (CX w) k fa fd [x] (sp w))
  (hsp:∀(w:World)(H:Hp)(a:Addr)(ns:List Int),ns.length<=n->Only H->SqL (K w.params) H a (ns.map V.int)->sp w [.ref a] H (fun v _=>v=.bl true) fun _ _ _=>False)
  (hCX:∀(w:World)(H:Hp)(s:Shared)(e:Value)(s':Shared),CX w [] H s (fun _ _ _=>False) e s'->False) :
  PySem.W.WalkO q loose XP YP l.row.toRowW d [] (fun f vs=>PySem.call f vs):=by
 refine Att.ZgM hn hdf fun w s₀ s₁ mg mb fa o pm cd doc a vs ns G Y ho hd hcd hmg hobj hints hlen hg=>?_;have KX:=hY w _ Y;obtain⟨fd,hb,hF⟩:=F w mg fa _ KX G.T.g hmg;exact Zky KX G.T.g G.T.b G.T.builtins G.T.nolimit hg hobj hints (Nat.le_trans hlen hn2) hr hF hb (fun H hO hS=>hsp w H a ns hlen hO hS) fun H e s'=>hCX w H s₁ e s'
end L2
/- THE LAST THEOREM (shape;LID,My.* are yours):
   My.Adr: a structure of the addresses that your layer names (classes,functions);My.Txt K t: a structure (Prop) of the equations over K;
   My.txt_mk:{K} {implicit addresses ..} (e1:nsIn K mainGlobals "law" = some (some (.ref f))) (e2:K.lookup f=some ⟨oc,od,.func (fnOf "law" "law" params body scope dV kV doc pm an cdv ct),sl⟩) (e3:codeIn K cdv "law" = true) .. : ∃t,My.Txt K t
set_option maxRecDepth 100000 in
set_option maxHeartbeats 0 in
theorem PySem.Challenge.cw_LID_holds : PySem.Challenge.rw_LID.Holds := by
 w_on;o_law;k_head;(case hw=>w_witness2)
 k_fill
 refine L2.Zi2 (l:=PySem.Challenge.rw_LID) (n:=63) (k:=40) (x := "script") (CX:=fun w=>..) (sp:=fun _=>My.sp_law) rfl (by decide) rfl ⟨rfl,by decide,by decide⟩ (fun w h Y=>PySem.W.kIn_of Y) ?F ?S ?C
 case F =>
  intro w mg fa h KX G hmg;have T:∃t,My.Txt (L2.KOf KX) t:=by
   dsimp only[L2.KOf]                          -- K must stand as «<heap const> w.params» for k_is
   refine' My.txt_mk ?e1 ?e2 ?e3 ..
   (case e1=>PySem.W.k_is)                    -- in the order: a name->its address->its object->its parts
   (case e2=>PySem.W.k_is)
   ..
  obtain⟨t,T⟩:=T;have e0:=hmg.symm.trans (PySem.W.mg_of KX G T.law);cases e0                                       -- fa is the law's own address
  exact⟨_,fun s u=>.of_eq rfl,fun base kb nb=>My.law_fn T kb nb⟩     -- if «.of_eq rfl» comes too early: refine' ⟨_,?b,fun base kb nb=>My.law_fn T kb nb⟩;exact fun s u=>.of_eq rfl
 case S=>exact fun w H a ns hl hO hS=>..
 case C=>exact ..
(the tactic k_is has no namespace: write k_is) -/
namespace L2
open PySem PySem.Spec PyProof.Rows
def inClass(s:Stmt)(j:Nat):Stmt:=match s with
 | .ClassDef _ _ _ body _ _ _ _ _ _ _=>body.getD j (.Pass ⟨0,0,0,0⟩)
 | _=>.Pass ⟨0,0,0,0⟩
def ZJ(s:Stmt):Arguments:=match s with
 | .FunctionDef _ a _ _ _ _ _ _ _ _=>a
 | _=>{ posonlyargs:=[],args:=[],vararg:=none,kwonlyargs:=[],kw_defaults:=[],kwarg:=none,defaults:=[] }
def Ze(s:Stmt):List Stmt:=match s with
 | .FunctionDef _ _ b _ _ _ _ _ _ _=>b
 | _=>[]
def Zf(s:Stmt):Scope:=match s with
 | .FunctionDef _ _ _ _ _ _ sc _ _ _=>sc
 | _=>{ kind:=.function,names:=[],isGenerator:=false,isCoroutine:=false }
abbrev CX0:CXT:=fun _ _ _ _ _ _=>False
abbrev E0:XK:=fun _ _ _=>False
theorem ZkL{X:Cx}:Zed CX0 X E0:=fun _ _ _ _ _ _ _ h=>h.elim
structure Fun(K:PySem.W.Frag)(x qual:Str)(st:Stmt)(f:Addr)(fd:FuncData):Prop where
 ex:∃(oc:Value)(od:Option Addr)(kV doc pm:Value)(an:Option Addr)(cdv ct:Value)(osl:Array (Option Value)),
  fd=PySem.W.fnOf x qual (ZJ st) (Ze st) (Zf st) .none kV doc pm an cdv ct/\K.lookup f=some ⟨oc,od,.func fd,osl⟩/\PySem.W.codeIn K cdv qual=true
 kp:PySem.W.keepIn K (.ref f)=true
section
variable{P:Program}{w:World}{K:PySem.W.Frag}{mg:Str->Option Value}{base:Heap}
theorem Fun.ok{x qual:Str}{st:Stmt}{f:Addr}{fd:FuncData}{N ps:List Str}{k:Nat}{sp:Sp}(F:Fun K x qual st f fd)(S:FnScope N ps (Zf st))(len:∀vs H Q E,sp vs H Q E->vs.length=ps.length)
  (hbody:∀(cdv:Value)(A:Around)(outer:List Env)(s:Shared)(H:Hp)(vs:List V)(Q:VK)(E:XK),Room k (A.deeper (envOfC qual (Zf st) s.heap.objs.size f cdv))->sp vs H Q E ->
   ∃t,PSs (Zko CX0 P w K mg base N qual (Zf st) f cdv A outer s H E).nox (Ze st) t/\t { nx:=fun _ H'=>Q .non H',rt:=Q } (start N vs) H):FnOk P w K mg base CX0 (k+1) f fd ps sp:=by
 obtain⟨oc,od,kV,doc,pm,an,cdv,ct,osl,rfl,lk,hcd⟩:=F.ex;refine Znk lk hcd S len fun A outer s H vs Q E hr hsp=>?_;obtain⟨t,h,q⟩:=hbody cdv A outer s H vs Q E hr hsp;exact⟨t,h.nox,q⟩
theorem Fun.binds{x qual:Str}{st:Stmt}{f:Addr}{fd:FuncData}{ps:List Str}(F:Fun K x qual st f fd)
  (h:∀(kV doc pm:Value)(an:Option Addr)(cdv ct:Value)(us:List Value),us.length=ps.length->bindArgs (PySem.W.fnOf x qual (ZJ st) (Ze st) (Zf st) .none kV doc pm an cdv ct) ⟨us,[]⟩=pure (ps.zip us)):Binds K fd ps []:=by
 obtain⟨oc,od,kV,doc,pm,an,cdv,ct,osl,rfl,lk,hcd⟩:=F.ex;exact .all (h kV doc pm an cdv ct)
theorem ZZ{x qual:Str}{st:Stmt}{f:Addr}{oc:Value}{od an:Option Addr}{osl:Array (Option Value)}{kV doc pm cdv ct:Value}(l:K.lookup f=some ⟨oc,od,.func (PySem.W.fnOf x qual (ZJ st) (Ze st) (Zf st) .none kV doc pm an cdv ct),osl⟩)
  (c:PySem.W.codeIn K cdv qual=true) (k:PySem.W.keepIn K (.ref f)=true):Fun K x qual st f (PySem.W.fnOf x qual (ZJ st) (Ze st) (Zf st) .none kV doc pm an cdv ct):=⟨⟨oc,od,kV,doc,pm,an,cdv,ct,osl,rfl,l,c⟩,k⟩
end
section
variable{X:Cx}
theorem pv(i:Nat){x:Str}{pos:Pos}(hN:X.N[i]?= some x:=by rfl)(hv:Vis X.env.scope x:=by first|exact Or.inl rfl|exact Or.inr (Or.inl rfl)|exact Or.inr (Or.inr rfl))(hd:(x == ("__debug__" : Str))=false:=by decide)
  (hcd:(x == ("__classdict__" : Str))=false:=by decide):PE X (.Name x pos) (Zjm i):=Znq hN hv hd hcd
end
theorem ZbO{A B:Prop}(h:B):if false=true then A else B:=by
 rw[if_neg Bool.false_ne_true];exact h
theorem Zcn{A B:Prop}(h:A):if true=true then A else B:=by
 rw[if_pos rfl];exact h
theorem ZaU{c A B:Prop}[Decidable c](h1:c->A)(h2 : ¬ c->B):if c then A else B:=by
 by_cases h:c
 ·rw[if_pos h];exact h1 h
 ·rw[if_neg h];exact h2 h
def Zk(H H':Hp):Prop := ∀b o,H b=some o->H' b=some o
theorem Zk.refl(H:Hp):Zk H H:=fun _ _ h=>h
theorem Zk.trans{H H1 H2:Hp}(a:Zk H H1)(b:Zk H1 H2):Zk H H2:=fun c o h=>b c o (a c o h)
theorem Zk.free{H H':Hp}(e:Zk H H'){l:Addr}(h:H' l=Option.none):H l=Option.none:=by
 cases q:H l with
 | none=>rfl
 | some o =>
  rw[e l o q] at h;cases h
theorem Zk.seq{K:PySem.W.Frag}{H H':Hp}{a:Addr}{xs:List V}(e:Zk H H')(h:SqL K H a xs):SqL K H' a xs:=by
 rcases h with(h|⟨o,h⟩)|h
 ·exact .inl (.inl (e _ _ h))
 ·exact .inl (.inr ⟨o,e _ _ h⟩)
 ·exact .inr h
theorem Zi9:bootBuiltins "list" = some (.type "list"):=by decide +kernel
theorem ZbZ:bootBuiltins "tuple" = some (.type "tuple"):=by decide +kernel
theorem ZlI:bootBuiltins "str" = some (.type "str"):=by decide +kernel
theorem ZhF:bootBuiltins "int" = some (.type "int"):=by decide +kernel
theorem Zju:bootBuiltins "dict" = some (.type "dict"):=by decide +kernel
theorem ZnC:bootBuiltins "max" = some (.builtin "max"):=by decide +kernel
theorem Zbg:bootBuiltins "isinstance" = some (.builtin "isinstance"):=by decide +kernel
section
variable{X:Cx}
theorem ZkO{x:Str}{n:String}{pos:Pos}(hg:Gl X x)(hm:X.mg x=none)(hv:bootBuiltins x=some (.type n))(hn:x ≠ "__name__" := by decide) (hd:(x == ("__debug__" : Str))=false:=by decide):PE X (.Name x pos) (tC (.ty n)) :=
 Zmr (v:=.ty n) hg hm hv rfl hn hd
end
structure Has(P:Program)(w:World)(K:PySem.W.Frag)(mg:Str->Option Value)(base:Heap)(x:Str)(ps:List Str)(k:Nat)(sp:Sp):Prop where
 ex:∃(f:Addr)(fd:FuncData),FnOk P w K mg base CX0 k f fd ps sp/\Binds K fd ps []/\PySem.W.keepIn K (.ref f)=true/\mg x=some (.ref f)
section
variable{X:Cx}{x:Str}{ps:List Str}{j k:Nat}{sp:Sp}{e:Expr}{es:List Expr}{t:TA}{p pos:Pos}
theorem FnOk.room{P:Program}{w:World}{K:PySem.W.Frag}{mg:Str->Option Value}{base:Heap}{CX:CXT}{f:Addr}{fd:FuncData}(F:FnOk P w K mg base CX j f fd ps sp)(h:j<=k):FnOk P w K mg base CX k f fd ps sp :=
 ⟨F.len,fun A outer s H args us vs Q E hr=>F.run A outer s H args us vs Q E (hr.mono h)⟩
theorem ZR(G:Has X.prog X.w X.K X.mg X.base x ps j sp)(hr:Room k X.A)(hg:Gl X x)(ha:PA X (e::es) t)(hk:j<=k:=by decide)(hdb:(x == ("__debug__" : Str))=false:=by decide)
  (he:starEach (e::es) X.env=(false,eval e X.env)::starEach es X.env:=by rfl) (hpl:(backTo pos (starEach es X.env)).any (·.1)=false:=by rfl) :
  PE X (.Call (.Name x p) (e::es) [] pos) (Zne sp [] E0 t):=by
 obtain⟨f,fd,F,b,kp,m⟩:=G.ex;exact ZmL (F.room hk) hr hg m kp b .nil ZkL ha hdb he hpl
end
section
variable{X:Cx}
def Zc8(z:Str)(n:Nat):Str:=⟨(List.replicate n z.cps).foldl (· ++ ·) #[]⟩
theorem Ziv(z:Str):Zc8 z 0=Str.empty:=rfl
theorem Zf4{α : Type}:∀(l:List (Array α))(a:Array α),(l.foldl (· ++ ·) a).toList=a.toList++l.flatMap (·.toList)
 | [],a=>by simp
 | x::l,a=>by rw[List.foldl_cons,Zf4 l];simp
theorem Zg8(z:Str)(n:Nat):(Zc8 z n).cps.toList=(List.replicate n z.cps.toList).flatten:=by
 unfold Zc8;rw[Zf4]
 induction n with
 | zero=>rfl
 | succ n ih =>
  rw[List.replicate_succ,List.replicate_succ,List.flatMap_cons,List.flatten_cons];simp at ih ⊢;exact ih
theorem ZkU(z:Str):Zc8 z 1=z:=by
 cases z with
 | mk c=>unfold Zc8;simp
theorem ZdH(z:Str)(n:Nat):(Zc8 z n).length=n*z.length:=by
 show(Zc8 z n).cps.size=n*z.cps.size;rw[<- Array.length_toList,Zg8];simp
theorem Zet:OpR X (binaryOp .Mult) (fun x y H Q=>∃z k,x=.str z/\y=.int k /\ -(2 ^ 63)<=k/\k<2 ^ 63/\k.toNat*z.length<=sizeLine/\Q (.str (Zc8 z k.toNat)) H):=by
 intro pins s σ H x y v u Q I rx ry h;obtain⟨z,k,rfl,rfl,h1,h2,hz,q⟩:=h;obtain⟨t,rfl⟩:=rx;obtain⟨t',rfl⟩:=ry;have hline:=sizeLine_eq;refine PySem.P.mul_str ?_ (fun hk hc=>?_) (fun hk hc=>?_) ?_
 ·rw[decide_eq_false (by lia),decide_eq_false (by lia)];rfl
 ·intro hgt;have hzk:(z.length:Int)*k<=(2 ^ 63-1):=by
   have:((k.toNat*z.length:Nat):Int)<=sizeLine:=by exact_mod_cast hz
   rw[Int.natCast_mul,show((k.toNat:Nat):Int)=k by lia,Int.mul_comm] at this;lia
  have:=(Int.le_ediv_iff_mul_le (by lia:0<k)).mpr hzk;lia
 ·unfold Builtin.Str.tooLong;refine decide_eq_false ?_;rw[Nat.mul_comm];lia
 ·by_cases c1:k<1
  ·rw[if_pos c1];have e:k.toNat=0:=by lia
   rw[e,Ziv] at q;exact⟨by decide,.str Str.empty,H,I.tok _,⟨_,rfl⟩,q⟩
  ·rw[if_neg c1];by_cases c2:(k == 1 || z.length == 0)=true
   ·rw[if_pos c2];have e:Zc8 z k.toNat=z:=by
     rw[Bool.or_eq_true] at c2;rcases c2 with c2|c2
     ·have:k=1:=eq_of_beq c2;subst this;exact ZkU z
     ·have hz0:z.length=0:=eq_of_beq c2;have a:(Zc8 z k.toNat).cps.toList=z.cps.toList:=by
       have l1:(Zc8 z k.toNat).cps.toList.length=0:=by
        rw[Array.length_toList];have:=ZdH z k.toNat;rw[hz0,Nat.mul_zero] at this;exact this
       have l2:z.cps.toList.length=0:=by
        rw[Array.length_toList];exact hz0
       rw[List.eq_nil_of_length_eq_zero l1,List.eq_nil_of_length_eq_zero l2]
      cases z with
      | mk c =>
       have b:(Zc8 ⟨c⟩ k.toNat).cps=c:=Array.toList_inj.mp a;cases hr:Zc8 ⟨c⟩ k.toNat with
       | mk d=>rw[hr] at b;exact congrArg Str.mk b
    rw[e] at q;exact⟨.str z,H,I,⟨_,rfl⟩,q⟩
   ·rw[if_neg c2];refine⟨?_,.str (Zc8 z k.toNat),H,I.tok _,⟨_,rfl⟩,q⟩;have:=ZdH z k.toNat;show(Zc8 z k.toNat).length<=sizeLine;rw[this];exact hz
end
mutual
inductive Dp(K:PySem.W.Frag)(H:Hp):V->PyData->Prop
 | non:Dp K H .non .none
 | bl (b:Bool):Dp K H (.bl b) (.bool b)
 | int (i:Int):Dp K H (.int i) (.int i)
 | str (x:Str):Dp K H (.str x) (.str x)
 | lst {a:Addr} {xs:List V} {ds:List PyData}:SqL K H a xs->DpAll K H xs ds->Dp K H (.ref a) (.list ds)
 | tup {a:Addr} {xs:List V} {ds:List PyData}:SqT K H a xs->DpAll K H xs ds->Dp K H (.ref a) (.tuple ds)
inductive DpAll(K:PySem.W.Frag)(H:Hp):List V->List PyData->Prop
 | nil:DpAll K H [] []
 | cons {v:V} {vs:List V} {d:PyData} {ds:List PyData}:Dp K H v d->DpAll K H vs ds->DpAll K H (v::vs) (d::ds)
end
section
variable{X:Cx}{pins:List (Addr×Obj)}{σ : St}{H:Hp}{s:Shared}
mutual
theorem Dp.reads(I:Inv X pins σ H s):∀{v:V}{d:PyData}{u:Value},Dp X.K H v d->RelV v u->∃as,Reads s.heap u d as
 | _,_,u,.non,r=>by
  obtain rfl:u=Value.none:=r;exact⟨_,.none⟩
 | _,_,u,.bl b,r=>by
  obtain rfl:u=Value.bool b:=r;exact⟨_,.bool b⟩
 | _,_,_,.int i,⟨t,e⟩=>by
  subst e;exact⟨_,.int i t⟩
 | _,_,_,.str x,⟨t,e⟩=>by
  subst e;exact⟨_,.str x t⟩
 | _,_,u,@Dp.lst _ _ a xs ds hq hall,r=>by
  obtain rfl:u=Value.ref a:=r;obtain⟨its,rv,⟨o,n,e,hc,_,hd⟩,_⟩:=I.list hq;obtain⟨as,ha⟩:=DpAll.reads I hall rv;exact⟨_,.list e hc hd (by simpa using ha)⟩
 | _,_,u,@Dp.tup _ _ a xs ds hq hall,r=>by
  obtain rfl:u=Value.ref a:=r;obtain⟨its,rv,⟨o,e,hc,n,hd⟩,_⟩:=I.tuple hq;obtain⟨as,ha⟩:=DpAll.reads I hall rv;exact⟨_,.tuple e hc hd (by simpa using ha)⟩
theorem DpAll.reads(I:Inv X pins σ H s):∀{vs:List V}{ds:List PyData}{us:List Value},DpAll X.K H vs ds->Vals vs us->∃as,ReadsAll s.heap us ds as
 | _,_,_,.nil,.nil=>⟨_,.nil⟩
 | _,_,_,.cons h t,.cons r rs=>by
  obtain⟨as,ha⟩:=Dp.reads I h r;obtain⟨bs,hb⟩:=DpAll.reads I t rs;exact⟨_,.cons ha hb⟩
end
end
section
variable{X:Cx}
theorem ZdZ{A:Around}{k:Nat}(hr:Room k A):A.units+200<cLine:=by
 have:=hr.un;lia
end
def TK(H H':Hp):Prop := ∀b xs,H b=some (.tup xs)->H' b=some (.tup xs)
theorem TK.trans{H H1 H2:Hp}(a:TK H H1)(b:TK H1 H2):TK H H2:=fun c xs h=>b c xs (a c xs h)
theorem TK.lst{H:Hp}{p:Addr}{xs:List V}{o:HO}(h:H p=some (.lst xs)):TK H (upd H p o):=fun b ys q=>by
 by_cases e:b=p
 ·subst e;rw[h] at q;cases q
 ·rw[Zu e];exact q
theorem Zk.tk{H H':Hp}(h:Zk H H'):TK H H':=fun b xs q=>h b _ q
theorem Zk.new{H:Hp}{p:Addr}{o:HO}(h:H p=none):Zk H (upd H p o):=fun b u q=>by
 rw[Zu (ZK q h)];exact q
theorem Zk.upd_new{H H':Hp}{p:Addr}{o:HO}(h:Zk H H')(hp:H p=none):Zk H (upd H' p o):=fun b u q=>by
 rw[Zu (ZK q hp)];exact h b u q
theorem Zdc{H:Hp}{p b:Addr}{o:HO}(h:upd H p o b=none):b≠p/\H b=none:=by
 by_cases e:b=p
 ·subst e;rw[Zb] at h;cases h
 ·rw[Zu e] at h;exact⟨e,h⟩
theorem Paired.app{α β : Type}{F : α -> β -> Prop}:∀{l₁ k₁ : List α}{l₂ k₂ : List β},Paired F l₁ l₂ -> Paired F k₁ k₂ -> Paired F (l₁ ++ k₁) (l₂ ++ k₂)
 | _,_,_,_,.nil,s=>s
 | _,_,_,_,.cons r t,s=>.cons r (Paired.app t s)
end L2
namespace Fg
open PySem L2 FgM
def Zkl(t:Str):Prop:=t.cps.toList ≠ []/\∀c∈t.cps.toList,97<=c/\c<=122
theorem Zkf(x y:Str):(x++y).cps.toList=x.cps.toList++y.cps.toList:=by
 show(x.cps++y.cps).toList=_;simp
theorem ZmO{ns:List Int}{k:Int}(h0:0<=k)(h:k<(ns.length:Int)):∃v:Int,atI (ns.map V.int) k=some (.int v):=by
 obtain⟨n,rfl⟩:=Int.eq_ofNat_of_zero_le h0;have hn:n<ns.length:=by lia
 exact⟨ns[n],ZbP (by rw[List.getElem?_map,List.getElem?_eq_getElem hn];rfl)⟩
def Zc1(K:PySem.W.Frag):Sp:=fun vs H Q _=>∃(a:Addr)(ns:List Int)(k:Int),vs=[.ref a,.int k]/\SqL K H a (ns.map V.int)/\ns.length<=63/\0<=k/\∀v:Int,Q (.int v) H
def Zk2(K:PySem.W.Frag):Sp:=fun vs H Q _=>∃(a:Addr)(ns:List Int),vs=[.ref a]/\SqL K H a (ns.map V.int)/\ns.length<=63/\∀H',Q (.bl true) H'
theorem Zj{n:Nat}(h:n<=100000):n<=sizeLine:=Nat.le_trans h (by decide)
theorem Z3{n:Nat}(h:n<=100000):n<sizeLine:=Nat.lt_of_le_of_lt h (by decide)
theorem Zn(x y:Str):(x++y).length=x.length+y.length:=by
 show(x.cps++y.cps).size=_;rw[Array.size_append];rfl
theorem ZkW(xs:List V)(n:Nat):ZmJ xs (some (n:Int)) none=xs.drop n:=by
 unfold ZmJ;rw[HT.Zmz,HT.Zkz];rw[List.take_of_length_le (by rw[List.length_drop];exact Nat.le_refl _)];by_cases h:n<=xs.length
 ·rw[Nat.min_eq_left h]
 ·rw[Nat.min_eq_right (by lia),List.drop_length,List.drop_eq_nil_of_le (by lia)]
end Fg
namespace L2
open PySem PySem.Spec PyProof.Rows
theorem ZeC:∀{ys:List Str}{us:List Value},Vals (ys.map V.str) us->StrsAre us ys
 | [],_,.nil=>.nil
 | y::ys,_,.cons r t=>by
  obtain⟨tk,e⟩:=r;subst e;exact .cons y tk (ZeC t)
section
variable{X:Cx}
def rJoin(K:PySem.W.Frag):V->List V->Hp->VK->Prop:=fun x vs H Q=>∃z a ys,x=.str z/\vs=[.ref a]/\SqL K H a (ys.map V.str)/\(ys.map (·.length)).sum+ys.length*z.length<=16777216/\Q (.str (Txt.join z ys)) H
theorem Zdl:MtM X "str.join" (rJoin X.K):=by
 intro pins s σ H x vs v us Q I rx rv h;obtain⟨z,a,ys,rfl,rfl,hS,hz,q⟩:=h;obtain⟨t,rfl⟩:=rx;obtain⟨u,rfl,ru⟩:=rv.one;cases ru;obtain⟨its,r,pl,_⟩:=I.list hS;exact join_list pl.isList (by simpa using ZeC r) hz fun t' k=>⟨.str _,H,I.tok _,⟨_,rfl⟩,q⟩
end
end L2
namespace Fg
open PySem L2 FgM
def cs(x:Str):List Nat:=x.cps.toList
theorem Zb5{x y:Str}(h:cs x=cs y):x=y:=by
 cases x with
 | mk a =>
  cases y with
  | mk b=>exact congrArg Str.mk (Array.toList_inj.mp h)
theorem ZQ(x y:Str):cs (x++y)=cs x++cs y:=Zkf x y
def jn(sep:Str):List Str->List Nat
 | []=>[]
 | [x]=>cs x
 | x::y::r=>cs x++(cs sep++jn sep (y::r))
theorem ZeK(sep:Str):∀ys:List Str,cs (Str.join sep ys)=jn sep ys
 | []=>rfl
 | [x]=>rfl
 | x::y::r=>by
  show cs (x++sep++Str.join sep (y::r))=_;rw[ZQ,ZQ,ZeK sep (y::r),List.append_assoc];rfl
theorem Zfc(sep:Str)(ys:List Str):cs (Txt.join sep ys)=jn sep ys:=by
 have e:Txt.join sep ys=Str.join sep ys:=PySem.StrLaws.glued_eq_join sep ys;rw[e,ZeK]
theorem ZeP(sep:Str)(ys:List Str):(Txt.join sep ys).length<=(ys.map (·.length)).sum+ys.length*sep.length:=by
 have e:Txt.join sep ys=Str.join sep ys:=PySem.StrLaws.glued_eq_join sep ys;rw[e];exact PySem.StrLaws.join_length_le sep ys
end Fg
namespace L2
open PySem PySem.Spec PyProof.Rows
section
variable{P:Program}{w:World}{H:Hp}{h h':Heap}{a:Addr}{o:HO}
theorem ZaL.there(x:ZaL P w H h a o):∃ob,h.get? a=some ob:=by
 cases o with
 | lst xs=>obtain⟨_,_,_,_,e⟩:=x;exact⟨_,e⟩
 | tup xs=>obtain⟨_,_,_,ob,e,_⟩:=x;exact⟨_,e⟩
 | dK kvs=>obtain⟨_,_,_,_,ob,_,_,e,_⟩:=x;exact⟨_,e⟩
 | dT kvs=>obtain⟨_,_,_,_,ob,_,_,e,_⟩:=x;exact⟨_,e⟩
 | set S n=>obtain⟨ob,_,_,_,e,_⟩:=x;exact⟨_,e⟩
 | ins C dx fs=>obtain⟨_,_,_,e,_⟩:=x;exact⟨_,e⟩
 | own y=>obtain⟨_,e⟩:=x;exact⟨_,e⟩
 | xd fs=>obtain⟨_,⟨_,_,_,e,_⟩,_⟩:=x;exact⟨_,e⟩
 | rng lo hi=>obtain⟨_,_,_,e⟩:=x;exact⟨_,e⟩
 | frz ob u=>obtain⟨e,_⟩:=x;exact⟨_,e⟩
 | tbl ps=>exact⟨_,(show h.get? a=some _ from x)⟩
 | met f y=>exact⟨_,(show h.get? a=some _ from x)⟩
 | ext φ=>obtain⟨_,⟨_,e⟩,_⟩:=x;exact⟨_,e⟩
theorem HOk.freshN(x:HOk P w H h)(e:h.get? a=none):H a=none:=by
 cases q:H a with
 | none=>rfl
 | some u =>
  obtain⟨ob,e'⟩:=(x a u q).there;rw[e] at e';cases e'
end
section
variable{X:Cx}{pins:List (Addr×Obj)}{σ : St}{H:Hp}{s:Shared}{h':Heap}
theorem Inv.laidN{a:Addr}{o:HO}{t':Nat}(I:Inv X pins σ H s)(k:∀b u,s.heap.get? b=some u->h'.get? b=some u)(hp:s.heap.get? a=none)(new:ZaL X.prog X.w (upd H a o) h' a o) :
  Inv X pins σ (upd H a o) { s with heap:=h',toks:=t' }:=by
 have hn:=I.hok.freshN hp;have ne:∀b u,s.heap.get? b=some u->b≠a:=fun b u e z=>by
  rw[z,hp] at e;cases e
 refine I.un ⟨fun b u q _ _ _=>k b u q,fun b u q _ _ _=>⟨u.slots,k b u q⟩,fun b u q n _=>by rw[Zu (ne b u q)];exact n,fun b u q _=>⟨u,k b u q⟩,
  fun b xs q=>by rw[Zu (ZK q hn)];exact q,fun b u xs q=>by rw[Zu (ZK q hn)];exact q,fun b ps q=>⟨#[],by rw[Zu (ZK q hn),q];simp⟩⟩ fun b u e=>?_
 by_cases hb:b=a
 ·subst hb;rw[Zb] at e;cases e;exact new
 ·rw[Zu hb] at e;exact(I.hok b u e).stay (fun c v _ q=>k c v q) (fun c q=>by rw[Zu (ZK q hn)];exact q) fun c xs q=>by rw[Zu (ZK q hn)];exact q
end
section
variable{X:Cx}
theorem ZeW:∀{bs:List Bool}{us:List Value},Vals (bs.map V.bl) us->∀(i:Nat)(v:Value),us[i]?= some v->∃b,bs[i]?= some b/\v=.bool b
 | [],_,.nil,i,v,e=>by simp at e
 | b::bs,_,.cons r t,0,v,e=>by
  obtain rfl:_=Value.bool b:=r;simp at e;exact⟨b,rfl,e.symm⟩
 | b::bs,_,.cons r t,i+1,v,e=>by
  obtain⟨c,h1,h2⟩:=ZeW t i v (by simpa using e);exact⟨c,by simpa using h1,h2⟩
theorem all_range:∀(bs:List Bool),((List.range bs.length).all fun i=>(bs[i]?).getD true)=bs.all id:=by
 intro bs;rw[Bool.eq_iff_iff,List.all_eq_true,List.all_eq_true];constructor
 ·intro h b hb;obtain⟨i,hi,rfl⟩:=List.getElem_of_mem hb;have:=h i (List.mem_range.mpr hi);rw[List.getElem?_eq_getElem hi] at this;exact this
 ·intro h i hi;have hi':=List.mem_range.mp hi;rw[List.getElem?_eq_getElem hi'];exact h _ (List.getElem_mem hi')
theorem Zkt(hc:X.calm=true):ZbR X (.builtin "all") (fun xs H Q=>∃(p:Addr)(bs:List Bool),xs=[.ref p]/\SqL X.K H p (bs.map V.bl)/\Q (.bl (bs.all id)) H):=by
 intro pins s σ H xs us Q I r h;obtain⟨p,bs,rfl,hS,q⟩:=h;obtain⟨u,rfl,ru⟩:=Vals.one r;cases ru;obtain⟨its,rv,pl,hz⟩:=I.list hS;have hl:=pl.isList;have hlen:bs.length=its.length:=by
  have:=rv.length;rw[List.length_map] at this;exact this
 refine call_all_walk (wpAny_pyIter_list hl ⟨s.heap.objs.size,[s.heap.objs.size,p],[s.heap.objs.size],its.toArray.size,_,_,fun i=>(bs[i]?).getD true,rfl,
  Walks.list (A:=X.A.in1) (I.ok.hd hc) _ p (Nat.ne_of_lt pl.lt) its.toArray,⟨⟨_,Heap.get?_push_size _ rfl,rfl,rfl⟩,hl.push _⟩,fun i v s' Q' E' hP hQ=>?_,fun h' tk hk=>?_⟩)
 ·obtain⟨b,e,e2⟩:=ZeW rv i v (by simpa using hP);subst e2;simp only[e,Option.getD_some] at hQ;exact wpAny_truthy_bool hQ
 ·rw[List.size_toArray,<- hlen,all_range];refine⟨.bl _,H,I.kept (t':=tk) fun b o e=>hk b o (fun hm=>?_) (Heap.get?_push_of_some _ e),rfl,q⟩;rw[List.mem_singleton.mp hm] at e;exact Nat.lt_irrefl _ (Heap.lt_size e)
theorem Zjd:SlR X (fun x lo hi H Q=>∃z,x=.str z/\z.length<=sizeLine/\Q (.str (PySem.StrLaws.sliceText z lo hi)) H):=by
 intro pins s σ H x v vl vu lo hi sl Q I rx hs pl pu h;obtain⟨z,rfl,hz,q⟩:=h;obtain⟨t,rfl⟩:=rx;refine⟨"str",_,F.slot_str_getitem.lookup,typeIs_str s z t,?_⟩;have key:∀l u:Option (Int×Tok),s.heap.IsSlice sl l u none->l.map (·.1)=lo->u.map (·.1)=hi->wpAny (model X.prog X.w) X.A (getItem (.str z t) (.ref sl)) (EP X pins σ Q) X.xe s:=by
  intro l u hsl el eu;refine wpAny_getItem_str_slice hsl rfl ?_;unfold sliceMade slicePicked;rw[el,eu];unfold PySem.StrLaws.sliceText at q;by_cases c:((1:Int) == 1&&(Builtin.Str.strSliceIndices lo hi 1 z.length).length == z.length)=true
  ·rw[if_pos c] at q;rw[if_pos (show((((none:Option (Int×Tok)).map (·.1)).getD 1 == 1)&&(Builtin.Str.strSliceIndices lo hi (((none:Option (Int×Tok)).map (·.1)).getD 1) z.length).length == z.length)=true from c)];exact⟨.str z,H,I,⟨_,rfl⟩,q⟩
  ·rw[if_neg c] at q;rw[if_neg (show ¬ ((((none:Option (Int×Tok)).map (·.1)).getD 1 == 1)&&(Builtin.Str.strSliceIndices lo hi (((none:Option (Int×Tok)).map (·.1)).getD 1) z.length).length == z.length)=true from c)];refine⟨?_,.str _,H,I.tok _,⟨_,rfl⟩,q⟩;show(((Builtin.Str.strSliceIndices lo hi 1 z.length).filterMap (z.cps[·]?)).toArray).size<=sizeLine;rw[List.size_toArray];refine Nat.le_trans (List.length_filterMap_le _ _) (Nat.le_trans ?_ hz);refine sliceRange_length_le _ _ _ _ (fun _=>?_) (fun z=>absurd (by decide) z);cases lo with
   | none =>
    cases hi with
    | none=>exact⟨Int.le_refl 0,Int.le_refl _⟩
    | some j=>exact⟨Int.le_refl 0,by simp only[show(1:Int) > 0 by decide,if_true];lia⟩
   | some i =>
    cases hi with
    | none=>exact⟨by simp only[show(1:Int) > 0 by decide,if_true];lia,Int.le_refl _⟩
    | some j=>exact⟨by simp only[show(1:Int) > 0 by decide,if_true];lia,by simp only[show(1:Int) > 0 by decide,if_true];lia⟩
 cases pl with
 | none =>
  cases pu with
  | none=>exact key none none hs rfl rfl
  | int j tj=>exact key none (some (j,tj)) hs rfl rfl
 | int i ti =>
  cases pu with
  | none=>exact key (some (i,ti)) none hs rfl rfl
  | int j tj=>exact key (some (i,ti)) (some (j,tj)) hs rfl rfl
end
def azB(c:Nat):Bool:=decide (97<=c)&&decide (c<=122)
theorem ZlN(a b:Nat):decide (([a]:List Nat) < [b])=decide (a<b):=by
 have h:(([a]:List Nat) < [b])↔a<b:=by
  constructor
  ·intro h;cases h with
   | rel h=>exact h
   | cons h=>cases h
  ·intro h;exact List.Lex.rel h
 exact decide_eq_decide.mpr h
section
variable{prog:Program}{w:World}{A:Around}{E:Value->Shared->Prop}{s:Shared}
theorem ZmC{x y:Str}{t u:Tok}{Q:Value->Shared->Prop}(h:Q (.bool (!decide (y.cps.toList<x.cps.toList))) s):wpAny (model prog w) A (compareOp .LtE (.str x t) (.str y u)) Q E s:=PySem.P.le_str h
theorem Zor{s₂ : Shared}{C:Addr}{m:Str->Option Value}{sc:Scope}{env:Env}{n:Str}{pos:Pos}{v:Value}{Q:Value->Shared->Prop}(x:InComp s₂ C m s)(hk:sc.kind=.function)(hl:sc.names.lookup n=some .local)
  (hv:m n=some v) (hd:(n == ("__debug__" : Str))=false) (h:Q v s):wpAny (model prog w) A (eval (.Name n pos) (compEnv sc C env)) Q E s:=PySem.ldK x hk hl hv h hd
theorem Zno{scope:Scope}{C:Addr}{env:Env}{m:Str->Option Value}{x:Str}{c:Nat}{u:Tok}{j j2:Nat}{p1 p2 p3 pos:Pos}(hk:scope.kind=.function)(hx:scope.names.lookup x=some .local)(hd:(x == ("__debug__" : Str))=false)
  (hn:s.heap.Ns C m) (hm:m x=some (.str ⟨#[c]⟩ u)) :
  wpAny (model prog w) A (eval (.Compare (.Constant (.str "a") j p1) [.LtE,.LtE] [.Name x p2,.Constant (.str "z") j2 p3] pos) (compEnv scope C env)) (fun r s'=>r=.bool (azB c)/\Keeps s s') E s:=by
 have I0:=(InComp.start hn).tok (s.toks+1);have ea:("a" : Str).cps.toList=[97]:=by decide +kernel
 have ez:("z" : Str).cps.toList=[122]:=by decide +kernel
 have e1:decide (([c]:List Nat) < [97])=decide (c<97):=ZlN c 97;have e2:decide (([122]:List Nat) < [c])=decide (122<c):=ZlN 122 c;refine Compare_chain (Calls.Constant_str ?_);refine chain_link ?_;refine Zor I0 hk hx hm hd ?_;refine ZmC ?_;rw[ea];show wpAny (model prog w) A (truthy (.bool (!decide (([c]:List Nat) < [97])))) _ _ _;rw[e1];refine wpAny_truthy_bool ?_;by_cases h1:c<97
 ·rw[decide_eq_true h1];refine ite_ff ⟨?_,I0.done⟩;unfold azB;rw[decide_eq_false (by lia : ¬ 97<=c)];rfl
 ·rw[decide_eq_false h1];refine ite_tt ?_;refine chain_last ?_;refine Calls.Constant_str ?_;refine ZmC ?_;rw[ez];refine⟨?_,(I0.tok _).done⟩;show Value.bool (!decide (([122]:List Nat) < [c]))=_;rw[e2];unfold azB;rw[decide_eq_true (by lia:97<=c)];by_cases h2:c<=122
  ·rw[decide_eq_true h2,decide_eq_false (by lia)];rfl
  ·rw[decide_eq_false h2,decide_eq_true (by lia)];rfl
end
theorem Zlt:∀{cs:List Nat}{vs us:List Value},(∀(j:Nat)(v:Value),vs[j]?= some v->∃(c:Nat)(u:Tok),cs[j]?= some c/\v=Value.str ⟨#[c]⟩ u)->vs.length=cs.length->Paired (fun v r=>∃c u,v=Value.str ⟨#[c]⟩ u/\r=Value.bool (azB c)) vs us ->
  Vals (cs.map fun c=>.bl (azB c)) us
 | [],[],_,_,_,.nil=>.nil
 | [],v::vs,_,_,h,_=>by simp at h
 | c::cs,[],_,_,h,_=>by simp at h
 | c::cs,v::vs,_,hP,hl,.cons hr t=>by
  obtain⟨c',u',e1,e2⟩:=hP 0 v rfl;obtain⟨c2,u2,e3,e4⟩:=hr;simp at e1;subst e1;rw[e2] at e3;injection e3 with e5 _;injection e5 with e6;simp at e6;subst e6;refine .cons e4 (Zlt (fun j v hv=>?_) (by simpa using hl) t);obtain⟨c3,u3,f1,f2⟩:=hP (j+1) v (by simpa using hv);exact⟨c3,u3,by simpa using f1,f2⟩
section
variable{X:Cx}{iter:Expr}{te:TE}{scope:Scope}{x:Str}{px p1 p2 p3 p4 pos:Pos}{j j2:Nat}
theorem ZhW(hi:PE X iter te)(hc:X.calm=true)(hfree:∀y∈scope.names,y.2 ≠ .free)(hcell:∀y∈scope.names,y.2 ≠ .cell)(hk:scope.kind=.function)
  (hnames:∀y∈scope.names,y.2=.local->scope.names.lookup y.1=some .local) (hx:scope.names.lookup x=some .local) (hd:(x == ("__debug__" : Str))=false) (hs:∀v,foldedSetIterable iter X.env v=pure v) :
  PE X (.ListComp (.Compare (.Constant (.str "a") j p1) [.LtE,.LtE] [.Name x p2,.Constant (.str "z") j2 p3] p4) [⟨.Name x px,iter,[],0⟩] scope pos)
   (fun σ H Q=>te σ H fun v H1=>∃z,v=.str z/\z.length<=sizeLine/\∀p,H1 p=none->Q (.ref p) (upd H1 p (.lst (z.cps.toList.map fun c=>.bl (azB c))))):=by
 intro pins s σ H Q I h;refine wpAny_ListComp_walk (fun _=>true) (fun v r=>∃c u,v=Value.str ⟨#[c]⟩ u/\r=Value.bool (azB c)) hfree hcell hk hnames hx (thn (hi pins s σ H _ I h) fun v s1 ⟨xv,H1,I1,r1,q1⟩=>?_) hs;obtain⟨z,rfl,hz,q⟩:=q1;obtain⟨t,rfl⟩:=r1;refine wpAny_pyIter_str fun o St W hst=>⟨s1.heap.objs.size,[s1.heap.objs.size],[s1.heap.objs.size],z.cps.size,SignAt z,St,rfl,W X.A (I1.ok.hd hc),hz,hst,fun b hb=>?_,⟨?_,?_⟩,?_⟩
 ·show b<(s1.heap.push o).objs.size;rw[Heap.size_push,List.mem_singleton.mp hb];exact Nat.lt_succ_self _
 ·intro C i v s3 m3 E' hP hn hm _ _;exact wpAny_pure ⟨rfl,(InComp.start hn).done⟩
 ·intro C i v s3 m3 E' hP hp hn hm _ _;obtain⟨c,u,_,e⟩:=hP;subst e;exact wpAny_mono (Zno hk hx hd hn hm) (fun r s4 h4=>⟨⟨c,u,rfl,h4.1⟩,h4.2⟩) fun _ _ e=>e
 ·intro D h' tk ys vs hnew hlD hplD hlen hP hF hkp;have hF':Paired (fun v r=>∃c u,v=Value.str ⟨#[c]⟩ u/\r=Value.bool (azB c)) vs ys.toList:=by
   rw[List.filter_eq_self.mpr (fun _ _=>rfl)] at hF;exact hF
  have hV:=Zlt (cs:=z.cps.toList) (fun j v hv=>by
   obtain⟨c,u,e1,e2⟩:=hP j v hv;exact⟨c,u,by rw[Array.getElem?_toList];exact e1,e2⟩) (by rw[hlen,Array.length_toList]) hF'
  have up:∀b ob,s1.heap.get? b=some ob->h'.get? b=some ob:=fun b ob e=>hkp b ob (fun hm=>by
   rw[List.mem_singleton.mp hm] at e;exact Nat.lt_irrefl _ (Heap.lt_size e)) (Heap.get?_push_of_some _ e)
  have hD:s1.heap.get? D=none:=by
   cases e:s1.heap.get? D with
   | none=>rfl
   | some ob =>
    rw[Heap.get?_push_of_some _ e] at hnew;cases hnew
  obtain⟨nD,eD⟩:=hplD;refine⟨.ref D,_,I1.laidN (a:=D) (o:=.lst (z.cps.toList.map fun c=>.bl (azB c))) (t':=tk) up hD ⟨?_,ys.toList,nD,hV,by rw[Array.toArray_toList];exact eD⟩,rfl,q D (I1.hok.freshN hD)⟩;rw[List.length_map,Array.length_toList];exact hz
end
end L2
namespace L2
open PySem
theorem Znt:bootBuiltins "all" = some (.builtin "all"):=by decide +kernel
end L2
namespace Fg
open PySem L2 FgM
def Zm1(z:Str):Bool:=decide (1<=z.length)&&decide (z.length<=8)&&z.cps.toList.all azB
def Zge:Sp:=fun vs H Q _=>∃z:Str,vs=[.str z]/\z.length<=100000/\∀H',Zk H H'->Q (.bl (Zm1 z)) H'
end Fg
namespace L2
open PySem PySem.Spec PyProof.Rows
section
variable{prog:Program}{w:World}{A:Around}{s:Shared}{R:Result->Shared->Prop}
abbrev no0:Value->Shared->Prop:=fun _ _=>False
theorem Zih{elt target iter:Expr}{scope:Scope}{pos:Pos}{it acc:Value}{env:Env}(I:Nat->Shared->Prop)
  (turn:∀n s,I n s->wpAny (model prog w) A (pyNext it) (fun r s1=>match r with
   | none=>R (.ok .next) s1
   | some v=>wpAny (model prog w) A (letOwnedTupleGo target it v) (fun _ s2=>wpAny (model prog w) A (assign target env v) (fun _ s3=>wpAny (model prog w) A (eval elt env) (fun x s4 =>
     wpAny (model prog w) A (call (.builtin "list.append") [acc,x]) (fun _ s5=>∃m,m<n/\I m s5) no0 s4) no0 s3) no0 s2) no0 s1) no0 s)
  (n:Nat) (h:I n s):codeAny (model prog w) A (.compLoop (.ListComp elt [⟨target,iter,[],0⟩] scope pos) 0 it acc env) R s:=by
 refine codeAny_loop rfl I (fun n s hI=>?_) n h;show wpAny _ _ ((compTurn (.ListComp elt [⟨target,iter,[],0⟩] scope pos) 0 it acc env).onRaise (fun x=>do noteFrame x env;theTreesLotGoes x)) _ _ s;refine wpAny_noted ?_;rw[compTurn_list1];refine wpAny_bind (wpAny_standAt (wpAny_bind (wpAny_mono (turn n s hI) (fun r s1 h1=>?_) fun _ _ h'=>h'.elim)));cases r with
 | none=>exact wpAny_pure h1
 | some v =>
  refine wpAny_bind (wpAny_mono h1 (fun _ s2 h2=>?_) fun _ _ h'=>h'.elim);refine wpAny_bind (wpAny_mono h2 (fun _ s3 h3=>?_) fun _ _ h'=>h'.elim);refine wpAny_bind (wpAny_bind (wpAny_mono h3 (fun x s4 h4=>?_) fun _ _ h'=>h'.elim));exact wpAny_bind (wpAny_mono h4 (fun _ s5 h5=>wpAny_pure (wpAny_pure ⟨rfl,h5⟩)) fun _ _ h'=>h'.elim)
end
def ZaR(X:Cx)(N:List Str)(scope:Scope)(cl:List (Str×Addr))(C:Addr)(fp:List Addr)(s:Shared)(H:Hp):Cx where
 prog:=X.prog
 w:=X.w
 K:=X.K
 mg:=X.mg
 base:=X.base
 A:=X.A
 N:=N
 s₀ := s
 H₀ := H
 env:=compEnvC scope cl C X.env
 outer:=X.stack
 stack:=X.stack
 ex:=fp
 fn:=fun _=>false
 calm:=X.calm
 pn:=[]
 xe:=no0
section
variable{X:Cx}{pins:List (Addr×Obj)}{σ : St}{H:Hp}{s:Shared}
theorem ZjZ{N:List Str}{scope:Scope}{cl:List (Str×Addr)}{C:Addr}{fp:List Addr}(I:Inv X pins σ H s)(hk:scope.kind=.function)(hC:s.heap.objs.size<=C)(hcl:∀x c,cl.lookup x=some c->X.env.cells.lookup x=some c)
  (hhas:∀x,((compEnvC scope cl C X.env).kindOf x=some .cell\/(compEnvC scope cl C X.env).kindOf x=some .free)->∃c,cl.lookup x=some c)
  (hf:∀b∈fp,ZcQ X pins H b) (hlt:∀b∈fp,b<s.heap.objs.size):(ZaR X N scope cl C fp s H).Ok where
 mod:=I.ok.mod
 kind:=hk
 glob:=I.ok.glob
 blt:=I.ok.blt
 above:=hC
 inj:=fun x y c e1 e2=>I.ok.inj x y c (hcl x c e1) (hcl y c e2)
 has:=hhas
 cab:=fun x c e=>by cases e
 hd:=I.ok.hd
 frames:=I.ok.frames
 stk:=.inl rfl
 exf:=fun b hb=>⟨fun z=>absurd (Nat.lt_of_lt_of_le (hlt b hb) hC) (by rw[show b=C from z];exact Nat.lt_irrefl _),fun x c e=>(hf b hb).2.2.2.2.1 x c (hcl x c e)⟩
 bs:=fun b o e=>⟨(I.bs b o e).1,(I.bs b o e).2⟩
 bsz:=Nat.le_trans I.ok.bsz I.sz
 noex:=fun b o e hb=>by
  rcases(hf b hb).2.2.2.1 with z|z
  ·exact I.ok.noex b o e z
  ·exact absurd (Nat.lt_of_lt_of_le (Heap.lt_size e) (Nat.le_trans I.ok.bsz z)) (Nat.lt_irrefl _)
 exfs:=fun b hb hm=>by
  rcases List.mem_cons.mp (I.stkSub b hm) with z|z
  ·exact(hf b hb).2.1 z
  ·exact(hf b hb).2.2.1 z
 funs:=I.stack
 frf:=I.stkFree
def capσ(σ : St)(k:Nat)(cap:List (Str×Nat)):St:=List.replicate k none++cap.map fun p=>(σ[p.2]?).getD none
theorem Zdq{scope:Scope}{cl:List (Str×Addr)}{fp:List Addr}{tn:List Str}{cap:List (Str×Nat)}{h1:Heap}(I:Inv X pins σ H s)(hk:scope.kind=.function)(hcl:∀x c,cl.lookup x=some c->X.env.cells.lookup x=some c)
  (hhas:∀x,((compEnvC scope cl s.heap.objs.size X.env).kindOf x=some .cell\/(compEnvC scope cl s.heap.objs.size X.env).kindOf x=some .free)->∃c,cl.lookup x=some c)
  (hf:∀b∈fp,ZcQ X pins H b) (hlt:∀b∈fp,b<s.heap.objs.size)
  (hcap:∀p∈cap,X.N[p.2]?= some p.1/\X.env.scope.names.lookup p.1=some .cell/\((compEnvC scope cl s.heap.objs.size X.env).kindOf p.1=some .cell\/(compEnvC scope cl s.heap.objs.size X.env).kindOf p.1=some .free))
  (hns:h1.Ns s.heap.objs.size (fun _=>none)) (hkp:∀b o,s.heap.get? b=some o->h1.get? b=some o) :
  Inv (ZaR X (tn++cap.map (·.1)) scope cl s.heap.objs.size fp s H) [] (capσ σ tn.length cap) H { s with heap:=h1 } where
 ok:=ZjZ I hk (Nat.le_refl _) hcl hhas hf hlt
 os:=rfl
 bare:=I.bare
 base:=Un.kept hkp
 loc:=by
  refine⟨fun _=>none,hns,fun i x v e1 e2 hv=>?_⟩;unfold capσ at e2;by_cases hi:i<tn.length
  ·rw[List.getElem?_append_left (by rw[List.length_replicate];exact hi),List.getElem?_replicate,if_pos hi] at e2;cases e2
  ·have hN:(cap.map (·.1))[i-tn.length]?= some x:=by
    have:(tn++cap.map (·.1))[i]?= some x:=e1;rw[List.getElem?_append_right (by lia)] at this;exact this
   rw[List.getElem?_append_right (by rw[List.length_replicate];lia),List.length_replicate,List.getElem?_map] at e2;rw[List.getElem?_map] at hN;cases hp:cap[i-tn.length]? with
   | none=>rw[hp] at hN;cases hN
   | some p =>
    rw[hp] at hN e2;have hx:p.1=x:=Option.some.inj hN;have he:(σ[p.2]?).getD none=some v:=Option.some.inj e2;obtain⟨c1,c2,c3⟩:=hcap p (List.mem_of_getElem? hp);subst hx;have hs : σ[p.2]?= some (some v):=by
     cases q : σ[p.2]? with
     | none=>rw[q] at he;cases he
     | some z=>rw[q] at he;rw[show z=some v from he]
    obtain⟨m,hn,hl⟩:=I.loc;obtain⟨u,r,l⟩:=hl p.2 p.1 v c1 hs (.inr (.inl c2));refine⟨u,r,.inr ⟨c3,?_⟩⟩;obtain⟨c,hc⟩:=hhas p.1 c3;refine⟨c,hc,?_⟩;rcases l with⟨l1,_⟩|⟨_,c',l2,o,ho,hd⟩
    ·have:X.env.kindOf p.1=some .cell:=c2;rw[this] at l1;cases l1
    ·have:c=c':=Option.some.inj ((hcl p.1 c hc).symm.trans l2);subst this;exact⟨o,hkp _ _ ho,hd⟩
 cell:=fun x c e=>by
  obtain⟨v,o,ho,hd⟩:=I.cell x c (hcl x c e);exact⟨v,o,hkp _ _ ho,hd⟩
 free:=I.hok.fresh (Nat.le_refl _)
 freeC:=fun x c e=>I.freeC x c (hcl x c e)
 pin:=fun p hp=>by cases hp
 hok:=I.hok.kept hkp
 len:=by
  unfold capσ;show _=(tn++cap.map (·.1)).length;rw[List.length_append,List.length_append,List.length_replicate,List.length_map,List.length_map]
end
def ZnI(wi:TI)(k:Nat)(cap:List (Str×Nat))(g:TG)(te:TE):TE:=fun σ H Q=>wi σ H fun J H1=>∀p,H1 p=none->∃W:Nat->Nat->List V->St->Hp->Prop,(∃m,W 0 m [] (capσ σ k cap) (upd H1 p (.lst []))) /\
 ∀i m ys σc H2,W i m ys σc H2->H2 p=some (.lst ys)/\((J.stop i H2/\Q (.ref p) H2)\/(J.go i H2/\∀x H3,J.yld i H2 x H3->g x σc H3 fun σ3 H4=>te σ3 H4 fun v H5 =>
  H5 p=some (.lst ys)/\ys.length<sizeLine/\∃m',m'<m/\W (i+1) m' (ys ++ [v]) σ3 (upd H5 p (.lst (ys ++ [v])))))
section
variable{X:Cx}{elt iter tg:Expr}{scope:Scope}{pos:Pos}{wi:TI}{g:TG}{te:TE}{cl:List (Str×Addr)}
theorem ZeO{pins:List (Addr×Obj)}{σ : St}{H2:Hp}{s2:Shared}{it:Addr}{fp:List Addr}{tnn:Nat->Heap->Prop}{J:It}{R:Addr->Hp->Prop}{use:Option (Value->Sem Unit)}{Qp:Value->Shared->Prop}(tn:List Str)(cap:List (Str×Nat))(hg:∀C fp s H,PG (ZaR X (tn++cap.map (·.1)) scope cl C fp s H) tg g)(he:∀C fp s H,PE (ZaR X (tn++cap.map (·.1)) scope cl C fp s H) elt te)(hc:X.calm=true)(hcell:∀y∈scope.names,y.2 ≠ .cell)(hk:scope.kind=.function)(hcl:∀x c,cl.lookup x=some c->X.env.cells.lookup x=some c)(hhas:∀C x,((compEnvC scope cl C X.env).kindOf x=some .cell\/(compEnvC scope cl C X.env).kindOf x=some .free)->∃c,cl.lookup x=some c)(hcap:∀C,∀p∈cap,X.N[p.2]?= some p.1/\X.env.scope.names.lookup p.1=some .cell/\((compEnvC scope cl C X.env).kindOf p.1=some .cell\/(compEnvC scope cl C X.env).kindOf p.1=some .free))
  (I2:Inv X pins σ H2 s2) (T:Turn X.prog X.w X.K tg J fp it tnn) (st2:tnn 0 s2.heap) (f2:∀b∈fp,ZcQ X pins H2 b) (q2:∀p,H2 p=none->∃W:Nat->Nat->List V->St->Hp->Prop,(∃m,W 0 m [] (capσ σ tn.length cap) (upd H2 p (.lst []))) /\
 ∀i m ys σc H2,W i m ys σc H2->H2 p=some (.lst ys)/\((J.stop i H2/\R p H2)\/(J.go i H2/\∀x H3,J.yld i H2 x H3->g x σc H3 fun σ3 H4=>te σ3 H4 fun v H5=>H5 p=some (.lst ys)/\ys.length<sizeLine/\∃m',m'<m/\W (i+1) m' (ys ++ [v]) σ3 (upd H5 p (.lst (ys ++ [v]))))))
  (hfin:∀(s3:Shared)(H3:Hp),Inv X pins σ H3 s3->(∀b∈fp,ZcQ X pins H3 b)->∀(acc:Addr)(σ6:St)(H6:Hp)(s6:Shared),Inv (ZaR X (tn++cap.map (·.1)) scope cl s3.heap.objs.size fp s3 H3) [] σ6 H6 s6->R acc H6->compPost (model X.prog X.w) X.A X.xe use Qp (.ref acc) s3.heap.objs.size (.ok .next) s6) :
  wpAny (model X.prog X.w) X.A (newList []) (fun acc s₃=>wpAny (model X.prog X.w) X.A (newFunctionEnv scope X.env.globals cl [] X.env.qual none Value.none (some X.env)) (fun cenv s₄=>codeAny (model X.prog X.w) X.A (Code.compStart (.ListComp elt [⟨tg,iter,[],0⟩] scope pos) 0 (Value.ref it) acc { cenv with scope:=relabel scope X.env }) (compPost (model X.prog X.w) X.A X.xe use Qp acc cenv.locals) s₄) X.xe s₃) X.xe s2:=by
 have fresh:H2 s2.heap.objs.size=none:=I2.fresh;obtain⟨W,⟨m0,w0⟩,turn⟩:=q2 s2.heap.objs.size fresh;have lt2:∀b∈fp,b<s2.heap.objs.size:=fun b hb=>by
  obtain⟨o,ho,_⟩:=T.obj _ _ st2 b hb;exact Heap.lt_size ho
 have I3:Inv X pins σ (upd H2 s2.heap.objs.size (.lst [])) { s2 with heap:=s2.heap.push { cls:=.type "list",data:=.seq ([]:List Value).toArray } }:=I2.lnew (its:=[]) (t':=s2.toks) .nil (Nat.zero_le _);refine wpAny_newObj_type (wpAny_newFunctionEnv hcell (by intro y hy;simp at hy) (fun h1 hns1 hsb1=>?_) hk);dsimp only at hns1 hsb1 ⊢;generalize hS3:({ s2 with heap:=s2.heap.push { cls:=.type "list",dict:=none,data:=.seq ([]:List Value).toArray } }:Shared)=s3 at I3;have hh3:s2.heap.push { cls:=.type "list",dict:=none,data:=.seq ([]:List Value).toArray }=s3.heap:=by rw[<- hS3]
 rw[hh3] at hns1 hsb1 ⊢;have sz3:s3.heap.objs.size=s2.heap.objs.size+1:=by rw[<- hh3,Heap.size_push]
 have lt3:∀b∈fp,b<s3.heap.objs.size:=fun b hb=>Nat.lt_of_lt_of_le (lt2 b hb) (by rw[sz3];exact Nat.le_succ _);have f3:∀b∈fp,ZcQ X pins (upd H2 s2.heap.objs.size (.lst [])) b:=fun b hb=>⟨by rw[Zu (Nat.ne_of_lt (lt2 b hb))];exact(f2 b hb).1,(f2 b hb).2⟩;have keep3:∀b o,s3.heap.get? b=some o->h1.get? b=some o:=fun b o q=>hsb1.extBut b o (Nat.ne_of_lt (Heap.lt_size q)) (Heap.get?_push_of_some _ q);have st3:tnn 0 h1:=T.keep _ _ _ st2 fun b hb o q=>keep3 b o (by rw[<- hh3];exact Heap.get?_push_of_some _ q);have I4:=(Zdq (tn:=tn) I3 hk hcl (hhas _) f3 lt3 (hcap _) hns1 keep3).tok (s2.toks+([]:List (Str×Value)).length);have loop:codeAny (model X.prog X.w) X.A (.compLoop (.ListComp elt [⟨tg,iter,[],0⟩] scope pos) 0 (.ref it) (.ref s2.heap.objs.size) (compEnvC scope cl s3.heap.objs.size X.env))
   (compPost (model X.prog X.w) X.A X.xe use Qp (.ref s2.heap.objs.size) s3.heap.objs.size) { s3 with heap:=h1,toks:=s2.toks+([]:List (Str×Value)).length }:=by
  refine Zih (fun n s'=>∃i ys σ' H',Inv (ZaR X (tn++cap.map (·.1)) scope cl s3.heap.objs.size fp s3 (upd H2 s2.heap.objs.size (.lst []))) [] σ' H' s'/\tnn i s'.heap/\(∀b∈fp,H' b=none)/\W i n ys σ' H') ?_ m0
   ⟨0,[],_,_,I4,st3,fun b hb=>(f3 b hb).1,w0⟩
  rintro n s5 ⟨i,ys,σ5,H5,I5,st5,fr5,w5⟩;obtain⟨hD,alt⟩:=turn i n ys σ5 H5 w5;have stat:∀{H':Hp},(∀b∈fp,H' b=none)->∀b∈fp,ZcQ (ZaR X (tn++cap.map (·.1)) scope cl s3.heap.objs.size fp s3 (upd H2 s2.heap.objs.size (.lst []))) [] H' b :=
   fun hn b hb=>⟨hn b hb,(I4.ok.exf b hb).1,I4.ok.exfs b hb,.inl hb,(I4.ok.exf b hb).2,fun p hp=>by cases hp⟩
  rcases alt with⟨stop,qn⟩|⟨go,step⟩
  ·refine thn (T.done (ZaR X (tn++cap.map (·.1)) scope cl s3.heap.objs.size fp s3 (upd H2 s2.heap.objs.size (.lst []))) rfl rfl rfl hc i [] s5 σ5 H5 no0 I5 (stat fr5) st5 stop) fun r s6 ⟨hr,I6⟩=>?_;subst hr;exact hfin s3 _ I3 f3 _ σ5 H5 s6 I6 qn
  ·refine thn (T.item (ZaR X (tn++cap.map (·.1)) scope cl s3.heap.objs.size fp s3 (upd H2 s2.heap.objs.size (.lst []))) rfl rfl rfl hc i [] s5 σ5 H5 no0 I5 (stat fr5) st5 go) fun r s6 ⟨u,hr,h6⟩=>?_;subst hr;refine thn h6 fun _ s7 ⟨x,H7,I7,r7,y7,st7,fr7⟩=>?_;have I7':=I7.pinned (stat fr7) (T.obj _ _ st7);refine thn (hg _ _ _ _ _ s7 σ5 H7 x u _ I7' r7 (step x H7 y7)) fun _ s8 ⟨σ8,H8,I8,q8⟩=>?_;refine thn (he _ _ _ _ _ s8 σ8 H8 _ I8 q8) fun xv s9 ⟨v9,H9,I9,r9,q9⟩=>?_;obtain⟨hD9,hl9,m',hm',w9⟩:=q9;refine thn (ZaM _ s9 σ8 H9 (.ref s2.heap.objs.size) [v9] (.ref s2.heap.objs.size) [xv] (fun z H'=>z=.non/\H'=upd H9 s2.heap.objs.size (.lst (ys ++ [v9]))) I9 rfl (.cons r9 .nil)
    ⟨s2.heap.objs.size,ys,v9,rfl,rfl,hD9,hl9,rfl,rfl⟩) fun z s10 ⟨zv,H10,I10,_,_,eH⟩=>?_
   subst eH;refine⟨m',hm',i+1,ys ++ [v9],σ8,_,I10.unpinned,T.keep _ _ _ st7 fun b hb o q=>(I10.pin (b,o) (List.mem_append_right _ (List.mem_append_right _ (Zbc hb q)))).1,fun b hb=>?_,w9⟩;obtain⟨o,q,d⟩:=T.obj _ _ st7 b hb;exact(I10.pin (b,o) (List.mem_append_right _ (List.mem_append_right _ (Zbc hb q)))).2.1
 subst hS3;exact codeAny_compStart_list loop (T.self X.A 0 _ _ _ st3 loop)
theorem ZcP(tn:List Str)(cap:List (Str×Nat))(hi:PI X tg iter wi)(hg:∀C fp s H,PG (ZaR X (tn++cap.map (·.1)) scope cl C fp s H) tg g)(he:∀C fp s H,PE (ZaR X (tn++cap.map (·.1)) scope cl C fp s H) elt te)
  (hc:X.calm=true) (hclos:closureFor scope X.env=pure cl) (hcell:∀y∈scope.names,y.2 ≠ .cell) (hk:scope.kind=.function) (hnames:∀y∈scope.names,y.2=.local->scope.names.lookup y.1=some .local)
  (hcl:∀x c,cl.lookup x=some c->X.env.cells.lookup x=some c)
  (hhas:∀C x,((compEnvC scope cl C X.env).kindOf x=some .cell\/(compEnvC scope cl C X.env).kindOf x=some .free)->∃c,cl.lookup x=some c)
  (hcap:∀C,∀p∈cap,X.N[p.2]?= some p.1/\X.env.scope.names.lookup p.1=some .cell/\((compEnvC scope cl C X.env).kindOf p.1=some .cell\/(compEnvC scope cl C X.env).kindOf p.1=some .free))
  (hs:∀v,foldedSetIterable iter X.env v=pure v):PE X (.ListComp elt [⟨tg,iter,[],0⟩] scope pos) (ZnI wi tn.length cap g te):=by
 intro pins s σ H Q I h;rw[eval_ListComp];refine wpAny_comprehension_free (use:=none) rfl hs hclos hk hnames (thn (hi pins s σ H _ I h) fun v s1 h1=>thn h1 fun itv s2 h2=>?_);obtain⟨it,fp,tnn,J,H2,e,I2,T,st2,f2,q2⟩:=h2;subst e;refine ZeO (R:=fun p H6=>Q (.ref p) H6) tn cap hg he hc hcell hk hcl hhas hcap I2 T st2 f2 q2 fun s3 H3 I3 f3 acc σ6 H6 s6 I6 q6=>?_;obtain⟨m,hn,_⟩:=I6.loc;refine⟨m,hn,fun h' sb=>?_⟩;have nC:∀b o,s3.heap.get? b=some o->b≠s3.heap.objs.size:=fun b o q=>Nat.ne_of_lt (Heap.lt_size q);have u:Un (frs X.stack) fp H3 H6 s3.heap h':=by
  have u0:=I6.base;refine⟨fun b o q n hb hx=>(sb.2 b (nC b o q)).trans (u0.keep b o q n hb hx),fun b o q n hb hx=>?_,u0.free,fun b o q hx=>?_,u0.tups,u0.frzs,u0.tbls⟩
  ·obtain⟨sl,e⟩:=u0.slot b o q n hb hx;exact⟨sl,(sb.2 b (nC b o q)).trans e⟩
  ·obtain⟨o',e⟩:=u0.there b o q hx;exact⟨o',(sb.2 b (nC b o q)).trans e⟩
 have free6:H6 s3.heap.objs.size=none:=I6.free;have ok6:HOk X.prog X.w H6 h':=fun b o q=>(I6.hok b o q).stay (fun c v hcv r=>(sb.2 c (by
  rcases hcv with z|z
  ·rw[z];exact ZK q free6
  ·exact ZK z free6)).trans r) (fun _ q=>q) fun _ _ q=>q
 have I':=I3.call (g':=s6.gens) (d':=s6.drawn) (t':=s6.toks) (ch:=fp) u ok6 I6.bare fun b hb=>⟨(f3 b hb).2.2.2.1,(f3 b hb).2.1,(f3 b hb).2.2.2.2.1,(f3 b hb).2.2.2.2.2⟩;have e:({ s6 with heap:=h' }:Shared)= { s3 with heap:=h',gens:=s6.gens,drawn:=s6.drawn,toks:=s6.toks }:=by
  have ho:s6.os=s3.os:=I6.os;obtain⟨a1,a2,a3,a4,a5⟩:=s6;obtain⟨b1,b2,b3,b4,b5⟩:=s3;simp only at ho;subst ho;rfl
 rw[e];exact⟨.ref _,H6,I',rfl,q6⟩
end
section
variable{prog:Program}{w:World}{A:Around}{s:Shared}{R:Result->Shared->Prop}
theorem Zh2{elt ct target iter:Expr}{scope:Scope}{pos:Pos}{it acc:Value}{env:Env}(I:Nat->Shared->Prop)
  (turn:∀n s,I n s->wpAny (model prog w) A (pyNext it) (fun r s1=>match r with
   | none=>R (.ok .next) s1
   | some v=>wpAny (model prog w) A (letOwnedTupleGo target it v) (fun _ s2=>wpAny (model prog w) A (assign target env v) (fun _ s3=>wpAny (model prog w) A (isTrue ct env (eval ct env)) (fun ok s3' =>
     if ok=true then wpAny (model prog w) A (eval elt env) (fun x s4 =>
     wpAny (model prog w) A (call (.builtin "list.append") [acc,x]) (fun _ s5=>∃m,m<n/\I m s5) no0 s4) no0 s3' else ∃m,m<n/\I m s3') no0 s3) no0 s2) no0 s1) no0 s)
  (n:Nat) (h:I n s):codeAny (model prog w) A (.compLoop (.ListComp elt [⟨target,iter,[ct],0⟩] scope pos) 0 it acc env) R s:=by
 refine codeAny_loop rfl I (fun n s hI=>?_) n h;show wpAny _ _ ((compTurn (.ListComp elt [⟨target,iter,[ct],0⟩] scope pos) 0 it acc env).onRaise (fun x=>do noteFrame x env;theTreesLotGoes x)) _ _ s;refine wpAny_noted ?_;rw[compTurn_list];refine wpAny_bind (wpAny_standAt (wpAny_bind (wpAny_mono (turn n s hI) (fun r s1 h1=>?_) fun _ _ h'=>h'.elim)));cases r with
 | none=>exact wpAny_pure h1
 | some v =>
  refine wpAny_bind (wpAny_mono h1 (fun _ s2 h2=>?_) fun _ _ h'=>h'.elim);refine wpAny_bind (wpAny_mono h2 (fun _ s3 h3=>?_) fun _ _ h'=>h'.elim);refine wpAny_bind (wpAny_tests_one (wpAny_mono h3 (fun ok s3' h3'=>?_) fun _ _ h'=>h'.elim));cases ok with
  | true =>
   simp only[if_true] at h3' ⊢;refine wpAny_bind (wpAny_bind (wpAny_mono h3' (fun x s4 h4=>?_) fun _ _ h'=>h'.elim));exact wpAny_bind (wpAny_mono h4 (fun _ s5 h5=>wpAny_pure (wpAny_pure ⟨rfl,h5⟩)) fun _ _ h'=>h'.elim)
  | false =>
   simp only[Bool.false_eq_true,if_false] at h3' ⊢;exact wpAny_pure ⟨rfl,h3'⟩
end
def ZnQ(wi:TI)(k:Nat)(cap:List (Str×Nat))(g:TG)(tt:TT)(te:TE):TE:=fun σ H Q=>wi σ H fun J H1=>∀p,H1 p=none->∃W:Nat->Nat->List V->St->Hp->Prop,(∃m,W 0 m [] (capσ σ k cap) (upd H1 p (.lst []))) /\
 ∀i m ys σc H2,W i m ys σc H2->H2 p=some (.lst ys)/\((J.stop i H2/\Q (.ref p) H2)\/(J.go i H2/\∀x H3,J.yld i H2 x H3->g x σc H3 fun σ3 H4=>tt σ3 H4 fun b H4'=>if b=true then te σ3 H4' fun v H5 =>
  H5 p=some (.lst ys)/\ys.length<sizeLine/\∃m',m'<m/\W (i+1) m' (ys ++ [v]) σ3 (upd H5 p (.lst (ys ++ [v])))
  else ∃m',m'<m/\W (i+1) m' ys σ3 H4'))
section
variable{X:Cx}{elt ct iter tg:Expr}{scope:Scope}{pos:Pos}{wi:TI}{g:TG}{tt:TT}{te:TE}{cl:List (Str×Addr)}
theorem ZhR{pins:List (Addr×Obj)}{σ : St}{H2:Hp}{s2:Shared}{it:Addr}{fp:List Addr}{tnn:Nat->Heap->Prop}{J:It}{R:Addr->Hp->Prop}{use:Option (Value->Sem Unit)}{Qp:Value->Shared->Prop}(tn:List Str)(cap:List (Str×Nat))(hg:∀C fp s H,PG (ZaR X (tn++cap.map (·.1)) scope cl C fp s H) tg g)(ht:∀C fp s H,PT (ZaR X (tn++cap.map (·.1)) scope cl C fp s H) ct tt)(he:∀C fp s H,PE (ZaR X (tn++cap.map (·.1)) scope cl C fp s H) elt te)(hc:X.calm=true)(hcell:∀y∈scope.names,y.2 ≠ .cell)(hk:scope.kind=.function)(hcl:∀x c,cl.lookup x=some c->X.env.cells.lookup x=some c)(hhas:∀C x,((compEnvC scope cl C X.env).kindOf x=some .cell\/(compEnvC scope cl C X.env).kindOf x=some .free)->∃c,cl.lookup x=some c)(hcap:∀C,∀p∈cap,X.N[p.2]?= some p.1/\X.env.scope.names.lookup p.1=some .cell/\((compEnvC scope cl C X.env).kindOf p.1=some .cell\/(compEnvC scope cl C X.env).kindOf p.1=some .free))
  (I2:Inv X pins σ H2 s2) (T:Turn X.prog X.w X.K tg J fp it tnn) (st2:tnn 0 s2.heap) (f2:∀b∈fp,ZcQ X pins H2 b) (q2:∀p,H2 p=none->∃W:Nat->Nat->List V->St->Hp->Prop,(∃m,W 0 m [] (capσ σ tn.length cap) (upd H2 p (.lst []))) /\
 ∀i m ys σc H2,W i m ys σc H2->H2 p=some (.lst ys)/\((J.stop i H2/\R p H2)\/(J.go i H2/\∀x H3,J.yld i H2 x H3->g x σc H3 fun σ3 H4=>tt σ3 H4 fun b H4'=>if b=true then te σ3 H4' fun v H5=>H5 p=some (.lst ys)/\ys.length<sizeLine/\∃m',m'<m/\W (i+1) m' (ys ++ [v]) σ3 (upd H5 p (.lst (ys ++ [v]))) else ∃m',m'<m/\W (i+1) m' ys σ3 H4')))
  (hfin:∀(s3:Shared)(H3:Hp),Inv X pins σ H3 s3->(∀b∈fp,ZcQ X pins H3 b)->∀(acc:Addr)(σ6:St)(H6:Hp)(s6:Shared),Inv (ZaR X (tn++cap.map (·.1)) scope cl s3.heap.objs.size fp s3 H3) [] σ6 H6 s6->R acc H6->compPost (model X.prog X.w) X.A X.xe use Qp (.ref acc) s3.heap.objs.size (.ok .next) s6) :
  wpAny (model X.prog X.w) X.A (newList []) (fun acc s₃=>wpAny (model X.prog X.w) X.A (newFunctionEnv scope X.env.globals cl [] X.env.qual none Value.none (some X.env)) (fun cenv s₄=>codeAny (model X.prog X.w) X.A (Code.compStart (.ListComp elt [⟨tg,iter,[ct],0⟩] scope pos) 0 (Value.ref it) acc { cenv with scope:=relabel scope X.env }) (compPost (model X.prog X.w) X.A X.xe use Qp acc cenv.locals) s₄) X.xe s₃) X.xe s2:=by
 have fresh:H2 s2.heap.objs.size=none:=I2.fresh;obtain⟨W,⟨m0,w0⟩,turn⟩:=q2 s2.heap.objs.size fresh;have lt2:∀b∈fp,b<s2.heap.objs.size:=fun b hb=>by
  obtain⟨o,ho,_⟩:=T.obj _ _ st2 b hb;exact Heap.lt_size ho
 have I3:Inv X pins σ (upd H2 s2.heap.objs.size (.lst [])) { s2 with heap:=s2.heap.push { cls:=.type "list",data:=.seq ([]:List Value).toArray } }:=I2.lnew (its:=[]) (t':=s2.toks) .nil (Nat.zero_le _);refine wpAny_newObj_type (wpAny_newFunctionEnv hcell (by intro y hy;simp at hy) (fun h1 hns1 hsb1=>?_) hk);dsimp only at hns1 hsb1 ⊢;generalize hS3:({ s2 with heap:=s2.heap.push { cls:=.type "list",dict:=none,data:=.seq ([]:List Value).toArray } }:Shared)=s3 at I3;have hh3:s2.heap.push { cls:=.type "list",dict:=none,data:=.seq ([]:List Value).toArray }=s3.heap:=by rw[<- hS3]
 rw[hh3] at hns1 hsb1 ⊢;have sz3:s3.heap.objs.size=s2.heap.objs.size+1:=by rw[<- hh3,Heap.size_push]
 have lt3:∀b∈fp,b<s3.heap.objs.size:=fun b hb=>Nat.lt_of_lt_of_le (lt2 b hb) (by rw[sz3];exact Nat.le_succ _);have f3:∀b∈fp,ZcQ X pins (upd H2 s2.heap.objs.size (.lst [])) b:=fun b hb=>⟨by rw[Zu (Nat.ne_of_lt (lt2 b hb))];exact(f2 b hb).1,(f2 b hb).2⟩;have keep3:∀b o,s3.heap.get? b=some o->h1.get? b=some o:=fun b o q=>hsb1.extBut b o (Nat.ne_of_lt (Heap.lt_size q)) (Heap.get?_push_of_some _ q);have st3:tnn 0 h1:=T.keep _ _ _ st2 fun b hb o q=>keep3 b o (by rw[<- hh3];exact Heap.get?_push_of_some _ q);have I4:=(Zdq (tn:=tn) I3 hk hcl (hhas _) f3 lt3 (hcap _) hns1 keep3).tok (s2.toks+([]:List (Str×Value)).length);have loop:codeAny (model X.prog X.w) X.A (.compLoop (.ListComp elt [⟨tg,iter,[ct],0⟩] scope pos) 0 (.ref it) (.ref s2.heap.objs.size) (compEnvC scope cl s3.heap.objs.size X.env))
   (compPost (model X.prog X.w) X.A X.xe use Qp (.ref s2.heap.objs.size) s3.heap.objs.size) { s3 with heap:=h1,toks:=s2.toks+([]:List (Str×Value)).length }:=by
  refine Zh2 (fun n s'=>∃i ys σ' H',Inv (ZaR X (tn++cap.map (·.1)) scope cl s3.heap.objs.size fp s3 (upd H2 s2.heap.objs.size (.lst []))) [] σ' H' s'/\tnn i s'.heap/\(∀b∈fp,H' b=none)/\W i n ys σ' H') ?_ m0
   ⟨0,[],_,_,I4,st3,fun b hb=>(f3 b hb).1,w0⟩
  rintro n s5 ⟨i,ys,σ5,H5,I5,st5,fr5,w5⟩;obtain⟨hD,alt⟩:=turn i n ys σ5 H5 w5;have stat:∀{H':Hp},(∀b∈fp,H' b=none)->∀b∈fp,ZcQ (ZaR X (tn++cap.map (·.1)) scope cl s3.heap.objs.size fp s3 (upd H2 s2.heap.objs.size (.lst []))) [] H' b :=
   fun hn b hb=>⟨hn b hb,(I4.ok.exf b hb).1,I4.ok.exfs b hb,.inl hb,(I4.ok.exf b hb).2,fun p hp=>by cases hp⟩
  rcases alt with⟨stop,qn⟩|⟨go,step⟩
  ·refine thn (T.done (ZaR X (tn++cap.map (·.1)) scope cl s3.heap.objs.size fp s3 (upd H2 s2.heap.objs.size (.lst []))) rfl rfl rfl hc i [] s5 σ5 H5 no0 I5 (stat fr5) st5 stop) fun r s6 ⟨hr,I6⟩=>?_;subst hr;exact hfin s3 _ I3 f3 _ σ5 H5 s6 I6 qn
  ·refine thn (T.item (ZaR X (tn++cap.map (·.1)) scope cl s3.heap.objs.size fp s3 (upd H2 s2.heap.objs.size (.lst []))) rfl rfl rfl hc i [] s5 σ5 H5 no0 I5 (stat fr5) st5 go) fun r s6 ⟨u,hr,h6⟩=>?_;subst hr;refine thn h6 fun _ s7 ⟨x,H7,I7,r7,y7,st7,fr7⟩=>?_;have I7':=I7.pinned (stat fr7) (T.obj _ _ st7);refine thn (hg _ _ _ _ _ s7 σ5 H7 x u _ I7' r7 (step x H7 y7)) fun _ s8 ⟨σ8,H8,I8,q8⟩=>?_;refine thn (ht _ _ _ _ _ s8 σ8 H8 _ I8 q8) fun ok s8' ⟨H8',I8',q8'⟩=>?_;cases ok with
   | true =>
    simp only[if_true] at q8' ⊢;refine thn (he _ _ _ _ _ s8' σ8 H8' _ I8' q8') fun xv s9 ⟨v9,H9,I9,r9,q9⟩=>?_;obtain⟨hD9,hl9,m',hm',w9⟩:=q9;refine thn (ZaM _ s9 σ8 H9 (.ref s2.heap.objs.size) [v9] (.ref s2.heap.objs.size) [xv] (fun z H'=>z=.non/\H'=upd H9 s2.heap.objs.size (.lst (ys ++ [v9]))) I9 rfl (.cons r9 .nil)
     ⟨s2.heap.objs.size,ys,v9,rfl,rfl,hD9,hl9,rfl,rfl⟩) fun z s10 ⟨zv,H10,I10,_,_,eH⟩=>?_
    subst eH;refine⟨m',hm',i+1,ys ++ [v9],σ8,_,I10.unpinned,T.keep _ _ _ st7 fun b hb o q=>(I10.pin (b,o) (List.mem_append_right _ (List.mem_append_right _ (Zbc hb q)))).1,fun b hb=>?_,w9⟩;obtain⟨o,q,d⟩:=T.obj _ _ st7 b hb;exact(I10.pin (b,o) (List.mem_append_right _ (List.mem_append_right _ (Zbc hb q)))).2.1
   | false =>
    simp only[Bool.false_eq_true,if_false] at q8' ⊢;obtain⟨m',hm',w9⟩:=q8';refine⟨m',hm',i+1,ys,σ8,_,I8'.unpinned,T.keep _ _ _ st7 fun b hb o q=>(I8'.pin (b,o) (List.mem_append_right _ (List.mem_append_right _ (Zbc hb q)))).1,fun b hb=>?_,w9⟩;obtain⟨o,q,d⟩:=T.obj _ _ st7 b hb;exact(I8'.pin (b,o) (List.mem_append_right _ (List.mem_append_right _ (Zbc hb q)))).2.1
 subst hS3;exact codeAny_compStart_list loop (T.self X.A 0 _ _ _ st3 loop)
theorem Zes(tn:List Str)(cap:List (Str×Nat))(hi:PI X tg iter wi)(hg:∀C fp s H,PG (ZaR X (tn++cap.map (·.1)) scope cl C fp s H) tg g)(ht:∀C fp s H,PT (ZaR X (tn++cap.map (·.1)) scope cl C fp s H) ct tt)(he:∀C fp s H,PE (ZaR X (tn++cap.map (·.1)) scope cl C fp s H) elt te)
  (hc:X.calm=true) (hclos:closureFor scope X.env=pure cl) (hcell:∀y∈scope.names,y.2 ≠ .cell) (hk:scope.kind=.function) (hnames:∀y∈scope.names,y.2=.local->scope.names.lookup y.1=some .local)
  (hcl:∀x c,cl.lookup x=some c->X.env.cells.lookup x=some c)
  (hhas:∀C x,((compEnvC scope cl C X.env).kindOf x=some .cell\/(compEnvC scope cl C X.env).kindOf x=some .free)->∃c,cl.lookup x=some c)
  (hcap:∀C,∀p∈cap,X.N[p.2]?= some p.1/\X.env.scope.names.lookup p.1=some .cell/\((compEnvC scope cl C X.env).kindOf p.1=some .cell\/(compEnvC scope cl C X.env).kindOf p.1=some .free))
  (hs:∀v,foldedSetIterable iter X.env v=pure v):PE X (.ListComp elt [⟨tg,iter,[ct],0⟩] scope pos) (ZnQ wi tn.length cap g tt te):=by
 intro pins s σ H Q I h;rw[eval_ListComp];refine wpAny_comprehension_free (use:=none) rfl hs hclos hk hnames (thn (hi pins s σ H _ I h) fun v s1 h1=>thn h1 fun itv s2 h2=>?_);obtain⟨it,fp,tnn,J,H2,e,I2,T,st2,f2,q2⟩:=h2;subst e;refine ZhR (R:=fun p H6=>Q (.ref p) H6) tn cap hg ht he hc hcell hk hcl hhas hcap I2 T st2 f2 q2 fun s3 H3 I3 f3 acc σ6 H6 s6 I6 q6=>?_;obtain⟨m,hn,_⟩:=I6.loc;refine⟨m,hn,fun h' sb=>?_⟩;have nC:∀b o,s3.heap.get? b=some o->b≠s3.heap.objs.size:=fun b o q=>Nat.ne_of_lt (Heap.lt_size q);have u:Un (frs X.stack) fp H3 H6 s3.heap h':=by
  have u0:=I6.base;refine⟨fun b o q n hb hx=>(sb.2 b (nC b o q)).trans (u0.keep b o q n hb hx),fun b o q n hb hx=>?_,u0.free,fun b o q hx=>?_,u0.tups,u0.frzs,u0.tbls⟩
  ·obtain⟨sl,e⟩:=u0.slot b o q n hb hx;exact⟨sl,(sb.2 b (nC b o q)).trans e⟩
  ·obtain⟨o',e⟩:=u0.there b o q hx;exact⟨o',(sb.2 b (nC b o q)).trans e⟩
 have free6:H6 s3.heap.objs.size=none:=I6.free;have ok6:HOk X.prog X.w H6 h':=fun b o q=>(I6.hok b o q).stay (fun c v hcv r=>(sb.2 c (by
  rcases hcv with z|z
  ·rw[z];exact ZK q free6
  ·exact ZK z free6)).trans r) (fun _ q=>q) fun _ _ q=>q
 have I':=I3.call (g':=s6.gens) (d':=s6.drawn) (t':=s6.toks) (ch:=fp) u ok6 I6.bare fun b hb=>⟨(f3 b hb).2.2.2.1,(f3 b hb).2.1,(f3 b hb).2.2.2.2.1,(f3 b hb).2.2.2.2.2⟩;have e:({ s6 with heap:=h' }:Shared)= { s3 with heap:=h',gens:=s6.gens,drawn:=s6.drawn,toks:=s6.toks }:=by
  have ho:s6.os=s3.os:=I6.os;obtain⟨a1,a2,a3,a4,a5⟩:=s6;obtain⟨b1,b2,b3,b4,b5⟩:=s3;simp only at ho;subst ho;rfl
 rw[e];exact⟨.ref _,H6,I',rfl,q6⟩
end
end L2
namespace PySem.SeqAt
open AutoSeq1 (wpAny_loadPart')
open MeetsSeq MeetsSeq2 MeetsSeq3 SeqRoads2
end PySem.SeqAt
namespace L2
open PySem PySem.Spec PyProof.Rows PySem.SeqAt
def Zdp(X:Cx):Cx where
 prog:=X.prog
 w:=X.w
 K:=X.K
 mg:=X.mg
 base:=X.base
 A:=X.A.in1
 N:=X.N
 s₀ := X.s₀
 H₀ := X.H₀
 env:=X.env
 outer:=X.outer
 stack:=X.stack
 ex:=X.ex
 fn:=X.fn
 calm:=X.calm
 pn:=X.pn
 xe:=no0
section
variable{X:Cx}{pins:List (Addr×Obj)}{σ : St}{H:Hp}{s:Shared}
theorem Cx.Ok.in1(o:X.Ok):(Zdp X).Ok :=
 ⟨o.mod,o.kind,o.glob,o.blt,o.above,o.inj,o.has,o.cab,o.hd,o.frames,o.stk,o.exf,o.bs,o.bsz,o.noex,o.exfs,o.funs,o.frf⟩
theorem Inv.in1(I:Inv X pins σ H s):Inv (Zdp X) pins σ H s:=⟨I.ok.in1,I.os,I.bare,I.base,I.loc,I.cell,I.free,I.freeC,I.pin,I.hok,I.len⟩
theorem Inv.out1(o:X.Ok)(I:Inv (Zdp X) pins σ H s):Inv X pins σ H s:=⟨o,I.os,I.bare,I.base,I.loc,I.cell,I.free,I.freeC,I.pin,I.hok,I.len⟩
end
section
variable{X:Cx}{pins:List (Addr×Obj)}{σ : St}{H:Hp}{s:Shared}{k:Nat}{f:Addr}{fd:FuncData}{ps:List Str}{sp:Sp}{Q:VK}{l p it:Addr}{xs:List V}{W:Nat->V->V->Hp->Prop}
abbrev Zpa(X:Cx)(pins:List (Addr×Obj))(σ : St)(Q:VK):Result->Shared->Prop:=fun r s'=>match r with | .ok (.ret v)=>EP X pins σ Q v s' | .ok _=>False | .error e=>X.xe e s'
theorem ZhC{i:Nat}{x:V}{Q':Option Value->Shared->Prop}{E:Value->Shared->Prop}(I:Inv (Zdp X) pins σ H s)(st:s.heap.IsListIter it l i)(hq:SqL X.K H l xs)(hx:xs[i]?= some x)(hf:ZcQ (Zdp X) pins H it)
  (h:∀u s',Inv (Zdp X) pins σ H s'->s'.heap.IsListIter it l (i+1)->RelV x u->Q' (some u) s'):wpAny (model X.prog X.w) X.A.in1 (pyNext (.ref it)) Q' E s:=by
 obtain⟨its,rv,p,hz⟩:=I.list hq;obtain⟨u,hu,ru⟩:=rv.get hx;obtain⟨f0,f1,f2,f3,f4,f5⟩:=hf;exact wpAny_pyNext_list_item st p.isList (x:=u) (by simpa using hu) fun h' st' sb=>h u _ (I.turned (t':=s.toks) (fun b o hb e=>(sb.2 b hb).trans e) f0 f1 f3 f4 f5) st' ru
theorem ZjX{i:Nat}{Q':Option Value->Shared->Prop}{E:Value->Shared->Prop}(hc:X.calm=true)(I:Inv (Zdp X) pins σ H s)(st:s.heap.IsListIter it l i)(hq:SqL X.K H l xs)(hx:xs.length<=i)(hf:ZcQ (Zdp X) pins H it)
  (h:∀s',Inv (Zdp X) pins σ H s'->Q' none s'):wpAny (model X.prog X.w) X.A.in1 (pyNext (.ref it)) Q' E s:=by
 obtain⟨its,rv,p,hz⟩:=I.list hq;obtain⟨f0,f1,f2,f3,f4,f5⟩:=hf;have hl:=rv.length;exact wpAny_pyNext_list_end (I.ok.hd hc) st p.isList (by simp;lia) fun h' eb=>h _ (I.turned (t':=s.toks) (fun b o hb e=>eb b o hb e) f0 f1 f3 f4 f5)
end
section
variable{X:Cx}{pins:List (Addr×Obj)}{σ : St}{H:Hp}{s:Shared}{k:Nat}{f:Addr}{fd:FuncData}{ps:List Str}{sp:Sp}{Q:VK}{l p it:Addr}{xs:List V}{W:Nat->V->V->Hp->Prop}{ud:Value}
theorem Zly{o:HO}(h:ZcQ X pins H it)(hp:∃u,H p=some u):ZcQ X pins (upd H p o) it:=by
 refine⟨?_,h.2⟩;obtain⟨u,hu⟩:=hp;rw[Zu (ZK hu h.1).symm];exact h.1
theorem ZfI{h:Heap}{i:Nat}(st:h.IsListIter it l i):∃o,h.get? it=some o/\(∀v,o.data ≠ .cell v)/\∀h':Heap,h'.get? it=some o->h'.IsListIter it l i:=by
 obtain⟨o,e,c,d⟩:=st;exact⟨o,e,fun v z=>(by rw[d] at z;cases z),fun h' e'=>⟨o,e',c,d⟩⟩
end
end L2
namespace L2
open PySem PySem.Spec PyProof.Rows
def CW(n:Nat)(Pv:Nat->List V->St->Hp->Prop):Nat->Nat->List V->St->Hp->Prop:=fun i m ys σ H=>m=n-i/\i<=n/\Pv i ys σ H
theorem CW.next{n i:Nat}{Pv:Nat->List V->St->Hp->Prop}{ys:List V}{σ : St}{H:Hp}(hi:i<n)(h:Pv (i+1) ys σ H):∃m',m'<n-i/\CW n Pv (i+1) m' ys σ H:=⟨_,by lia,rfl,hi,h⟩
theorem nd1{x:Str}:[x].Nodup:=by simp
theorem Zcd{K:PySem.W.Frag}{a p:Addr}{xs:List V}{g:TG}{te:TE}{R:Hp->Prop}{σ0:St}{H0:Hp}(Pv:Nat->List V->St->Hp->Prop)(h0:Pv 0 [] σ0 H0)
  (hl:∀i ys σ H,i<=xs.length->Pv i ys σ H->SqL K H a xs/\H p=some (.lst ys))
  (hs:∀i ys x σ H,i<xs.length->xs[i]?= some x->Pv i ys σ H->g x σ H fun σ3 H4=>te σ3 H4 fun v H5=>H5 p=some (.lst ys)/\ys.length<sizeLine/\∃m',m'<xs.length-i/\CW xs.length Pv (i+1) m' (ys ++ [v]) σ3 (upd H5 p (.lst (ys ++ [v]))))
  (hd:∀ys σ H,Pv xs.length ys σ H->R H) :
  ∃W:Nat->Nat->List V->St->Hp->Prop,(∃m,W 0 m [] σ0 H0)/\∀i m ys σc H2,W i m ys σc H2->H2 p=some (.lst ys)/\(((Itl K a).stop i H2/\R H2)\/((Itl K a).go i H2/\∀x H3,(Itl K a).yld i H2 x H3->g x σc H3 fun σ3 H4=>te σ3 H4 fun v H5 =>
   H5 p=some (.lst ys)/\ys.length<sizeLine/\∃m',m'<m/\W (i+1) m' (ys ++ [v]) σ3 (upd H5 p (.lst (ys ++ [v]))))):=by
 refine⟨CW xs.length Pv,⟨_,rfl,Nat.zero_le _,h0⟩,?_⟩;rintro i m ys σ H ⟨rfl,hi,hp⟩;obtain⟨h1,h2⟩:=hl i ys σ H hi hp;refine⟨h2,?_⟩;by_cases hlt:i<xs.length
 ·refine .inr ⟨⟨xs,xs[i],h1,List.getElem?_eq_getElem hlt⟩,?_⟩;rintro x H3 ⟨rfl,hx⟩;exact hs i ys x σ _ hlt (hx xs h1) hp
 ·refine .inl ⟨⟨xs,h1,by lia⟩,hd ys σ H ?_⟩;have e:i=xs.length:=by lia
  rw[<- e];exact hp
theorem Zds{scope:Scope}{env:Env}(h:∀y∈scope.names,y.2 ≠ .cell/\y.2 ≠ .free){cl:List (Str×Addr)}:∀(C:Addr)(x:Str),((compEnvC scope cl C env).kindOf x=some .cell\/(compEnvC scope cl C env).kindOf x=some .free)->∃c,cl.lookup x=some c:=by
 have key:∀(l:List (Str×NameKind))(x:Str),(∀y∈l,y.2 ≠ .cell/\y.2 ≠ .free)->∀k,(l.map fun(n,k)=>if(k ==.free&&env.scope.kind ==.function&&env.kindOf n == some .cell) then(n,.cell) else(n,k)).lookup x=some k->k ≠ .cell/\k ≠ .free:=by
  intro l
  induction l with
  | nil=>intro x _ k e;simp at e
  | cons y l ih =>
   intro x hy k e;obtain⟨n,kd⟩:=y;have hk:=hy _ (List.mem_cons_self ..);have e0:(kd == NameKind.free&&env.scope.kind ==.function&&env.kindOf n == some .cell)=false:=by
    have:(kd == NameKind.free)=false:=by
     cases kd <;> first|rfl|exact absurd rfl hk.2
    rw[this];rfl
   simp only[List.map_cons,e0,Bool.false_eq_true,if_false,List.lookup_cons] at e;cases hx:x == n with
   | true =>
    rw[hx] at e;cases e;exact hk
   | false =>
    rw[hx] at e;exact ih x (fun y hm=>hy y (List.mem_cons_of_mem _ hm)) k e
 intro C x hx;rcases hx with e|e
 ·exact absurd rfl (key _ x h _ e).1
 ·exact absurd rfl (key _ x h _ e).2
section
variable{X:Cx}{elt iter tg:Expr}{scope:Scope}{pos:Pos}{wi:TI}{g:TG}{te:TE}{cl:List (Str×Addr)}
theorem ZdR{y:Str}{py spos:Pos}{n0:Nat}(hN:X.N.Nodup)(hi0:X.N[n0]?= some y)(hx:Loc X.env.scope y)(tn:List Str)(cap:List (Str×Nat))(hi:PI X tg iter wi)(hg:∀C fp s H,PG (ZaR X (tn++cap.map (·.1)) scope cl C fp s H) tg g)(he:∀C fp s H,PE (ZaR X (tn++cap.map (·.1)) scope cl C fp s H) elt te)
  (hc:X.calm=true) (hclos:closureFor scope X.env=pure cl) (hcell:∀y∈scope.names,y.2 ≠ .cell) (hk:scope.kind=.function) (hnames:∀y∈scope.names,y.2=.local->scope.names.lookup y.1=some .local)
  (hcl:∀x c,cl.lookup x=some c->X.env.cells.lookup x=some c)
  (hhas:∀C x,((compEnvC scope cl C X.env).kindOf x=some .cell\/(compEnvC scope cl C X.env).kindOf x=some .free)->∃c,cl.lookup x=some c)
  (hcap:∀C,∀p∈cap,X.N[p.2]?= some p.1/\X.env.scope.names.lookup p.1=some .cell/\((compEnvC scope cl C X.env).kindOf p.1=some .cell\/(compEnvC scope cl C X.env).kindOf p.1=some .free))
  (hs:∀v,foldedSetIterable iter X.env v=pure v) (hsw:swapsWith (.ListComp elt [⟨tg,iter,[],0⟩] scope pos) (some (.Name y py)) spos.line X.env=pure true) (hf:X.fn y=true\/X.env.scope.names.lookup y=some .local:=by first|exact .inl rfl|exact .inr rfl|assumption) :
  PS X (.Assign [.Name y py] (.ListComp elt [⟨tg,iter,[],0⟩] scope pos) spos) (Zn8 (ZnI wi tn.length cap g te) (ZiE n0)):=by
 intro pins s σ H D I h;rw[exec_Assign_Name_used _ _ _ _ hsw];refine wpAny_bind (wpAny_standAt (wpAny_bind ?_));show wpAny _ X.A (do let _ <- comprehension (.ListComp elt [⟨tg,iter,[],0⟩] scope pos) scope X.env _ (newList []) false (eval iter X.env) (some (assign (.Name y py) X.env))) _ _ s;refine wpAny_bind (wpAny_mono (wpAny_comprehension_free (use:=some (assign (.Name y py) X.env)) (Q:=fun _ s'=>SP X pins D .next s') rfl hs hclos hk hnames (thn (hi pins s σ H _ I h) fun v s1 h1=>thn h1 fun itv s2 h2=>?_)) (fun _ s' hq=>wpAny_pure (wpAny_pure hq)) fun _ _ e=>e)
 obtain⟨it,fp,tnn,J,H2,e,I2,T,st2,f2,q2⟩:=h2;subst e;refine ZeO (R:=fun p H6=>ZiE n0 (.ref p) σ H6 (fun σ' H'=>D.nx σ' H')) tn cap hg he hc hcell hk hcl hhas hcap I2 T st2 f2 q2 fun s3 H3 I3 f3 acc σ6 H6 s6 I6 q6=>?_;obtain⟨m,hn,_⟩:=I6.loc;have I':Inv X pins σ H6 s6:=I3.call' (ch:=fp) I6.os I6.base I6.hok I6.bare fun b hb=>⟨(f3 b hb).2.2.2.1,(f3 b hb).2.1,(f3 b hb).2.2.2.2.1,(f3 b hb).2.2.2.2.2⟩;have fC:ZcQ X pins H6 s3.heap.objs.size:=I3.fpOk (Nat.le_refl _) I6.free;show wpAny _ X.A (assign (.Name y py) X.env (.ref acc)) _ _ s6;refine wpAny_assign_Name (Zfy (v:=.ref acc) I' hN hi0 hx rfl (fun s7 I7 ⟨a,sb,ha⟩=>?_) hf);have nCa:s3.heap.objs.size≠a:=by
  rcases ha with z|z
  ·rw[z];exact fC.2.1
  ·exact(fC.2.2.2.2.1 _ _ z).symm
 exact⟨m,hn.sameBut sb nCa,fun h' sb'=>⟨_,H6,I7.turned (t':=s7.toks) (fun b o hb e=>(sb'.2 b hb).trans e) fC.1 fC.2.1 fC.2.2.2.1 fC.2.2.2.2.1 fC.2.2.2.2.2,q6⟩⟩
end
section
variable{κ : Type}[DecidableEq κ]
def Zcw(kvs:List (κ × V))(k : κ):Option V:=(kvs.find? fun kv=>decide (kv.1=k)).map (·.2)
def putK(kvs:List (κ × V))(k : κ)(v:V):List (κ × V) :=
 if(kvs.any fun kv=>decide (kv.1=k))=true then kvs.map (fun kv=>if kv.1=k then(kv.1,v) else kv) else kvs ++ [(k,v)]
theorem Za0{p : κ × V}{r:List (κ × V)}{k : κ}(e:p.1=k):Zcw (p::r) k=some p.2:=by simp[Zcw,List.find?_cons,e]
theorem Za4{p : κ × V}{r:List (κ × V)}{k : κ}(e : ¬ p.1=k):Zcw (p::r) k=Zcw r k:=by simp[Zcw,List.find?_cons,e]
theorem Zcu(k : κ):∀kvs:List (κ × V),(kvs.any fun kv=>decide (kv.1=k))=(Zcw kvs k).isSome
 | []=>rfl
 | p::r=>by
  rw[List.any_cons];by_cases e:p.1=k
  ·simp only[Za0 e,decide_eq_true e,Bool.true_or,Option.isSome_some]
  ·rw[Za4 e,decide_eq_false e,Bool.false_or];exact Zcu k r
theorem Zhh(k j : κ)(y:V):∀kvs:List (κ × V),Zcw (kvs.map fun kv=>if kv.1=k then(kv.1,y) else kv) j=(Zcw kvs j).map fun x=>if j=k then y else x
 | []=>rfl
 | p::r=>by
  have ih:=Zhh k j y r;rw[List.map_cons];by_cases h:p.1=k
  ·rw[if_pos h];by_cases e:p.1=j
   ·rw[Za0 (p:=(p.1,y)) e,Za0 e,Option.map_some,if_pos (e.symm.trans h)]
   ·rw[Za4 (p:=(p.1,y)) e,Za4 e,ih]
  ·rw[if_neg h];by_cases e:p.1=j
   ·rw[Za0 (p:=p) e,Za0 e,Option.map_some,if_neg (fun z=>h (e.trans z))]
   ·rw[Za4 (p:=p) e,Za4 e,ih]
theorem Zgb(k j : κ)(y:V):∀kvs:List (κ × V),Zcw kvs k=none->Zcw (kvs ++ [(k,y)]) j=if j=k then some y else Zcw kvs j
 | [],_=>by
  by_cases e:k=j
  ·rw[if_pos e.symm];exact Za0 (p:=(k,y)) e
  ·rw[if_neg (fun z=>e z.symm)];exact Za4 (p:=(k,y)) e
 | p::r,hn=>by
  rw[List.cons_append];have hk : ¬ p.1=k:=fun z=>by rw[Za0 z] at hn;cases hn
  rw[Za4 hk] at hn;have ih:=Zgb k j y r hn;by_cases e:p.1=j
  ·rw[Za0 e,Za0 e,if_neg (fun z=>hk (e.trans z))]
  ·rw[Za4 e,Za4 e,ih]
theorem ZkD(kvs:List (κ × V))(k j : κ)(y:V):Zcw (putK kvs k y) j=if j=k then some y else Zcw kvs j:=by
 unfold putK;by_cases a:(kvs.any fun kv=>decide (kv.1=k))=true
 ·rw[if_pos a,Zhh];rw[Zcu] at a;by_cases e:j=k
  ·obtain⟨x,hx⟩:=Option.isSome_iff_exists.mp a;rw[if_pos e,e,hx,Option.map_some,if_pos rfl]
  ·rw[if_neg e];cases Zcw kvs j with
   | none=>rfl
   | some x=>rw[Option.map_some,if_neg e]
 ·rw[if_neg a];refine Zgb k j y kvs ?_;rw[Zcu] at a;cases q:Zcw kvs k with
  | none=>rfl
  | some x=>rw[q] at a;exact(a rfl).elim
theorem Zb2(kvs:List (κ × V))(k : κ)(v:V):(putK kvs k v).length<=kvs.length+1:=by
 unfold putK
 split
 ·rw[List.length_map];lia
 ·rw[List.length_append,List.length_cons,List.length_nil];lia
theorem Zhi{kvs:List (κ × V)}{k : κ}(v:V)(h:Zcw kvs k=none):putK kvs k v=kvs ++ [(k,v)]:=by
 unfold putK;rw[Zcu,h];exact if_neg (by decide)
theorem ZfH.isSome_eq{o:Option V}{u:Option Value}(r:ZfH o u):o.isSome=u.isSome:=by
 cases o with
 | none=>cases u with
  | none=>rfl
  | some _=>exact(show False from r).elim
 | some _=>cases u with
  | none=>exact(show False from r).elim
  | some _=>rfl
theorem KV.val{kvs:List (κ × V)}{vs:List (κ × Value)}(r:KV kvs vs)(k : κ):ZfH (Zcw kvs k) (valueAt vs k):=by
 unfold KV at r
 induction r with
 | nil=>exact True.intro
 | @cons p q ps qs h t ih =>
  obtain⟨h1,h2⟩:=h;by_cases e:p.1=k
  ·have e':q.1=k:=h1.symm.trans e;have b:valueAt (q::qs) k=some q.2:=by simp[valueAt,List.find?_cons,e']
   rw[Za0 e,b];exact h2
  ·have e' : ¬ q.1=k:=fun z=>e (h1.trans z);have b:valueAt (q::qs) k=valueAt qs k:=by simp[valueAt,List.find?_cons,e']
   rw[Za4 e,b];exact ih
theorem KV.any{kvs:List (κ × V)}{vs:List (κ × Value)}(r:KV kvs vs)(k : κ):(kvs.any fun kv=>decide (kv.1=k))=vs.any fun kv=>decide (kv.1=k):=by
 unfold KV at r
 induction r with
 | nil=>rfl
 | cons h t ih=>rw[List.any_cons,List.any_cons,ih,h.1]
theorem KV.repl{kvs:List (κ × V)}{vs:List (κ × Value)}(r:KV kvs vs)(k : κ){y:V}{u:Value}(ry:RelV y u) :
  KV (kvs.map fun kv=>if kv.1=k then(kv.1,y) else kv) (vs.map fun kv=>if kv.1=k then(kv.1,u) else kv):=by
 unfold KV at r ⊢
 induction r with
 | nil=>exact .nil
 | @cons p q ps qs h t ih =>
  rw[List.map_cons,List.map_cons];refine .cons ?_ ih;obtain⟨h1,h2⟩:=h;by_cases e:p.1=k
  ·rw[if_pos e,if_pos (h1.symm.trans e)];exact⟨h1,ry⟩
  ·rw[if_neg e,if_neg (fun z=>e (h1.trans z))];exact⟨h1,h2⟩
theorem KV.put{kvs:List (κ × V)}{vs:List (κ × Value)}(r:KV kvs vs)(k : κ){y:V}{u:Value}(ry:RelV y u):KV (putK kvs k y) (stored vs k u):=by
 unfold putK stored;rw[r.any k];by_cases e:(vs.any fun kv=>decide (kv.1=k))=true
 ·rw[if_pos e,if_pos e];exact r.repl k ry
 ·rw[if_neg e,if_neg e];exact Paired.snoc r ⟨rfl,ry⟩
theorem KV.length{kvs:List (κ × V)}{vs:List (κ × Value)}(r:KV kvs vs):kvs.length=vs.length:=Paired.length r
end
theorem Zfv{P:Program}{w:World}{k:Key}{u:Value}(r:RelV (kV k) u):(Zax P w).is k u=true:=by
 cases k with
 | inl i=>obtain⟨t,e⟩:=(show ∃t,u=Value.int i t from r);subst e;exact ZgN P w i t
 | inr x=>obtain⟨t,e⟩:=(show ∃t,u=Value.str x t from r);subst e;exact Zgp P w x t
theorem Zf6{P:Program}{w:World}:∀{ks:List Key}{us:List Value},Vals (ks.map kV) us->ItemsAre (Zax P w) ks us
 | [],_,r=>by rw[List.map_nil] at r;cases r;exact .nil
 | k::ks,_,r=>by
  rw[List.map_cons] at r;cases r with
  | cons h t=>exact .cons (Zfv h) (Zf6 t)
abbrev KT(H:Hp):List (List Key×V)->List (List Key×Addr×Value)->Prop:=Paired fun p q=>p.1=q.1/\H q.2.1=some (.tup (p.1.map kV))/\RelV p.2 q.2.2
theorem KT.val{H:Hp}{kvs:List (List Key×V)}{xs:List (List Key×Addr×Value)}(r:KT H kvs xs)(k:List Key):ZfH (Zcw kvs k) ((atKey xs k).map (·.2)):=by
 induction r with
 | nil=>exact True.intro
 | @cons p q ps qs h t ih =>
  obtain⟨h1,_,h2⟩:=h;by_cases e:p.1=k
  ·have e':q.1=k:=h1.symm.trans e;have b:atKey (q::qs) k=some q.2:=by simp[atKey,List.find?_cons,e']
   rw[Za0 e,b];exact h2
  ·have e' : ¬ q.1=k:=fun z=>e (h1.trans z);have b:atKey (q::qs) k=atKey qs k:=by simp[atKey,List.find?_cons,e']
   rw[Za4 e,b];exact ih
theorem KT.repl{H:Hp}{kvs:List (List Key×V)}{xs:List (List Key×Addr×Value)}(r:KT H kvs xs)(k:List Key){y:V}{u:Value}(ry:RelV y u) :
  KT H (kvs.map fun kv=>if kv.1=k then(kv.1,y) else kv) (xs.map (putAt k u)):=by
 induction r with
 | nil=>exact .nil
 | @cons p q ps qs h t ih =>
  rw[List.map_cons,List.map_cons];refine .cons ?_ ih;obtain⟨h1,h2,h3⟩:=h;unfold putAt;by_cases e:p.1=k
  ·rw[if_pos e,if_pos (h1.symm.trans e)];exact⟨h1,h2,ry⟩
  ·rw[if_neg e,if_neg (fun z=>e (h1.trans z))];exact⟨h1,h2,h3⟩
theorem KT.put{H:Hp}{kvs:List (List Key×V)}{xs:List (List Key×Addr×Value)}(r:KT H kvs xs)(k:List Key){b:Addr}{y:V}{u:Value}(hb:H b=some (.tup (k.map kV)))(ry:RelV y u) :
  KT H (putK kvs k y) (storedH xs k b u):=by
 have e:(kvs.any fun kv=>decide (kv.1=k))=(atKey xs k).isSome:=by
  rw[Zcu,(r.val k).isSome_eq,Option.isSome_map]
 unfold putK storedH;rw[e];by_cases q:(atKey xs k).isSome=true
 ·rw[if_pos q,if_pos q];exact r.repl k ry
 ·rw[if_neg q,if_neg q];exact Paired.snoc r ⟨rfl,hb,ry⟩
theorem KT.keeps{H H':Hp}{kvs:List (List Key×V)}{xs:List (List Key×Addr×Value)}(r:KT H kvs xs)(ht:∀b ys,H b=some (.tup ys)->H' b=some (.tup ys)):KT H' kvs xs :=
 Paired.mapP r fun _ _ z=>⟨z.1,ht _ _ z.2.1,z.2.2⟩
section
variable{P:Program}{w:World}{H:Hp}{h:Heap}{a:Addr}
theorem Znw{u:HO}(ok:HOk P w H h)(e:Rd H a u):ZaL P w H h a u:=e.ok ok
theorem ZjC{kvs:List (Key×V)}(ok:HOk P w H h)(e:Rd H a (.dK kvs)):kvs.length<=sizeLine/\(a == sysModules)=false/\∃vs,KV kvs vs/\h.DictOf (Zax P w) a vs :=
 show ZaL P w H h a (.dK kvs) from Znw ok e
theorem Zmf{kvs:List (Key×V)}(ok:HOk P w H h)(e:H a=some (.dK kvs)):kvs.length<=sizeLine/\(a == sysModules)=false/\∃vs,KV kvs vs/\h.DictOf (Zax P w) a vs:=ZjC ok (.inl e)
theorem ZfX{ks:List Key}(ok:HOk P w H h)(e:H a=some (.tup (ks.map kV))):(tupleKind (Zax P w)).is h ks a:=by
 obtain⟨_,its,r,o,h1,h2,n,h3⟩:=(show ZaL P w H h a (.tup (ks.map kV)) from ok a _ e);exact⟨o,its.toArray,n,h1,h2,h3,by simpa using Zf6 r⟩
theorem ZjQ{kvs:List (List Key×V)}(ok:HOk P w H h)(e:Rd H a (.dT kvs)):kvs.length<=sizeLine/\(a == sysModules)=false /\
  ∃xs,KT H kvs xs/\h.DictOfH (tupleKind (Zax P w)) a xs:=by
 obtain⟨z,y,xs,r,o,es,ep,h1,h2,h3,h4,h5⟩:=(show ZaL P w H h a (.dT kvs) from Znw ok e);refine⟨z,y,xs,r,o,es,ep,h1,h2,h3,h4,fun x hx=>?_,h5⟩;have all:∀{l:List (List Key×V)}{m:List (List Key×Addr×Value)},KT H l m->∀x∈m,(tupleKind (Zax P w)).is h x.1 x.2.1:=by
  intro l m q
  induction q with
  | nil=>intro x hx;exact nomatch hx
  | @cons p q ps qs hq t ih =>
   intro x hx;rcases List.mem_cons.mp hx with e|hx
   ·subst e;exact ZfX ok (by rw[<- hq.1];exact hq.2.1)
   ·exact ih x hx
 exact all r x hx
theorem Zoo{kvs:List (List Key×V)}(ok:HOk P w H h)(e:H a=some (.dT kvs)):kvs.length<=sizeLine/\(a == sysModules)=false /\
  ∃xs,KT H kvs xs/\h.DictOfH (tupleKind (Zax P w)) a xs:=ZjQ ok (.inl e)
end
def Zgf(H:Hp)(a:Addr)(y:V)(r:Option V):Prop :=
 (∃kvs k,Rd H a (.dK kvs)/\y=kV k/\r=Zcw kvs k)\/∃kvs k b,Rd H a (.dT kvs)/\y=.ref b/\H b=some (.tup (k.map kV))/\r=Zcw kvs k
def ZoS(H:Hp)(a:Addr)(y v:V)(H':Hp):Prop :=
 (∃kvs k,H a=some (.dK kvs)/\y=kV k/\kvs.length<sizeLine/\H'=upd H a (.dK (putK kvs k v))) \/
 ∃kvs k b,H a=some (.dT kvs)/\y=.ref b/\H b=some (.tup (k.map kV))/\kvs.length<sizeLine/\H'=upd H a (.dT (putK kvs k v))
theorem Zgf.k{H:Hp}{a:Addr}{kvs:List (Key×V)}{k:Key}(e:H a=some (.dK kvs)):Zgf H a (kV k) (Zcw kvs k):=.inl ⟨kvs,k,.inl e,rfl,rfl⟩
section
variable{X:Cx}{pins:List (Addr×Obj)}{σ : St}{H:Hp}{s:Shared}{a:Addr}{y v:V}{u r:Value}{o:Option V}{A:Around}{E:Value->Shared->Prop}
theorem Inv.big(I:Inv X pins σ H s):sysModules<s.heap.objs.size:=by
 have h:mainGlobals<s.heap.objs.size:=(I.mod.glob.keeps I.bk).lt;exact Nat.lt_trans (by decide) h
theorem Ziw{Q:Value->Shared->Prop}(hu:A.units+1<cLine)(I:Inv X pins σ H s)(g:Zgf H a y (some v))(ry:RelV y u)(h:∀w' s',Inv X pins σ H s'->RelV v w'->Q w' s') :
  wpAny (model X.prog X.w) A (getItem (.ref a) u) Q E s:=by
 rcases g with⟨kvs,k,e,ey,l⟩|⟨kvs,k,b,e,ey,eb,l⟩
 ·subst ey;obtain⟨z,hd,vs,rel,dd⟩:=ZjC I.hok e;obtain⟨w',hw,rw'⟩:=ZfH.some_of (v:=v) (o:=valueAt vs k) (by rw[l];exact rel.val k);exact wpAny_getItem_of (Zfv ry) dd.mapOf hw (h w' _ (I.tok _) rw')
 ·subst ey;cases (show u=Value.ref b from ry);obtain⟨z,hd,xs,rel,dd⟩:=ZjQ I.hok e;obtain⟨w',hw,rw'⟩:=ZfH.some_of (v:=v) (o:=(atKey xs k).map (·.2)) (by rw[l];exact rel.val k);obtain⟨p,hp,hp2⟩:=Option.map_eq_some_iff.mp hw;refine wpAny_getItem_heap (tupleKind_room_in1 hu) (ZfX I.hok eb) dd hp ?_;rw[hp2];exact h w' _ (I.tok _) rw'
theorem Zpf{Q:Value->Shared->Prop}(hu:A.units+1<cLine)(I:Inv X pins σ H s)(g:Zgf H a y o)(ry:RelV y u)(h:∀s',Inv X pins σ H s'->Q (.bool o.isSome) s') :
  wpAny (model X.prog X.w) A (compareOp .In u (.ref a)) Q E s:=by
 rcases g with⟨kvs,k,e,ey,l⟩|⟨kvs,k,b,e,ey,eb,l⟩
 ·subst ey;obtain⟨z,hd,vs,rel,dd⟩:=ZjC I.hok e;refine wpAny_in_of (Zfv ry) hd dd.mapOf ?_;rw[<- (rel.val k).isSome_eq,<- l];exact h _ (I.tok _)
 ·subst ey;cases (show u=Value.ref b from ry);obtain⟨z,hd,xs,rel,dd⟩:=ZjQ I.hok e;refine wpAny_in_heap (tupleKind_room_in1 hu) (ZfX I.hok eb) hd dd ?_;have q:=(rel.val k).isSome_eq;rw[Option.isSome_map] at q;rw[<- q,<- l];exact h _ (I.tok _)
theorem ZmP{Q:Value->Shared->Prop}(hu:A.units+1<cLine)(I:Inv X pins σ H s)(g:Zgf H a y o)(ry:RelV y u)(h:∀s',Inv X pins σ H s'->Q (.bool (!o.isSome)) s') :
  wpAny (model X.prog X.w) A (compareOp .NotIn u (.ref a)) Q E s:=by
 rcases g with⟨kvs,k,e,ey,l⟩|⟨kvs,k,b,e,ey,eb,l⟩
 ·subst ey;obtain⟨z,hd,vs,rel,dd⟩:=ZjC I.hok e;refine wpAny_notIn_of (Zfv ry) hd dd.mapOf ?_;rw[<- (rel.val k).isSome_eq,<- l];exact h _ (I.tok _)
 ·subst ey;cases (show u=Value.ref b from ry);obtain⟨z,hd,xs,rel,dd⟩:=ZjQ I.hok e;refine wpAny_notIn_heap (tupleKind_room_in1 hu) (ZfX I.hok eb) hd dd ?_;have q:=(rel.val k).isSome_eq;rw[Option.isSome_map] at q;rw[<- q,<- l];exact h _ (I.tok _)
theorem ZgH{h':Heap}{t':Nat}{ob:HO}(I:Inv X pins σ H s)(mu:Mut (H a))(hs:Heap.SameBut a s.heap h')(he:∃q,h'.get? a=some q)(new:ZaL X.prog X.w (upd H a ob) h' a ob) :
  Inv X pins σ (upd H a ob) { s with heap:=h',toks:=t' } :=
 I.write (x:=a) (e:=a) mu (.inl rfl) (fun b q hb z=>(hs.2 b hb).trans z) he new
theorem Zlv{P:Program}{w:World}{H':Hp}{h':Heap}{kvs:List (Key×V)}{vs:List (Key×Value)}(z:kvs.length<=sizeLine)(hd:(a == sysModules)=false)(rel:KV kvs vs)(dd:h'.DictOf (Zax P w) a vs) :
  ZaL P w H' h' a (.dK kvs):=⟨z,hd,vs,rel,dd⟩
theorem Zi4{H':Hp}{Q:Unit->Shared->Prop}(hu:A.units+1<cLine)(I:Inv X pins σ H s)(g:ZoS H a y v H')(ry:RelV y u)(rv:RelV v r)(h:∀s',Inv X pins σ H' s'->Q () s') :
  wpAny (model X.prog X.w) A (setItem (.ref a) u r) Q E s:=by
 rcases g with⟨kvs,k,e,ey,l,eH⟩|⟨kvs,k,b,e,ey,eb,l,eH⟩
 ·subst ey eH;obtain⟨z,hd,vs,rel,dd⟩:=Zmf I.hok e;have hz:vs.length<=sizeLine:=by rw[<- rel.length];exact z
  have hl:(putK kvs k v).length<=sizeLine:=by have:=Zb2 kvs k v;lia
  refine wpAny_setItem_pairs (hsz:=hz) (Zfv ry) dd fun h' dd' hs=>h _ ?_;have he:∃q,h'.get? a=some q:=let ⟨q,_,_,hq,_⟩:=dd';⟨q,hq⟩;exact ZgH I (by rw[e];exact True.intro) hs he (Zlv hl hd (rel.put k rv) dd')
 ·subst ey eH;cases (show u=Value.ref b from ry);obtain⟨z,hd,xs,rel,dd⟩:=Zoo I.hok e;have hz:xs.length<=sizeLine:=by rw[<- Paired.length rel];exact z
  have hl:(putK kvs k v).length<=sizeLine:=by have:=Zb2 kvs k v;lia
  refine wpAny_setItem_heap (hsz:=hz) (tupleKind_room_in1 hu) (ZfX I.hok eb) dd fun h' dd' hs=>h _ ?_;obtain⟨q,es,ep,hq,h2,h3,h4,_,h5⟩:=dd';refine ZgH I (by rw[e];exact True.intro) hs ⟨q,hq⟩ ⟨hl,hd,_,(rel.put k eb rv).keeps fun c ys ec=>?_,q,es,ep,hq,h2,h3,h4,h5⟩;rw[Zu (ZoK ec e (fun z=>nomatch z))]
  exact ec
end
def Zop(i:Expr):Prop := ∀ov iv,subscripted i false ov iv=operate [ov,iv] (getItem ov iv)
theorem Zkj{prog:Program}{w:World}{A:Around}{E:Value->Shared->Prop}{s:Shared}{env:Env}{value slice:Expr}{pos:Pos}{T id:String}{Q:Value->Shared->Prop}
  (hl:typeLookup (.type T) "__getitem__" = pure (some (.builtin id))) (hs:Zop slice)
  (h:wpAny (model prog w) A (eval value env) (fun o s₁=>wpAny (model prog w) A (eval slice env) (fun i s₂=>s₂.TypeIs o T/\wpAny (model prog w) A (getItem o i) Q E s₂) E s₁) E s) :
  wpAny (model prog w) A (eval (.Subscript value slice pos) env) Q E s:=by
 refine Subscript_ (wpAny_mono h (fun o s₁ h₁=>wpAny_mono h₁ (fun i s₂ h₂=>?_) fun _ _ x=>x) fun _ _ x=>x);obtain⟨hT,h₂⟩:=h₂;unfold subscriptTail;refine wpAny_bind ?_;rw[getitemInPython_of_ne hT.not_modules];refine wpAny_bind (wpAny_specialOf hT hl ?_);have fin:wpAny (model prog w) A (subscripted slice false o i) (fun r s₃=>wpAny (model prog w) A (letTemporaryGo value o r >>= fun _=>pure r) Q E s₃) E s₂ := by
  rw[hs o i];exact wpAny_operating (wpAny_mono h₂ (fun r s₃ h₃=>wpAny_bind (wpAny_letTemporaryGo (wpAny_pure h₃))) fun _ _ x=>x)
 first
  | exact wpAny_pure (wpAny_bind fin)
  | exact wpAny_bind (wpAny_pure (wpAny_bind fin))
  | exact wpAny_bind fin
theorem Zgv{X:Cx}{pins:List (Addr×Obj)}{σ : St}{H:Hp}{s:Shared}{a:Addr}{y:V}{o:Option V}(I:Inv X pins σ H s)(g:Zgf H a y o):s.TypeIs (.ref a) "dict" := by
 rcases g with⟨kvs,k,e,_,_⟩|⟨kvs,k,b,e,_,_,_⟩
 ·obtain⟨_,_,vs,_,dd⟩:=ZjC I.hok e;exact dd.typeIs
 ·obtain⟨_,_,xs,_,dd⟩:=ZjQ I.hok e;exact dd.typeIs
def Zov(td ty:TE):TE:=fun σ H Q=>td σ H fun x H1=>ty σ H1 fun y H2=>∃a v,x=.ref a/\Zgf H2 a y (some v)/\Q v H2
def Zo8(ty td:TE):TE:=fun σ H Q=>ty σ H fun y H1=>td σ H1 fun x H2=>∃a o,x=.ref a/\Zgf H2 a y o/\Q (.bl o.isSome) H2
def ZmD(ty td:TE):TE:=fun σ H Q=>ty σ H fun y H1=>td σ H1 fun x H2=>∃a o,x=.ref a/\Zgf H2 a y o/\Q (.bl (!o.isSome)) H2
def ZoF(td ty tv:TE):TS:=fun D σ H=>tv σ H fun v H1=>td σ H1 fun x H2=>ty σ H2 fun y H3=>∃a H4,x=.ref a/\ZoS H3 a y v H4/\D.nx σ H4
section
variable{X:Cx}{o i e value:Expr}{pos pos' tpos:Pos}{td ty tv:TE}
theorem Zgz(hu:X.A.units+1<cLine)(ho:PE X o td)(hi:PE X i ty)(hs:Zop i):PE X (.Subscript o i pos) (Zov td ty):=by
 intro pins s σ H Q I h;refine Zkj PySem.F.slot_dict_getitem.lookup hs (thn (ho pins s σ H _ I h) fun u s1 ⟨x,H1,I1,rx,q1⟩=>thn (hi pins s1 σ H1 _ I1 q1) fun iv s2 ⟨y,H2,I2,ry,a,v,ex,g,q2⟩=>?_);subst ex;obtain rfl:u=Value.ref a:=rx;exact⟨Zgv I2 g,Ziw hu I2 g ry fun w' s3 I3 rw'=>⟨v,H2,I3,rw',q2⟩⟩
theorem Zlh(hu:X.A.units+1<cLine)(hi:PE X i ty)(ho:PE X o td):PC X .In i o (Zo8 ty td):=by
 intro pins s σ H Q I h;refine thn (hi pins s σ H _ I h) fun iv s1 ⟨y,H1,I1,ry,q1⟩=>thn (ho pins s1 σ H1 _ I1 q1) fun u s2 ⟨x,H2,I2,rx,a,ov,ex,g,q2⟩=>?_;subst ex;obtain rfl:u=Value.ref a:=rx;exact Zpf hu I2 g ry fun s3 I3=>⟨.bl ov.isSome,H2,I3,rfl,q2⟩
theorem Zir(hu:X.A.units+1<cLine)(hi:PE X i ty)(ho:PE X o td):PC X .NotIn i o (ZmD ty td):=by
 intro pins s σ H Q I h;refine thn (hi pins s σ H _ I h) fun iv s1 ⟨y,H1,I1,ry,q1⟩=>thn (ho pins s1 σ H1 _ I1 q1) fun u s2 ⟨x,H2,I2,rx,a,ov,ex,g,q2⟩=>?_;subst ex;obtain rfl:u=Value.ref a:=rx;exact ZmP hu I2 g ry fun s3 I3=>⟨.bl (!ov.isSome),H2,I3,rfl,q2⟩
theorem ZlQ(hu:X.A.units+1<cLine)(ho:PE X o td)(hi:PE X i ty)(hv:PE X value tv)(hs:swapsWith value (some (.Subscript o i pos')) pos.line X.env=pure false) :
  PS X (.Assign [.Subscript o i pos'] value pos) (ZoF td ty tv):=by
 intro pins s σ H D I h;refine wpAny_Assign_Subscript (thn (hv pins s σ H _ I h) fun r s1 ⟨v,H1,I1,rv,q1⟩=>thn (ho pins s1 σ H1 _ I1 q1) fun u s2 ⟨x,H2,I2,rx,q2⟩=>thn (hi pins s2 σ H2 _ I2 q2) fun iv s3 ⟨y,H3,I3,ry,a,H4,ex,g,q3⟩=>?_) hs;subst ex;obtain rfl:u=Value.ref a:=rx;exact Zi4 hu I3 g ry rv fun s4 I4=>⟨σ,H4,I4,q3⟩
end
theorem Zht{P:Program}{w:World}{H:Hp}(h:Heap)(hb:sysModules<h.objs.size):ZaL P w H (h.push { cls:=.type "dict",data:=.dict #[] }) h.objs.size (.dK []) :=
 ⟨Nat.zero_le _,beq_eq_false_iff_ne.mpr (Ne.symm (Nat.ne_of_lt hb)),[],.nil,Heap.DictOf.new h⟩
def Zn2:TE:=fun _ H Q=>∀p,H p=none->Q (.ref p) (upd H p (.dK []))
section
variable{X:Cx}{pos:Pos}
theorem ZkA:PE X (.Dict [] [] pos) Zn2:=fun pins s σ H Q I h =>
 wpAny_Dict_empty ⟨.ref s.heap.objs.size,_,I.laid (a:=s.heap.objs.size) (o:=.dK []) (t':=s.toks) (fun _ _ q=>Heap.get?_push_of_some _ q) (Nat.le_refl _) (Zht s.heap I.big),rfl,h _ (I.hok.fresh (Nat.le_refl _))⟩
end
def Zj5:List (TE×TE)->St->Hp->(List (V×V)->Hp->Prop)->Prop
 | [],_,H,Q=>Q [] H
 | (tk,tv)::r,σ,H,Q=>tk σ H fun x H1=>tv σ H1 fun y H2=>Zj5 r σ H2 fun ps H3=>Q ((x,y)::ps) H3
abbrev VV:List (V×V)->List (Value×Value)->Prop:=Paired fun p q=>RelV p.1 q.1/\RelV p.2 q.2
def PPs(X:Cx)(pos:Pos)(keys:List (Option Expr))(values:List Expr)(trs:List (TE×TE)):Prop :=
 ∀(pins:List (Addr×Obj))(s:Shared)(σ : St)(H:Hp)(Q:List (V×V)->Hp->Prop),Inv X pins σ H s->Zj5 trs σ H Q ->
  wpAny (model X.prog X.w) X.A (evalPairs (pairTrees keys values X.env pos)) (fun vs s'=>∃ps H',Inv X pins σ H' s'/\VV ps vs/\Q ps H') X.xe s
theorem Zmk{X:Cx}{pos:Pos}:PPs X pos [] [] []:=fun pins s σ H Q I h=>pairTrees_nil_walk ⟨[],H,I,.nil,h⟩
theorem ZeZ{X:Cx}{pos:Pos}{k v:Expr}{ks:List (Option Expr)}{vs:List Expr}{tk tv:TE}{trs:List (TE×TE)}(hk:PE X k tk)(hv:PE X v tv)(hr:PPs X pos ks vs trs) :
  PPs X pos (some k::ks) (v::vs) ((tk,tv)::trs):=fun pins s σ H Q I h =>
 pairTrees_cons_walk (thn (hk pins s σ H _ I h) fun u s1 ⟨x,H1,I1,rx,q1⟩=>thn (hv pins s1 σ H1 _ I1 q1) fun w2 s2 ⟨y,H2,I2,ry,q2⟩ =>
  thn (hr pins s2 σ H2 _ I2 q2) fun ws s3 ⟨ps,H3,I3,rel,q3⟩=>⟨(x,y)::ps,H3,I3,.cons ⟨rx,ry⟩ rel,q3⟩)
def Zf9(kvs more:List (Key×V)):List (Key×V):=more.foldl (fun acc kv=>putK acc kv.1 kv.2) kvs
theorem KV.merge:∀{more:List (Key×V)}{rs:List (Key×Value)}{kvs:List (Key×V)}{vs:List (Key×Value)},KV more rs->KV kvs vs->KV (Zf9 kvs more) (merged vs rs):=by
 intro more rs kvs vs r;unfold KV at r
 induction r generalizing kvs vs with
 | nil=>intro q;exact q
 | @cons p q ps qs h t ih =>
  intro r0;have e:KV (putK kvs p.1 p.2) (stored vs q.1 q.2):=by
   have:=r0.put p.1 h.2;rw[<- h.1];exact this
  exact ih e
theorem ZcT:∀(more kvs:List (Key×V)),(Zf9 kvs more).length<=kvs.length+more.length
 | [],kvs=>by show kvs.length<=kvs.length+0;lia
 | p::r,kvs=>by
  have h1:=ZcT r (putK kvs p.1 p.2);have h2:=Zb2 kvs p.1 p.2;show(Zf9 (putK kvs p.1 p.2) r).length<=_;rw[List.length_cons];lia
theorem Zez{P:Program}{w:World}:∀{kvs:List (Key×V)}{ws:List (Value×Value)},VV (kvs.map fun kv=>(kV kv.1,kv.2)) ws->∃rs,Carries (Zax P w) ws rs/\KV kvs rs
 | [],_,r=>by rw[List.map_nil] at r;cases r;exact⟨[],True.intro,.nil⟩
 | p::kvs,_,r=>by
  rw[List.map_cons] at r;cases r with
  | @cons a b as bs h t =>
   obtain⟨rs,c,q⟩:=Zez (P:=P) (w:=w) t;obtain⟨b1,b2⟩:=b;exact⟨(p.1,b2)::rs,⟨Zfv h.1,rfl,c⟩,.cons ⟨rfl,h.2⟩ q⟩
def ZnK(trs:List (TE×TE)):TE:=fun σ H Q=>∀p,H p=none->Zj5 trs σ (upd H p (.dK [])) fun ps H2=>H2 p=some (.dK [])/\∃kvs:List (Key×V),ps=kvs.map (fun kv=>(kV kv.1,kv.2))/\kvs.length<=15/\Q (.ref p) (upd H2 p (.dK (Zf9 [] kvs)))
theorem ZmI{X:Cx}{pos:Pos}{keys:List (Option Expr)}{values:List Expr}{trs:List (TE×TE)}(h:PPs X pos keys values trs)(hall:keys.all (·.isSome)=true)(hl:keys.length=values.length)(h0:keys ≠ [])
  (h15:keys.length<=15):PE X (.Dict keys values pos) (ZnK trs):=by
 intro pins s σ H Q I q;have hn:=I.hok.fresh (Nat.le_refl s.heap.objs.size);have I1:=I.laid (a:=s.heap.objs.size) (o:=.dK []) (h':=s.heap.push { cls:=.type "dict",data:=.dict #[] }) (t':=s.toks) (fun _ _ q=>Heap.get?_push_of_some _ q) (Nat.le_refl _) (Zht s.heap I.big);refine wpAny_Dict_walk (knd:=Zax X.prog X.w) hall hl h0 h15 (thn (h pins _ σ _ _ I1 (q _ hn)) fun ws s2 ⟨ps,H2,I2,rel,e,kvs,ep,lk,q2⟩=>?_);subst ep;obtain⟨rs,c,rk⟩:=Zez (P:=X.prog) (w:=X.w) rel;obtain⟨z,hd,vs0,r0,dd⟩:=Zmf I2.hok e;cases r0;refine⟨rs,c,dd,fun h' dd' hs=>⟨.ref s.heap.objs.size,_,?_,rfl,q2⟩⟩;have hz:(Zf9 [] kvs).length<=sizeLine:=by
  have h1:=ZcT kvs [];rw[List.length_nil] at h1;rw[sizeLine_eq];lia
 have he:∃q,h'.get? s.heap.objs.size=some q:=let ⟨q,_,_,hq,_⟩:=dd';⟨q,hq⟩;exact ZgH I2 (by rw[e];exact True.intro) hs he (Zlv hz hd (rk.merge .nil) dd')
structure HasM(P:Program)(w:World)(K:PySem.W.Frag)(mg:Str->Option Value)(base:Heap)(C:Addr)(m:Str)(ps:List Str)(j:Nat)(sp:Sp):Prop where
 ex:∃f fd,FnOk P w K mg base CX0 j f fd ps sp/\Binds K fd ps []/\Meth K C m f
structure HasC(P:Program)(w:World)(K:PySem.W.Frag)(mg:Str->Option Value)(base:Heap)(C:Addr)(x:Str)(ps:List Str)(j:Nat)(sp:Sp):Prop where
 ex:∃f fd,FnOk P w K mg base CX0 j f fd ps sp/\Binds K fd ps []/\Mk K C f/\mg x=some (.ref C)
section
variable{X:Cx}{C:Addr}{m x:Str}{ps:List Str}{j k:Nat}{sp:Sp}{o e:Expr}{es:List Expr}{ta:TE}{t:TA}{p pos apos:Pos}
theorem Zbp{pl:Sem Bool}(G:HasM X.prog X.w X.K X.mg X.base C m ps j sp)(hr:Room k X.A)(he:PE X o ta)(c:Cls X.K C)(ha:PA X (e::es) t)(hk:j<=k:=by decide)
  (hst:starEach (e::es) X.env=(false,eval e X.env)::starEach es X.env:=by rfl) (hpl:(backTo pos (starEach es X.env)).any (·.1)=false:=by rfl)
  (ht:eval (.Call (.Attribute o m apos) (e::es) [] pos) X.env=(do
   let ov <- eval o X.env
   standAt apos.atName
   let (f,first) <- holding [ov] (getMethod ov m pl)
   callWith pos f first (backTo pos (starEach (e::es) X.env)) (backToKw pos (keywordEach [] X.env))):=by rfl):PE X (.Call (.Attribute o m apos) (e::es) [] pos) (Zk6 C m sp [] E0 ta t):=by
 obtain⟨f,fd,F,b,hm⟩:=G.ex;exact ZlZ (pl:=pl) he c hm (F.room hk) hr b .nil ZkL ha hst hpl ht
theorem Zhb{pl:Sem Bool}(G:HasM X.prog X.w X.K X.mg X.base C m ps j sp)(hr:Room k X.A)(he:PE X o ta)(c:Cls X.K C)(hk:j<=k:=by decide)
  (ht:eval (.Call (.Attribute o m apos) [] [] pos) X.env=(do
   let ov <- eval o X.env
   standAt apos.atName
   let (f,first) <- holding [ov] (getMethod ov m pl)
   callWith pos f first (backTo pos (starEach [] X.env)) (backToKw pos (keywordEach [] X.env))):=by rfl):PE X (.Call (.Attribute o m apos) [] [] pos) (Zk6 C m sp [] E0 ta Zhg):=by
 obtain⟨f,fd,F,b,hm⟩:=G.ex;exact Zkn (pl:=pl) he c hm (F.room hk) hr b .nil ZkL ht
end
theorem Zc5{X:Cx}:ZbR X (.type "int") (fun xs H Q=>∃b,xs=[.bl b]/\Q (.int (if b=true then 1 else 0)) H):=by
 intro pins s σ H xs us Q I r h;obtain⟨b,rfl,q⟩:=h;obtain⟨u,rfl,ru⟩:=vals1 r;cases ru;exact call_int_bool ⟨.int (if b=true then 1 else 0),H,I.tok _,⟨_,rfl⟩,q⟩
end L2
namespace FgM
end FgM
namespace L2
open PySem PySem.Spec PyProof.Rows
theorem FnOk.none{P:Program}{w:World}{K:PySem.W.Frag}{mg:Str->Option Value}{base:Heap}{CX:CXT}{k:Nat}{f:Addr}{fd:FuncData}{ps:List Str}{sp:Sp}(h:∀vs H Q E,¬ sp vs H Q E):FnOk P w K mg base CX k f fd ps sp :=
 ⟨fun vs H Q E z=>absurd z (h vs H Q E),fun A outer s H args us vs Q E hr e0 hb r z=>absurd z (h vs H Q E)⟩
inductive RowsV:List DictEntry->List (Str×V)->Prop
 | nil:RowsV [] []
 | cons {e:DictEntry} {x:Str} {t:Tok} {v:V} {es:List DictEntry} {D:List (Str×V)}:e.key=.str x t->RelV v e.val->RowsV es D->RowsV (e::es) ((x,v)::D)
def KTab(K:PySem.W.Frag)(A:Addr)(D:List (Str×V)):Prop := ∃(es:Array DictEntry)(ep:Nat)(sl:Array (Option Value)),K.lookup A=some ⟨.type "dict",none,.dict es ep,sl⟩/\RowsV es.toList D
theorem RowsV.exact{es:List DictEntry}{D:List (Str×V)}(h:RowsV es D):(es.all fun e=>isExactStrKey e.key)=true:=by
 induction h with
 | nil=>rfl
 | cons hk _ _ ih=>rw[List.all_cons,ih,hk];rfl
theorem RowsV.find{es:List DictEntry}{D:List (Str×V)}{k:Str}{v:V}(h:RowsV es D)(hl:D.lookup k=some v):∃(i:Nat)(e:DictEntry),es.findIdx? (fun e=>e.key.isStr k)=some i/\es[i]?= some e/\RelV v e.val:=by
 induction h with
 | nil=>cases hl
 | @cons e x t v' es D hk hv _ ih =>
  by_cases hx:k=x
  ·subst hx;have:v'=v:=by simpa[List.lookup_cons] using hl
   subst this;exact⟨0,e,by rw[List.findIdx?_cons];simp[hk,Value.isStr],rfl,hv⟩
  ·have hl':D.lookup k=some v:=by
    rw[List.lookup_cons] at hl;have:(k == x)=false:=beq_eq_false_iff_ne.mpr hx;rw[this] at hl;exact hl
   obtain⟨i,e',h1,h2,h3⟩:=ih hl';refine⟨i+1,e',?_,h2,h3⟩;rw[List.findIdx?_cons];have:e.key.isStr k=false:=by
    rw[hk];simp[Value.isStr];exact fun z=>hx z.symm
   rw[this,h1];rfl
def Zon(K:PySem.W.Frag)(td ty:TE):TE:=fun σ H Q=>td σ H fun x H1=>ty σ H1 fun y H2=>∃A D k v,x=.ref A/\y=.str k/\KTab K A D/\D.lookup k=some v/\Q v H2
theorem Zj2{X:Cx}{o i:Expr}{td ty:TE}{pos:Pos}(ho:PE X o td)(hi:PE X i ty)(hs:Zop i):PE X (.Subscript o i pos) (Zon X.K td ty):=by
 intro pins s σ H Q I h;refine Zkj PySem.F.slot_dict_getitem.lookup hs (thn (ho pins s σ H _ I h) fun u s1 ⟨x,H1,I1,rx,q1⟩=>thn (hi pins s1 σ H1 _ I1 q1) fun iv s2 ⟨y,H2,I2,ry,A,D,k,v,ex,ey,hK,hl,q2⟩=>?_);subst ex ey;obtain rfl:u=Value.ref A:=rx;obtain⟨t,rfl⟩:=(show ∃t,iv=Value.str k t from ry);obtain⟨es,ep,sl,hlk,hr⟩:=hK;have hob:=I2.kIn A _ hlk;have hT:s2.TypeIs (.ref A) "dict" := ⟨_,hob,rfl⟩;refine⟨hT,?_⟩;unfold getItem
 try with_reducible refine wpAny_holding ?_
 refine wpAny_bind (wpAny_sequenceKey hT (by decide) ?_);refine wpAny_bind (wpAny_callSpecial?_slot (name:=Str.ofString "__getitem__") hT PySem.F.slot_dict_getitem (wpAny_call_entry PySem.F.slot_dict_getitem hT PySem.F.entry_dict_getitem ?_ (PySem.F.args_dict_getitem_2 _ _)));show wpAny _ _ (dictGet A (.str k t) >>= _) _ _ s2;refine wpAny_bind ?_;unfold dictGet
 try with_reducible refine wpAny_holding ?_
 obtain⟨l⟩:=es;obtain⟨n,e,h1,h2,h3⟩:=hr.find hl;refine wpAny_bind (wpAny_pyHash_str (wpAny_bind (PyProof.Rows.KTD.kt_dictFind_strs (s:={ s2 with toks:=s2.toks+1 }) hob rfl (by simpa using hr.exact) ?_)));have hf:(List.toArray l).findIdx? (fun e=>e.key.isStr k)=some n:=by simpa using h1
 rw[hf];refine wpAny_bind (wpAny_dictEntries (s:={ s2 with toks:=s2.toks+1 }) hob rfl (wpAny_pure ?_));have he:(List.toArray l)[n]?= some e:=by simpa using h2
 rw[show({ toList:=l }:Array DictEntry)[n]?= some e from he];exact wpAny_pure ⟨e.val,rfl,wpAny_pure ⟨v,H2,I2.tok _,h3,q2⟩⟩
def Zph(K:PySem.W.Frag):R2:=fun x y H Q=>∃a b k r m,x=.ref a/\y=.ref b/\SqT K H a (.str k::r)/\SqT K H b [.str m]/\Q (.bl (decide (k=m)&&r.isEmpty)) H
theorem Zjo{X:Cx}(hu:X.A.units+200<cLine):OpR X (compareOp .Eq) (Zph X.K):=by
 intro pins s σ H x y v u Q I rx ry h;obtain⟨a,b,k,r,m,rfl,rfl,ha,hb,q⟩:=h;cases rx;cases ry;obtain⟨its,r1,p1,z1⟩:=I.tuple ha;obtain⟨its2,r2,p2,z2⟩:=I.tuple hb;cases r1 with
 | @cons _ u1 _ us1 h1 t1 =>
  cases r2 with
  | @cons _ u2 _ us2 h2 t2 =>
   cases t2;obtain⟨tk1,rfl⟩:=(show ∃t,u1=Value.str k t from h1);obtain⟨tk2,rfl⟩:=(show ∃t,u2=Value.str m t from h2);refine PySem.SeqAt.eq_tupleAt (e:=fun _=>k == m) p1 p2 (by lia) (fun j j1 j2=>?_) ⟨.bl _,H,I,rfl,?_⟩
   ·have:j=0:=by simpa using j2
    subst this;exact PySem.SeqAt.EqAt.str_str k tk1 m tk2
   ·have e1:((List.range (min (List.toArray (Value.str k tk1::us1)).size (List.toArray [Value.str m tk2]).size)).all (fun _=>k == m)&&(List.toArray (Value.str k tk1::us1)).size == (List.toArray [Value.str m tk2]).size)=(decide (k=m)&&r.isEmpty):=by
     have hl:=t1.length;have e2:(k == m)=decide (k=m):=by
      by_cases e:k=m
      ·subst e;simp
      ·rw[decide_eq_false e];exact beq_eq_false_iff_ne.mpr e
     cases r with
     | nil =>
      cases t1;simp[e2]
     | cons y ys =>
      cases t1;simp
    rw[e1];exact q
theorem lookup_mem{β : Type}{x:Str}{c : β}:∀{l:List (Str × β)},l.lookup x=some c->(x,c)∈l
 | [],h=>by cases h
 | (y,d)::l,h=>by
  rw[List.lookup_cons] at h;cases e:x == y with
  | true =>
   rw[e] at h;cases h;rw[beq_iff_eq.mp e];exact List.mem_cons_self ..
  | false =>
   rw[e] at h;exact List.mem_cons_of_mem _ (lookup_mem h)
theorem ZfG{env:Env}{cl:List (Str×Addr)}(h:∀p∈cl,env.cells.lookup p.1=some p.2):∀x c,cl.lookup x=some c->env.cells.lookup x=some c:=fun x c e=>h (x,c) (lookup_mem e)
theorem ZdM{scope:Scope}{env:Env}{cl:List (Str×Addr)}(h:∀y∈scope.names,(y.2=.cell\/y.2=.free)->∃c,cl.lookup y.1=some c):∀(C:Addr)(x:Str),((compEnvC scope cl C env).kindOf x=some .cell\/(compEnvC scope cl C env).kindOf x=some .free)->∃c,cl.lookup x=some c:=by
 have key:∀(k:NameKind)(x:Str),(k=.cell\/k=.free)->(scope.names.map fun(n,k)=>if(k ==.free&&env.scope.kind ==.function&&env.kindOf n == some .cell) then(n,.cell) else(n,k)).lookup x=some k->∃c,cl.lookup x=some c:=by
  intro k x hk e;obtain⟨⟨n,k0⟩,hy,he⟩:=List.mem_map.mp (lookup_mem e);by_cases hc:(k0 ==.free&&env.scope.kind ==.function&&env.kindOf n == some .cell)=true
  ·simp only[hc,if_true] at he;have h0:k0=.free:=by
    simp only[Bool.and_eq_true] at hc;have:=hc.1.1;cases k0 <;> first|rfl|exact absurd this (by decide)
   injection he with e1 e2;subst e1;exact h _ hy (.inr h0)
  ·simp only[hc] at he;injection he with e1 e2;subst e1 e2;exact h _ hy hk
 intro C x hx;rcases hx with e|e
 ·exact key _ x (.inl rfl) e
 ·exact key _ x (.inr rfl) e
theorem Zjh{X:Cx}{K:PySem.W.Frag}(h:X.K=K):IxR X (ZoV K):=by
 subst h;exact Zaf
def Za6:Stmt->List Stmt
 | .For _ _ b _ _=>b
 | .While _ b _ _=>b
 | .If _ b _ _=>b
 | _=>[]
def Zks:Stmt->List Stmt
 | .If _ _ b _=>b
 | _=>[]
theorem ZcJ{X:Cx}{b:List Stmt}{D:Ends}{σ : St}{H:Hp}(s:List Stmt){t:TS}(h:PSs X s t)(k:∀u,PSs X s u->u=t->∃t,PSs X b t/\t D σ H):∃t,PSs X b t/\t D σ H:=k t h rfl
theorem ZF{u t:TS}(e:u=t){D:Ends}{σ : St}{H:Hp}(h:t D σ H):u D σ H:=e ▸ h
theorem Zfx{α : Type}:∀{us:List α},us.length=1->∃a,us=[a]
 | [a],_=>⟨a,rfl⟩
theorem ZoW{α : Type}{n:Nat}:∀{us:List α},us.length=n+1->∃a vs,us=a::vs/\vs.length=n
 | a::vs,h=>⟨a,vs,rfl,Nat.succ.inj h⟩
theorem Zej{α : Type}{us:List α}(h:us.length=2):∃a b,us=[a,b]:=by
 obtain⟨a,vs,rfl,h2⟩:=ZoW h;obtain⟨b,rfl⟩:=Zfx h2;exact⟨a,b,rfl⟩
theorem Zm2{α : Type}{us:List α}(h:us.length=3):∃a b c,us=[a,b,c]:=by
 obtain⟨a,vs,rfl,h2⟩:=ZoW h;obtain⟨b,c,rfl⟩:=Zej h2;exact⟨a,b,c,rfl⟩
def XO(e:Addr)(C:Value)(d:Option Addr):Heap->Prop:=fun h=>∃oe vs,h.get? e=some oe/\oe.cls=C/\oe.dict=d/\oe.data=.fields vs/\4<vs.size
theorem XO.ext_ok{P:Program}{w:World}{H:Hp}{h:Heap}{e:Addr}{C:Value}{d:Option Addr}(x:XO e C d h):ZaL P w H h e (.ext (XO e C d)):=by
 refine⟨x,?_,fun h1 h2 p k=>?_⟩
 ·obtain⟨oe,_,ho,_⟩:=x;exact⟨oe,ho⟩
 ·obtain⟨oe,vs,ho,r⟩:=p;exact⟨oe,vs,k oe ho,r⟩
theorem Zho{H:Hp}{a:Addr}{o:HO}(h:H a=some o):upd H a o=H:=by
 funext b
 unfold upd;by_cases e:b=a
 ·subst e;rw[if_pos rfl,h]
 ·rw[if_neg e]
section
variable{X:Cx}{pins:List (Addr×Obj)}{σ : St}{H:Hp}{s:Shared}{e T:Addr}{C:Value}{d:Option Addr}{M:Model}{A:Around}{E:Value->Shared->Prop}{Q:Unit->Shared->Prop}
theorem Inv.xo(I:Inv X pins σ H s)(he:H e=some (.ext (XO e C d))):XO e C d s.heap:=(I.hok e _ he).1
theorem Inv.poke{h':Heap}{t':Nat}(I:Inv X pins σ H s)(he:H e=some (.ext (XO e C d)))(k:∀b u,b≠e->s.heap.get? b=some u->h'.get? b=some u)(x:XO e C d h'):Inv X pins σ H { s with heap:=h',toks:=t' }:=by
 have:=I.write (x:=e) (e:=e) (o:=.ext (XO e C d)) (h':=h') (t':=t') (by rw[he];trivial) (.inl rfl) k (by obtain⟨oe,_,ho,_⟩:=x;exact⟨oe,ho⟩) x.ext_ok
 rwa [Zho he] at this
def XHead(X:Cx)(pins:List (Addr×Obj))(H:Hp)(h:Heap)(e:Addr)(fl:Value):Prop :=
 ∃T oT ts oe vs,h.get? e=some oe/\oe.data=.fields vs/\vs[1]?= some (.ref T)/\ZcQ X pins H T/\h.get? T=some oT/\oT.data=.fields ts/\ts[3]?= some fl
def XSt(X:Cx)(pins:List (Addr×Obj))(H:Hp)(h:Heap)(e:Addr):Prop:=(∃oe vs,h.get? e=some oe/\oe.data=.fields vs/\vs[1]?= some .none)\/XHead X pins H h e .none
theorem ZfJ{h:Heap}{a:Addr}{o:Obj}{vs:Array Value}(i:Nat)(x:Value)(ho:h.get? a=some o)(hd:o.data=.fields vs) :
  (h.update a (Obj.mapFields (·.setIfInBounds i x))).get? a=some (o.mapFields (·.setIfInBounds i x)):=Heap.get?_update_self _ ho (Obj.isFreed_of_fields (Obj.data_mapFields hd _))
theorem Zhz(o:Obj)(f:Array Value->Array Value):(o.mapFields f).dict=o.dict:=by
 obtain⟨c,d,dt,sl⟩:=o;cases dt <;> rfl
theorem XO.put{h:Heap}(x:XO e C d h)(i:Nat)(v:Value):XO e C d (h.update e (Obj.mapFields (·.setIfInBounds i v))):=by
 obtain⟨oe,vs,ho,hc,hdd,hd,hz⟩:=x;exact⟨_,_,ZfJ i v ho hd,(Obj.cls_mapFields ..).trans hc,(Zhz ..).trans hdd,Obj.data_mapFields hd _,by simpa using hz⟩
theorem Inv.slots{h':Heap}(I:Inv X pins σ H s)(hs:Heap.SlotsOnly (frs X.stack) s.heap h'):Inv X pins σ H { s with heap:=h' }:=by
 refine I.call' (s':={ s with heap:=h' }) (ch:=[]) rfl ⟨fun b o q n hb _=>(hs.2.1 b hb).trans q,fun b o q _ _ _=>hs.2.2 b o q,fun _ _ _ n _=>n,fun b o q _=>let ⟨sl,e⟩:=hs.2.2 b o q;⟨_,e⟩,fun _ _ q=>q,fun _ _ _ q=>q,fun _ ps q=>⟨#[],by rw[q];simp⟩⟩ ?_ I.bare (fun b z=>absurd z (by simp));intro b o q;have hfr:=I.stkFree;refine(I.hok b o q).stay (fun c u hc z=>?_) (fun _ z=>z) (fun _ _ z=>z);have hn:c∉frs X.stack:=by
  intro hm;rcases hc with rfl|hc
  ·rw[hfr _ hm] at q;cases q
  ·rw[hfr _ hm] at hc;cases hc
 exact(hs.2.1 c hn).trans z
theorem Zhv{head:Value}{hadNext:Bool}(hA:A.frames=some (X.env::X.outer))(hstk:X.stack=X.env::X.outer)(hf:X.env.frame=some X.env.locals)(I:Inv X pins σ H s)(he:H e=some (.ext (XO e C d)))
  (h:∀h',Inv X pins σ H { s with heap:=h' }->XHead X pins H h' e (rawInt X.env.locals)->Q () { s with heap:=h' }) :
  wpAny M A (frameOf X.env >>= fun a=>entryPlaceOf X.env.locals hadNext >>= fun pl=>EntryCells.newEntry head a .none (rawInt X.env.locals) .none pl >>= fun b=>setField (.ref e) 1 b) Q E s:=by
 have hl:s.heap.FunFrames X.base (X.env::X.outer):=hstk ▸ I.stack;refine wpAny_bind (wpAny_frameOf_fun hA hl hf fun h1 hs1=>?_);have I1:Inv X pins σ H { s with heap:=h1 }:=I.slots (by rw[hstk];exact hs1);refine wpAny_bind (wpAny_entryPlaceOf fun pl hpl=>?_);unfold EntryCells.newEntry newFields;refine wpAny_bind (wpAny_newObj_type ?_ (hpl.sizeOk5 _ _ _ _ _));generalize hob:({ cls:=Value.type "traceback",dict:=none,data:=Data.fields ([head,Value.ref X.env.locals,Value.none,rawInt X.env.locals,Value.none]++(if pl.isEmpty then List.replicate 6 Value.none else pl)).toArray }:Obj)=ob
 have I2:Inv X pins σ H { s with heap:=h1.push ob }:=I1.kept (h':=h1.push ob) (t':=s.toks) fun b u q=>Heap.get?_push_of_some _ q;obtain⟨oe,vs,ho,hc,hdd,hd,hz⟩:=I2.xo he;refine wpAny_setField ho hd (by lia) (h _ (I2.poke (t':=s.toks) he (fun b u hb q=>(Heap.get?_update_other _ _ (Ne.symm hb)).trans q) ((I2.xo he).put 1 _)) ?_);have hT:(h1.push ob).get? h1.objs.size=some ob:=Heap.get?_push_size _ (by rw[<- hob];rfl);have hne:e≠h1.objs.size:=fun z=>by
  have:=I1.hok.lt he;rw[z] at this;exact absurd this (Nat.lt_irrefl _)
 refine⟨h1.objs.size,ob,([head,Value.ref X.env.locals,Value.none,rawInt X.env.locals,Value.none]++(if pl.isEmpty then List.replicate 6 Value.none else pl)).toArray,_,_,ZfJ 1 _ ho hd,Obj.data_mapFields hd _,?_,I1.fpOk (Nat.le_refl _) (I1.hok.fresh (Nat.le_refl _)),(Heap.get?_update_other _ _ hne).trans hT,?_,?_⟩
 ·rw[Array.getElem?_setIfInBounds_self_of_lt (by lia)]
 ·rw[<- hob]
 ·simp
theorem ZiJ(hA:A.frames=some (X.env::X.outer))(hstk:X.stack=X.env::X.outer)(hf:X.env.frame=some X.env.locals)(I:Inv X pins σ H s)(he:H e=some (.ext (XO e C d)))(x:XSt X pins H s.heap e)
  (h:∀h',Inv X pins σ H { s with heap:=h' }->XHead X pins H h' e (rawInt X.env.locals)->Q () { s with heap:=h' }):wpAny M A (noteFrame (.ref e) X.env) Q E s:=by
 unfold noteFrame;simp only[hf];rcases x with⟨oe,vs,ho,hd,h1⟩|⟨T,oT,ts,oe,vs,ho,hd,h1,fT,hT,hdT,h3⟩
 ·refine wpAny_bind (wpAny_field ho hd h1 ?_);rw[if_neg (by decide)];exact Zhv hA hstk hf I he h
 ·refine wpAny_bind (wpAny_field ho hd h1 ?_);rw[if_pos (show(Value.ref T != Value.none)=true by simp)];refine wpAny_bind (wpAny_field hT hdT h3 ?_);rw[if_neg (show ¬ ((Value.none == rawInt X.env.locals)=true) by simp[rawInt])];refine wpAny_bind (wpAny_setField hT hdT (Array.getElem?_eq_some_iff.mp h3).1 ?_);obtain⟨f0,f1,f2,f3,f4,f5⟩:=fT;have I1:=I.turned (t':=s.toks) (h':=s.heap.update T (Obj.mapFields (·.setIfInBounds 3 Value.none))) (fun b u hb q=>(Heap.get?_update_other _ _ (Ne.symm hb)).trans q) f0 f1 f3 f4 f5;exact Zhv hA hstk hf I1 he h
theorem Zi8{fl:Value}(I:Inv X pins σ H s)(he:H e=some (.ext (XO e C d)))(x:XHead X pins H s.heap e fl)
  (h:∀h',Inv X pins σ H { s with heap:=h' }->XHead X pins H h' e .none->Q () { s with heap:=h' }):wpAny M A (setFlight (.ref e) none) Q E s:=by
 obtain⟨T,oT,ts,oe,vs,ho,hd,h1,fT,hT,hdT,h3⟩:=x;unfold setFlight;refine wpAny_bind (wpAny_field ho hd h1 ?_);rw[if_pos (show(Value.ref T != Value.none)=true by simp)];refine wpAny_setField hT hdT (Array.getElem?_eq_some_iff.mp h3).1 ?_;obtain⟨f0,f1,f2,f3,f4,f5⟩:=id fT;have hne:T≠e:=fun z=>by subst z;rw[f0] at he;cases he
 refine h _ (I.turned (t':=s.toks) (fun b u hb q=>(Heap.get?_update_other _ _ (Ne.symm hb)).trans q) f0 f1 f3 f4 f5) ⟨T,_,_,oe,vs,(Heap.get?_update_other _ _ hne).trans ho,hd,h1,fT,ZfJ 3 _ hT hdT,Obj.data_mapFields hdT _,?_⟩;rw[Array.getElem?_setIfInBounds_self_of_lt (Array.getElem?_eq_some_iff.mp h3).1];rfl
end
abbrev XKS:=St->XK
def CXE(P:Program)(w:World):CXT:=fun outer H s E ev s'=>∃(e:Addr)(C:Value)(d:Option Addr)(H':Hp),ev=.ref e/\s'.os=s.os/\AllBare s'.gens/\Un (frs outer) [] H H' s.heap s'.heap/\HOk P w H' s'.heap /\
 H' e=some (.ext (XO e C d))/\s.heap.objs.size<=e/\(∃T oT ts oe vs,s'.heap.get? e=some oe/\oe.data=.fields vs/\vs[1]?= some (.ref T)/\H' T=none/\s.heap.objs.size<=T/\s'.heap.get? T=some oT/\oT.data=.fields ts/\ts[3]?= some .none)/\E C d H'
def Ze9(X:Cx)(E:XKS):Prop := ∀(pins:List (Addr×Obj))(σ : St)(H:Hp)(s:Shared)(e:Addr)(C:Value)(d:Option Addr),Inv X pins σ H s->H e=some (.ext (XO e C d))->(X.ex=[]->X.s₀.heap.objs.size<=e)->XSt X pins H s.heap e->E σ C d H->X.xe (.ref e) s
theorem Zz{P:Program}{w:World}{K:PySem.W.Frag}{mg:Str->Option Value}{base:Heap}{N:List Str}{qual:Str}{scope:Scope}{f:Addr}{cd:Value}{A:Around}{outer:List Env}{s:Shared}{H:Hp}{E:XK} :
  Ze9 (Zko (CXE P w) P w K mg base N qual scope f cd A outer s H E) (fun _=>E):=by
 intro pins σ H1 s1 e C d I he hy x hE;show wpAny _ _ (leaving _ _) _ _ s1;unfold leaving;refine wpAny_bind (ZiJ (X:=Zko (CXE P w) P w K mg base N qual scope f cd A outer s H E) I.ok.frames rfl rfl I he x fun h2 I2 x2=>Zi8 I2 he x2 fun h3 I3 x3=>?_);obtain⟨T,oT,ts,oe,vs,ho,hd,h1,fT,hT,hdT,h3'⟩:=x3;refine⟨e,C,d,H1,rfl,I3.os,I3.bare,I3.base,I3.hok,he,hy rfl,⟨T,oT,ts,oe,vs,ho,hd,h1,fT.1,?_,hT,hdT,h3'⟩,hE⟩;rcases fT.2.2.2.1 with z|z
 ·exact absurd z (by show T∉([]:List Addr);simp)
 ·exact z
theorem ZhZ{X:Cx}{E:XKS}(hT:Ze9 X E){pins:List (Addr×Obj)}{σ : St}{H:Hp}{s s':Shared}{ev:Value}(I:Inv X pins σ H s)(h:CXE X.prog X.w X.stack H s (E σ) ev s'):X.xe ev s':=by
 obtain⟨e,C,d,H',rfl,os,bare,un,hok,he,hes,⟨T,oT,ts,oe,vs,ho,hd,h1,hTn,hTs,hT',hdT,h3⟩,hE⟩:=h;have I1:=I.call' (ch:=[]) os un hok bare (fun b z=>absurd z (by simp));exact hT pins σ H' s' e C d I1 he (fun _=>Nat.le_trans I.sz hes) (.inr ⟨T,oT,ts,oe,vs,ho,hd,h1,I.fpOk hTs hTn,hT',hdT,h3⟩) hE
structure HasX(P:Program)(w:World)(K:PySem.W.Frag)(mg:Str->Option Value)(base:Heap)(x:Str)(ps:List Str)(k:Nat)(sp:Sp):Prop where
 ex:∃(f:Addr)(fd:FuncData),FnOk P w K mg base (CXE P w) k f fd ps sp/\Binds K fd ps []/\PySem.W.keepIn K (.ref f)=true/\mg x=some (.ref f)
def Zn4(sp:Sp)(E:XKS)(t:TA):TE:=fun σ H Q=>t σ H fun vs H1=>sp vs H1 Q (E σ)
section
variable{X:Cx}{j k:Nat}{f:Addr}{fd:FuncData}{ps:List Str}{sp:Sp}{E:XKS}{x:Str}{p pos:Pos}{e:Expr}{es:List Expr}{t:TA}
theorem Zgr{pins:List (Addr×Obj)}{σ : St}{H:Hp}{s:Shared}{Q:VK}{us:List Value}{vs:List V}(F:FnOk X.prog X.w X.K X.mg X.base (CXE X.prog X.w) k f fd ps sp)(hr:Room k X.A)(hb:Binds X.K fd ps [])(hT:Ze9 X E)
  (I:Inv X pins σ H s) (r:Vals vs us) (h:sp vs H Q (E σ)):wpAny (model X.prog X.w) X.A (call (.ref f) us) (EP X pins σ Q) X.xe s:=by
 have hl:us.length=ps.length:=by rw[<- r.length];exact F.len _ _ _ _ h
 have hbb:=hb s us I.kIn (by rw[List.append_nil];exact hl);rw[List.append_nil] at hbb;refine wpAny_call (codeAny_mono (F.run X.A X.stack s H ⟨us,[]⟩ us vs Q (E σ) hr I.env0 hbb r h) fun r s' hq=>?_);cases r with
 | error e=>exact ZhZ hT I hq
 | ok fl =>
  cases fl with
  | ret u=>exact I.after hq
  | next=>exact False.elim hq
  | brk=>exact False.elim hq
  | cont=>exact False.elim hq
theorem ZcL(G:HasX X.prog X.w X.K X.mg X.base x ps j sp)(hT:Ze9 X E)(hr:Room k X.A)(hg:Gl X x)(ha:PA X (e::es) t)(hk:j<=k:=by decide)(hdb:(x == ("__debug__" : Str))=false:=by decide)
  (he:starEach (e::es) X.env=(false,eval e X.env)::starEach es X.env:=by rfl) (hpl:(backTo pos (starEach es X.env)).any (·.1)=false:=by rfl) :
  PE X (.Call (.Name x p) (e::es) [] pos) (Zn4 sp E t):=by
 obtain⟨f,fd,F,b,kp,m⟩:=G.ex;intro pins s σ H Q I h;refine wpAny_Call_Name_kw (ZcF I hg m ?_ hdb);refine PySem.W.callWith_K (h₀ := X.base) I.ok.mod.kin kp (thn (ha pos pins s σ H _ I h) fun us s1 ⟨vs,H1,I1,r,q⟩=>⟨I1.kIn,?_⟩) he hpl;exact Zgr (F.room hk) hr b hT I1 r q
end
theorem Fun.okX{P:Program}{w:World}{K:PySem.W.Frag}{mg:Str->Option Value}{base:Heap}{x qual:Str}{st:Stmt}{f:Addr}{fd:FuncData}{N ps:List Str}{k:Nat}{sp:Sp}(F:Fun K x qual st f fd)(S:FnScope N ps (Zf st))(len:∀vs H Q E,sp vs H Q E->vs.length=ps.length)
  (hbody:∀(cdv:Value)(A:Around)(outer:List Env)(s:Shared)(H:Hp)(vs:List V)(Q:VK)(E:XK),Room k (A.deeper (envOfC qual (Zf st) s.heap.objs.size f cdv))->sp vs H Q E ->
   ∃t,PSs (Zko (CXE P w) P w K mg base N qual (Zf st) f cdv A outer s H E) (Ze st) t/\t { nx:=fun _ H'=>Q .non H',rt:=Q } (start N vs) H):FnOk P w K mg base (CXE P w) (k+1) f fd ps sp:=by
 obtain⟨oc,od,kV,doc,pm,an,cdv,ct,osl,rfl,lk,hcd⟩:=F.ex;exact Znk lk hcd S len fun A outer s H vs Q E hr hsp=>hbody cdv A outer s H vs Q E hr hsp
structure XCl(K:PySem.W.Frag)(D:Addr):Prop where
 cl:PySem.W.isClsIn K D=true
 exc:PySem.W.mroIn K D (.type "BaseException")=some true
 nt:PySem.W.instIn K (.ref D) (.type "tuple")=some false
inductive Spec(K:PySem.W.Frag)(H:Hp):V->List Addr->Prop
 | one {D:Addr}:XCl K D->Spec K H (.ref D) [D]
 | many {p:Addr} {Ds:List Addr}:SqT K H p (Ds.map V.ref)->(∀D∈Ds,XCl K D)->Spec K H (.ref p) Ds
theorem ZfQ:∀{Ds:List Addr}{us:List Value},Vals (Ds.map V.ref) us->us=Ds.map Value.ref
 | [],_,.nil=>rfl
 | D::Ds,_,.cons r t=>by
  rw[ZfQ t];obtain rfl:_=Value.ref D:=r;rfl
section
variable{M:Model}{A:Around}{E:Value->Shared->Prop}{s:Shared}{K:PySem.W.Frag}{D:Addr}
theorem XCl.isExc(x:XCl K D)(X:K.In s.heap){Q:Bool->Shared->Prop}(h:Q true s):wpAny M A (isExcClass (.ref D)) Q E s:=by
 have hc:=x.cl;unfold PySem.W.isClsIn PySem.W.clsIn at hc
 split at hc
 ·rename_i ho
  unfold isExcClass;refine wpAny_bind ?_;show wpAny M A (loadHead D >>= _) _ _ s;refine wpAny_bind (wpAny_loadPart (X _ _ ho) (wpAny_pure ?_));dsimp only;rw[if_pos rfl];exact(PySem.W.looks_mroIn X x.exc).here h
 ·cases hc
theorem ZgU{g:Value->PUnit->Sem (ForInStep PUnit)}:∀(Ls:List Addr),(∀D∈Ls,∀{Q:ForInStep PUnit->Shared->Prop},Q (.yield PUnit.unit) s->wpAny M A (g (.ref D) PUnit.unit) Q E s)->∀{Q:PUnit->Shared->Prop},Q PUnit.unit s->wpAny M A (forIn (Ls.map Value.ref) PUnit.unit g) Q E s
 | [],_,_,h=>wpAny_pure h
 | D::Ls,hg,_,h=>by
  rw[List.map_cons,List.forIn_cons];exact wpAny_bind (hg D (List.mem_cons_self ..) (ZgU Ls (fun y hy=>hg y (List.mem_cons_of_mem _ hy)) h))
theorem Zj6{f:Addr->Bool}{g:Value->Option Bool×Unit->Sem (ForInStep (Option Bool×Unit))}:∀(Ls:List Addr),(∀D∈Ls,∀{Q:ForInStep (Option Bool×Unit)->Shared->Prop},Q (if f D=true then .done (some true,()) else .yield (none,())) s->wpAny M A (g (.ref D) (none,())) Q E s) ->
  ∀{Q:Option Bool×Unit->Shared->Prop},Q (if Ls.any f=true then some true else none,()) s->wpAny M A (forIn (Ls.map Value.ref) ((none,()):Option Bool×Unit) g) Q E s
 | [],_,_,h=>wpAny_pure h
 | D::Ls,hg,_,h=>by
  rw[List.map_cons,List.forIn_cons];rw[List.any_cons] at h;refine wpAny_bind (hg D (List.mem_cons_self ..) ?_);cases hf:f D with
  | true =>
   rw[hf] at h;exact wpAny_pure h
  | false =>
   rw[hf] at h;exact Zj6 Ls (fun y hy=>hg y (List.mem_cons_of_mem _ hy)) h
theorem Zmv{X:Cx}{pins:List (Addr×Obj)}{σ : St}{H:Hp}{f:Addr->Bool}{C e:Addr}{oe:Obj}{Q:Bool->Shared->Prop}{v:V}{u:Value}{Ds:List Addr}(I:Inv X pins σ H s)(hv:Spec X.K H v Ds)(r:RelV v u)(he:s.heap.get? e=some oe)(hc:oe.cls=.ref C)
  (hb:∀D∈Ds,PySem.W.mroIn X.K C (.ref D)=some (f D)) (h:Q (Ds.any f) s):wpAny M A (excMatches (.ref e) u) Q E s:=by
 cases hv with
 | @one D hD =>
  obtain rfl:u=Value.ref D:=r;unfold excMatches;refine wpAny_bind ((PySem.W.looks_instIn I.kIn hD.nt).here ?_);dsimp only;rw[if_neg Bool.false_ne_true];refine wpAny_bind (wpAny_pure ?_);refine wpAny_bind (ZgU [D] (fun y hy {Q} q=>?_) (wpAny_bind (wpAny_typeOf_ref he (wpAny_bind (Zj6 (f:=f) [D] (fun y hy {Q} q=>?_) ?_)))))
  ·obtain rfl:=List.mem_singleton.mp hy;exact wpAny_bind (hD.isExc I.kIn (wpAny_pure q))
  ·rw[hc];refine wpAny_bind ((PySem.W.looks_mroIn I.kIn (hb y hy)).here ?_);cases hf:f y with
   | true=>rw[hf] at q;exact wpAny_pure q
   | false=>rw[hf] at q;exact wpAny_pure q
  ·cases hf:[D].any f with
   | true=>rw[hf] at h;exact wpAny_pure h
   | false=>rw[hf] at h;exact wpAny_pure h
 | @many p _ hp hD =>
  obtain rfl:u=Value.ref p:=r;obtain⟨its,rv,⟨o,ho,hcl,n,hd⟩,_⟩:=I.tuple hp;unfold excMatches;refine wpAny_bind (wpAny_isInstance (T := "tuple") ⟨o,ho,hcl⟩ (show isSubtype (.type "tuple") (.type "tuple")=pure true by rw[isSubtype_type];kernel_rfl) ?_);dsimp only;rw[if_pos rfl];refine wpAny_bind (wpAny_seqItems ho hd (wpAny_bind (wpAny_pure ?_)));have e1:((some its.toArray).getD #[]).toList=Ds.map Value.ref:=by
   rw[<- ZfQ rv];rfl
  rw[e1];refine wpAny_bind (ZgU Ds (fun y hy {Q} q=>?_) (wpAny_bind (wpAny_typeOf_ref he (wpAny_bind (Zj6 (f:=f) Ds (fun y hy {Q} q=>?_) ?_)))))
  ·exact wpAny_bind ((hD y hy).isExc I.kIn (wpAny_pure q))
  ·rw[hc];refine wpAny_bind ((PySem.W.looks_mroIn I.kIn (hb y hy)).here ?_);cases hf:f y with
   | true=>rw[hf] at q;exact wpAny_pure q
   | false=>rw[hf] at q;exact wpAny_pure q
  ·cases hf:Ds.any f with
   | true=>rw[hf] at h;exact wpAny_pure h
   | false=>rw[hf] at h;exact wpAny_pure h
end
abbrev Cx.tr(X:Cx)(pins:List (Addr×Obj))(E:Value->Shared->Prop):Cx:={ X with pn:=X.pn++pins,xe:=E }
abbrev Cx.hd(X:Cx)(e:Addr):Cx:={ X with A:=X.A.mark (some (.ref e)),calm:=false,xe:=fun _ _=>False }
section
variable{X:Cx}{pins pins':List (Addr×Obj)}{σ : St}{H:Hp}{s:Shared}{e:Addr}{E:Value->Shared->Prop}
theorem Inv.tr(I:Inv X pins σ H s)(E:Value->Shared->Prop):Inv (X.tr pins E) [] σ H s :=
 ⟨⟨I.ok.mod,I.ok.kind,I.ok.glob,I.ok.blt,I.ok.above,I.ok.inj,I.ok.has,I.ok.cab,I.ok.hd,I.ok.frames,I.ok.stk,I.ok.exf,I.ok.bs,I.ok.bsz,I.ok.noex,I.ok.exfs,I.ok.funs,I.ok.frf⟩,I.os,I.bare,I.base,I.loc,I.cell,I.free,I.freeC,fun p hp=>I.pin p (by simpa using hp),I.hok,I.len⟩
theorem Inv.untr(I:Inv (X.tr pins E) pins' σ H s):Inv X pins σ H s :=
 ⟨⟨I.ok.mod,I.ok.kind,I.ok.glob,I.ok.blt,I.ok.above,I.ok.inj,I.ok.has,I.ok.cab,I.ok.hd,I.ok.frames,I.ok.stk,I.ok.exf,I.ok.bs,I.ok.bsz,I.ok.noex,I.ok.exfs,I.ok.funs,I.ok.frf⟩,I.os,I.bare,I.base,I.loc,I.cell,I.free,I.freeC,fun p hp=>I.pin p (List.mem_append_left _ hp),I.hok,I.len⟩
theorem ZcQ.untr{T:Addr}(f:ZcQ (X.tr pins E) pins' H T):ZcQ X pins H T:=⟨f.1,f.2.1,f.2.2.1,f.2.2.2.1,f.2.2.2.2.1,fun p hp=>f.2.2.2.2.2 p (List.mem_append_left _ hp)⟩
theorem Inv.hd(I:Inv X pins σ H s)(e:Addr):Inv (X.hd e) pins σ H s :=
 ⟨⟨I.ok.mod,I.ok.kind,I.ok.glob,I.ok.blt,I.ok.above,I.ok.inj,I.ok.has,I.ok.cab,(fun z=>nomatch z),I.ok.frames,I.ok.stk,I.ok.exf,I.ok.bs,I.ok.bsz,I.ok.noex,I.ok.exfs,I.ok.funs,I.ok.frf⟩,I.os,I.bare,I.base,I.loc,I.cell,I.free,I.freeC,I.pin,I.hok,I.len⟩
theorem Inv.unhd(I:Inv (X.hd e) pins σ H s)(ok:X.Ok):Inv X pins σ H s:=⟨ok,I.os,I.bare,I.base,I.loc,I.cell,I.free,I.freeC,I.pin,I.hok,I.len⟩
theorem Inv.drop1{p:Addr×Obj}(I:Inv X (p::pins) σ H s):Inv X pins σ H s:=I.pins_of fun q hq=>I.pin q (List.mem_append_right _ (List.mem_cons_of_mem _ hq))
theorem SP.untr{D:Ends}{f:Flow}{s':Shared}(h:SP (X.tr pins E) pins' D f s'):SP X pins D f s':=by
 cases f with
 | next=>obtain⟨σ',H',I,q⟩:=h;exact⟨σ',H',I.untr,q⟩
 | brk=>obtain⟨σ',H',I,q⟩:=h;exact⟨σ',H',I.untr,q⟩
 | cont=>obtain⟨σ',H',I,q⟩:=h;exact⟨σ',H',I.untr,q⟩
 | ret u=>obtain⟨v,σ',H',I,r,q⟩:=h;exact⟨v,σ',H',I.untr,r,q⟩
end
def Known(e:Addr)(oe:Obj):HO:=.ext fun h=>h.get? e=some oe
theorem Zk8{P:Program}{w:World}{H:Hp}{h:Heap}{e:Addr}{oe:Obj}(x:h.get? e=some oe):ZaL P w H h e (Known e oe):=⟨x,⟨oe,x⟩,fun _ _ p k=>k _ p⟩
abbrev THS:=Ends->St->Hp->Addr->Obj->Prop
def PH(X:Cx)(hs:List ExceptHandler)(t:THS):Prop := ∀(pins:List (Addr×Obj))(s:Shared)(σ : St)(H:Hp)(D:Ends)(e:Addr)(oe:Obj)(T:Addr)(oT:Obj)(ts vs:Array Value),
 Inv X ((T,oT)::pins) σ H s->ZcQ X pins H T->oe.data=.fields vs->vs[1]?= some (.ref T)->oT.data=.fields ts->ts[3]?= some .none->H e=some (Known e oe)->t D σ H e oe ->
 wpAny (model X.prog X.w) X.A (handleBy (.ref e) X.env hs) (SP X pins D) X.xe s
def Zpe(tb:XKS->TS)(th:THS):TS:=fun D σ H=>∃E:XKS,tb E D σ H/\∀(σ':St)(C:Value)(d:Option Addr)(H':Hp)(e:Addr)(oe:Obj),E σ' C d H'->H' e=some (.ext (XO e C d))->oe.cls=C->oe.dict=d->(∃vs,oe.data=.fields vs)->th D σ' (upd H' e (Known e oe)) e oe
section
variable{X:Cx}{body:List Stmt}{h₀ : ExceptHandler}{hs rest:List ExceptHandler}{tb:XKS->TS}{th tr:THS}{pos:Pos}
theorem ZnV(hstk:X.stack=X.env::X.outer)(hf:X.env.frame=some X.env.locals)
  (hb:∀(E:XKS)(pins:List (Addr×Obj))(E₁ : Value->Shared->Prop),Ze9 (X.tr pins E₁) E->PassesOwn (model X.prog X.w) X.A X.env E₁ -> PSs (X.tr pins E₁) body (tb E)) (hh:PH X (h₀ :: hs) th):PS X (.Try body (h₀ :: hs) [] [] pos) (Zpe tb th):=by
 intro pins s σ H D I h;obtain⟨E,h1,h2⟩:=h;refine wpAny_Try_except ?_;refine wpAny_mono (hb E pins _ ?_ PassesOwn.looking [] s σ H D (I.tr _) h1) (fun f s1 q=>?_) fun e s1 q=>q
 ·intro pins' σ' H' s1 e C d I1 he hy x hE;refine ZiJ (X:=X.tr pins _) (by rw[I.ok.frames,hstk]) hstk hf I1 he x fun h2' I2 x2=>Zi8 I2 he x2 fun h3 I3 x3=>?_;obtain⟨T,oT,ts,oe,vs,ho,hd,hv1,fT,hT,hdT,h3'⟩:=x3;obtain⟨oe',vs',ho',hc,hdd,_⟩:=I3.xo he;rw[ho] at ho';cases ho';have I4:=I3.untr;have I5:=I4.write (x:=e) (e:=e) (o:=Known e oe) (t':=s1.toks) (h':=h3) (by rw[he];trivial) (.inl rfl) (fun b u _ z=>z) ⟨oe,ho⟩ (Zk8 ho);have fT':=fT.untr;have hne:T≠e:=fun z=>by subst z;rw[fT'.1] at he;cases he
  have fT2:ZcQ X pins (upd H' e (Known e oe)) T:=⟨by rw[Zu hne];exact fT'.1,fT'.2⟩;have I6:Inv X ((T,oT)::pins) σ' (upd H' e (Known e oe)) { s1 with heap:=h3 }:=I5.pins_of fun p hp=>by
   rcases List.mem_cons.mp hp with rfl|hp
   ·exact⟨hT,fT2.1,fT2.2.1,fT2.2.2.1,fun v z=>by rw[hdT] at z;cases z⟩
   ·exact I5.pin p (List.mem_append_right _ hp)
  exact hh pins _ σ' _ D e oe T oT ts vs I6 fT2 hd hv1 hdT h3' Zb (h2 σ' C d H' e oe hE he hc hdd ⟨vs,hd⟩)
 ·cases f with
  | next =>
   obtain⟨σ',H',I',q⟩:=q;exact wpAny_execs_nil ⟨σ',H',I'.untr,q⟩
  | brk=>exact SP.untr q
  | cont=>exact SP.untr q
  | ret u=>exact SP.untr q
theorem ZlT{t:Expr}{name:Option Str}{sb:List Stmt}{tt:TE}(ht:∀e,PE (X.hd e) t tt)(hr:PH X rest tr):PH X (.ExceptHandler (some t) name sb pos::rest)
  (fun D σ H e oe=>tt σ H fun v H1=>∃Ds C,Spec X.K H1 v Ds/\oe.cls=.ref C/\(∀D∈Ds,PySem.W.mroIn X.K C (.ref D)=some false)/\H1 e=some (Known e oe)/\tr D σ H1 e oe):=by
 intro pins s σ H D e oe T oT ts vs I fT hd h1 hdT h3 he h;refine wpAny_handleBy_cons (codeAny_handlers_test (wpAny_mono ((ht e) ((T,oT)::pins) s σ H _ (I.hd e) h) (fun u s1 q=>?_) fun _ _ z=>z.elim)) (by intro z;cases z);obtain⟨v,H1,I1,r,Ds,C,hs,hc,hb,hk,q⟩:=q;have I1':=I1.unhd I.ok;refine Zmv (f:=fun _=>false) I1' hs r (I1'.hok e _ hk).1 hc hb ?_;have e0:Ds.any (fun _=>false)=false:=by simp
 rw[e0];have hTn:=(I1'.pin (T,oT) (List.mem_append_right _ (List.mem_cons_self ..))).2.1;exact hr pins s1 σ H1 D e oe T oT ts vs I1' ⟨hTn,fT.2⟩ hd h1 hdT h3 hk q
theorem Zda{M:Model}{A:Around}{E:Value->Shared->Prop}{pins:List (Addr×Obj)}{σ : St}{H:Hp}{s:Shared}{i:Nat}{n:Str}{Q:Unit->Shared->Prop}(I:Inv X pins σ H s)(hN:X.N.Nodup)(hi:X.N[i]?= some n)(hk:X.env.scope.names.lookup n=some .local)
  (h:∀s',Inv X pins (σ.set i none) H s'->Q () s'):wpAny M A (bindName X.env n .none >>= fun _=>unbindBehindTheSuite X.env n pos) Q E s:=by
 obtain⟨m,hn,hl⟩:=id I.loc;have hcls:(X.env.scope.kind ==.class || (X.env.scope.kind ==.module&&X.env.locals != X.env.globals))=false:=by rw[I.ok.kind];rfl
 have hl0:X.env.kindOf n=some .local:=hk;refine wpAny_bind (wpAny_bindName (wpAny_storeName_local hl0 hn (fun ha hna hsa=>?_) hcls));unfold unbindBehindTheSuite;refine wpAny_onRaise ?_;unfold unbindName deleteName;refine wpAny_bind (wpAny_point (wpAny_bind ?_));simp only[hl0,hcls];rw[if_neg (by decide)];refine wpAny_bind (wpAny_nsDel_keeps hna fun hb v hnb hsb=>?_);simp only[if_true,Option.isSome_some,Bool.not_true,Bool.false_eq_true,if_false];refine wpAny_pure (wpAny_point (h _ ?_));have hs:=hsa.trans hsb;obtain⟨oL,_,_,hoL,_⟩:=id hn;have cne:=I.cne;refine⟨I.ok,I.os,I.bare,⟨fun b o e n hb hx=>?_,fun b o e n hb hx=>?_,I.base.free,fun b o e hx=>?_,I.base.tups,I.base.frzs,I.base.tbls⟩,⟨_,hnb,fun j y v' e1 e2 e3=>?_⟩,fun y c e=>?_,I.free,I.freeC,fun p hp=>?_,fun b ob e=>?_,by simpa using I.len⟩
 ·exact(hs.2 b (Nat.ne_of_lt (Nat.lt_of_lt_of_le (Heap.lt_size e) I.ok.above))).trans (I.base.keep b o e n hb hx)
 ·obtain⟨sl,e1⟩:=I.base.slot b o e n hb hx;exact⟨sl,(hs.2 b (Nat.ne_of_lt (Nat.lt_of_lt_of_le (Heap.lt_size e) I.ok.above))).trans e1⟩
 ·obtain⟨o',e1⟩:=I.base.there b o e hx;exact⟨o',(hs.2 b (Nat.ne_of_lt (Nat.lt_of_lt_of_le (Heap.lt_size e) I.ok.above))).trans e1⟩
 ·by_cases hj:j=i
  ·subst hj;by_cases hlt:j < σ.length
   ·rw[List.getElem?_set_self hlt] at e2;cases e2
   ·rw[List.getElem?_eq_none (by rw[List.length_set];lia)] at e2;cases e2
  ·rw[List.getElem?_set_ne (Ne.symm hj)] at e2;obtain⟨u',r',q⟩:=hl j y v' e1 e2 e3;refine⟨u',r',?_⟩;rcases q with⟨k,e⟩|⟨k,c,e,z⟩
   ·refine .inl ⟨k,?_⟩;have:y≠n:=fun e=>hj (Ze1 hN e1 (e ▸ hi));simp[this,e]
   ·exact .inr ⟨k,c,e,z.sameBut hs (cne y c e)⟩
 ·obtain⟨w',z⟩:=I.cell y c e;exact⟨w',z.sameBut hs (cne y c e)⟩
 ·obtain⟨e,n,ne,nf,d⟩:=I.pin p hp;exact⟨(hs.2 p.1 ne).trans e,n,ne,nf,d⟩
 ·refine(I.hok b ob e).stay (fun c w' hc q=>(hs.2 c ?_).trans q) (fun _ q=>q) fun _ _ q=>q;rintro rfl;rcases hc with rfl|hc
  ·rw[I.free] at e;cases e
  ·rw[I.free] at hc;cases hc
def unb(D:Ends)(i:Nat):Ends:={ nx:=fun σ H=>D.nx (σ.set i none) H,rt:=D.rt,bk:=fun σ H=>D.bk (σ.set i none) H,ct:=fun σ H=>D.ct (σ.set i none) H }
theorem Zd2{M:Model}{A:Around}{E:Value->Shared->Prop}{s:Shared}{e T:Addr}{oe oT:Obj}{vs ts:Array Value}{Q:Unit->Shared->Prop}(ho:s.heap.get? e=some oe)(hd:oe.data=.fields vs)(h1:vs[1]?= some (.ref T))(hT:s.heap.get? T=some oT)(hdT:oT.data=.fields ts)(h3:ts[3]?= some .none)(h:Q () s) :
  wpAny M A (setFlight (.ref e) none) Q E s:=by
 unfold setFlight;refine wpAny_bind (wpAny_field ho hd h1 ?_);rw[if_pos (show(Value.ref T != Value.none)=true by simp)];refine wpAny_setField hT hdT (Array.getElem?_eq_some_iff.mp h3).1 ?_;show Q () { s with heap:=s.heap.update T (Obj.mapFields (·.setIfInBounds 3 Value.none)) };rw[Heap.update_setField_same s.heap T oT ts 3 .none hT hdT h3];exact h
theorem Zn9{t:Expr}{n:Str}{b₀ : Stmt}{sb:List Stmt}{tt:TE}{tu:TS}{i:Nat}(ht:∀e,PE (X.hd e) t tt)(hN:X.N.Nodup)(hi:X.N[i]?= some n)(hk:X.env.scope.names.lookup n=some .local)(hs:∀e,PSs (X.hd e) (b₀ :: sb) tu):PH X (.ExceptHandler (some t) (some n) (b₀ :: sb) pos::rest)
  (fun D σ H e oe=>tt σ H fun v H1=>∃Ds C f,Spec X.K H1 v Ds/\oe.cls=.ref C/\(∀D∈Ds,PySem.W.mroIn X.K C (.ref D)=some (f D))/\Ds.any f=true/\H1 e=some (Known e oe)/\tu (unb D i) (σ.set i (some (.ref e))) H1):=by
 intro pins s σ H D e oe T oT ts vs I fT hd h1 hdT h3 he h;refine wpAny_handleBy_cons (codeAny_handlers_test (wpAny_mono ((ht e) ((T,oT)::pins) s σ H _ (I.hd e) h) (fun u s1 q=>?_) fun _ _ z=>z.elim)) (by intro z;cases z);obtain⟨v,H1,I1,r,Ds,C,f,hsp,hc,hb,hany,hkn,q⟩:=q;have I1':=I1.unhd I.ok;have hoe:=(I1'.hok e _ hkn).1;refine Zmv (f:=f) I1' hsp r hoe hc hb ?_;rw[hany];refine codeAny_handlers_suite_as ?_;have hTo:=(I1'.pin (T,oT) (List.mem_append_right _ (List.mem_cons_self ..))).1;refine Zd2 hoe hd h1 hTo hdT h3 ?_;refine Zfq I1'.drop1 hN hi (.inl hk) (show RelV (.ref e) (.ref e) from rfl) (fun s2 I2=>?_) (.inr hk);refine wpAny_mono ((hs e) pins s2 _ H1 (unb D i) (I2.hd e) q) (fun fl s3 q3=>?_) fun _ _ z=>z.elim;show wpAny _ X.A (bindName X.env n .none >>= fun _=>unbindBehindTheSuite X.env n pos) _ _ s3;cases fl with
 | next =>
  obtain⟨σ',H',I3,q3⟩:=q3;exact Zda (I3.unhd I.ok) hN hi hk fun s' I'=>⟨_,_,I',q3⟩
 | brk =>
  obtain⟨σ',H',I3,q3⟩:=q3;exact Zda (I3.unhd I.ok) hN hi hk fun s' I'=>⟨_,_,I',q3⟩
 | cont =>
  obtain⟨σ',H',I3,q3⟩:=q3;exact Zda (I3.unhd I.ok) hN hi hk fun s' I'=>⟨_,_,I',q3⟩
 | ret u =>
  obtain⟨v3,σ',H',I3,r3,q3⟩:=q3;exact Zda (I3.unhd I.ok) hN hi hk fun s' I'=>⟨v3,_,_,I',r3,q3⟩
theorem ZnS{t:Expr}{b₀ : Stmt}{sb:List Stmt}{tt:TE}{tu:TS}(ht:∀e,PE (X.hd e) t tt)(hs:∀e,PSs (X.hd e) (b₀ :: sb) tu):PH X (.ExceptHandler (some t) none (b₀ :: sb) pos::rest)
  (fun D σ H e oe=>tt σ H fun v H1=>∃Ds C f,Spec X.K H1 v Ds/\oe.cls=.ref C/\(∀D∈Ds,PySem.W.mroIn X.K C (.ref D)=some (f D))/\Ds.any f=true/\H1 e=some (Known e oe)/\tu D σ H1):=by
 intro pins s σ H D e oe T oT ts vs I fT hd h1 hdT h3 he h;refine wpAny_handleBy_cons (codeAny_handlers_test (wpAny_mono ((ht e) ((T,oT)::pins) s σ H _ (I.hd e) h) (fun u s1 q=>?_) fun _ _ z=>z.elim)) (by intro z;cases z);obtain⟨v,H1,I1,r,Ds,C,f,hsp,hc,hb,hany,hkn,q⟩:=q;have I1':=I1.unhd I.ok;have hoe:=(I1'.hok e _ hkn).1;refine Zmv (f:=f) I1' hsp r hoe hc hb ?_;rw[hany];refine codeAny_handlers_suite ?_;have hTo:=(I1'.pin (T,oT) (List.mem_append_right _ (List.mem_cons_self ..))).1;refine Zd2 hoe hd h1 hTo hdT h3 ?_;refine wpAny_mono ((hs e) pins s1 _ H1 D (I1'.drop1.hd e) q) (fun fl s3 q3=>?_) fun _ _ z=>z.elim;cases fl with
 | next=>obtain⟨σ',H',I3,q3⟩:=q3;exact⟨σ',H',I3.unhd I.ok,q3⟩
 | brk=>obtain⟨σ',H',I3,q3⟩:=q3;exact⟨σ',H',I3.unhd I.ok,q3⟩
 | cont=>obtain⟨σ',H',I3,q3⟩:=q3;exact⟨σ',H',I3.unhd I.ok,q3⟩
 | ret u=>obtain⟨v3,σ',H',I3,r3,q3⟩:=q3;exact⟨v3,σ',H',I3.unhd I.ok,r3,q3⟩
end
end L2
namespace L2
open PySem PySem.Spec PyProof.Rows PySem.W
abbrev bmV:List Value:=[.type "ValueError",.type "Exception",.type "BaseException",.type "object"]
def keysOk(es:Array DictEntry):Bool:=es.toList.all fun e=>match e.key with | .str _ _=>true|_=>false
structure XMid(K:Frag)(G:Addr):Prop where
 ob:∃c0 dd cd sl oc od es ep sl',K.lookup G=some ⟨c0,dd,.cls cd,sl⟩/\K.lookup cd.ns=some ⟨oc,od,.dict es ep,sl'⟩/\keysOk es=true/\nsIn K cd.ns "__init__" = some none
structure XTop(K:Frag)(C G:Addr):Prop where
 ob:∃nm q N bs hdct sn sub ab col dd k0 k1 k2 k3 k5,K.lookup C=some (excClassObj nm q C N bs (.ref G::bmV) hdct sn sub ab col dd k0 k1 k2 k3 k5 "ValueError.__new__")
 mid:XMid K G
 call:specialIn K (.ref C) "__call__" = some (some (.builtin "type.__call__"))
 typ:instIn K (.ref C) (.type "type")=some true
 kp:keepIn K (.ref C)=true
theorem XMid.tail{K:Frag}{G:Addr}{h:Heap}(x:XMid K G)(X:K.In h):OwnTail h bmV (.ref G::bmV):=by
 obtain⟨c0,dd,cd,sl,oc,od,es,ep,sl',h1,h2,h3,h4⟩:=x.ob;have hns:h.isNs cd.ns=true:=by
  unfold Heap.isNs;rw[X _ _ h2];have h5:=h3;unfold keysOk at h5;rw[Array.all_toList] at h5;exact h5
 have hN:=Heap.Ns.of_isNs hns;exact .own (X _ _ h1) hN (ns_none_of X hN h4) .base
theorem XTop.mro{K:Frag}{C G:Addr}(x:XTop K C G):∃cd,clsIn K C=some cd/\cd.mro=.ref C :: .ref G::bmV:=by
 obtain⟨nm,q,N,bs,hdct,sn,sub,ab,col,dd,k0,k1,k2,k3,k5,h1⟩:=x.ob;have e:clsIn K C=some { name:=nm,bases:=bs,mro:=.ref C :: .ref G::bmV,ns:=N,qualname:=q,hasDict:=hdct,slotNames:=sn,subclasses:=sub,abstract:=ab,collection:=col,hasDel:=false }:=by
  unfold clsIn;rw[h1]
 exact⟨_,e,rfl⟩
abbrev ZaF(C t:Addr):Obj:={ cls:=.ref C,data:=.fields #[.ref t,.none,.none,.none,.bool false,.none] }
abbrev Zab(vs:List Value):Obj:={ cls:=.type "tuple",data:=.seq vs.toArray }
section
variable{prog:Program}{w:World}{A:Around}{K:Frag}{C G f:Addr}{R:Result->Shared->Prop}{s:Shared}
theorem ZeL{us:List Value}{init:Value}(x:XTop K C G)(X:K.In s.heap)(hi:findIn K (.ref C) "__init__" = some (some init)) (b0:∀self,Looks (model prog w) s.heap (bindSpecial init self) (init,[self])) (hl:us.length<=sizeLine)
  (hq:codeAny (model prog w) (A.under (.builtin "type.__call__" ⟨.ref C::us,[]⟩)) (.call init ⟨.ref (s.heap.objs.size+1)::us,[]⟩) (InitBack (s.heap.objs.size+1) R)
   { s with heap:=(s.heap.push (Zab us)).push (ZaF C s.heap.objs.size) }) :
  codeAny (model prog w) A (.call (.ref C) ⟨us,[]⟩) R s:=by
 obtain⟨hh,g,d,t,os⟩:=s;obtain⟨nm,q,N,bs,hdct,sn,sub,ab,col,dd,k0,k1,k2,k3,k5,hK⟩:=x.ob;have hC:=X _ _ hK;have T:=x.mid.tail X;have call:=looks_specialIn (M:=model prog w) X x.call;have typ:=looks_instIn (M:=model prog w) X x.typ;have i0:=looks_findIn (M:=model prog w) X hi;refine codeAny_of_tree ?_;show wpAny _ _ (callAny (.ref C) _) _ _ _;refine nd_load hC ?_;show wpAny _ _ (callAny.viaDunder (.ref C) _) _ _ _;unfold callAny.viaDunder;refine wpAny_bind (call.at ?_);dsimp only;rw[tc_bind];refine wpAny_bind (wpAny_pure (wpAny_bind (wpAny_pure ?_)));refine wpAny_pure (a:=Fin.again (.call (.builtin "type.__call__") ⟨.ref C::us,[]⟩)) ⟨rfl,?_⟩;refine codeAny_call_builtin_at (Code.quiet_builtin _ (by decide +kernel)) entry_typeCall (check_slot tc_kind tc_split typ (tc_args _ _ _) ?_)
 repeat (first|with_reducible refine wpAny_loadPart_at hC ?_|with_reducible refine wpAny_madeBy_exc hC ?_|wp_step)
 refine codeAny_call_builtin_code (Code.quiet_builtin _ F.excBase_ValueError.quiet) (wpAny_check_new_subT F.excBase_ValueError T hC (codeAny_exc_new_subT F.excBase_ValueError T hC ?_ hl));show wpAny _ _ _ _ _ _;have k:∀b o,hh.get? b=some o->((hh.push (Zab us)).push (ZaF C hh.objs.size)).get? b=some o:=fun b o e=>Heap.get?_push_of_some _ (Heap.get?_push_of_some _ e);have hx:((hh.push (Zab us)).push (ZaF C hh.objs.size)).get? (hh.objs.size+1)=some (ZaF C hh.objs.size):=by heap_get
 have t1:Looks (model prog w) ((hh.push (Zab us)).push (ZaF C hh.objs.size)) (typeOf (.ref (hh.objs.size+1))) (.ref C):=(Looks.ld hx).andThen .now;have s1:Looks (model prog w) ((hh.push (Zab us)).push (ZaF C hh.objs.size)) (isSubtype (.ref C) (.ref C)) true:=by
  obtain⟨cd,hc,hm⟩:=x.mro;refine(looks_mroIn X ?_).keeps k;unfold mroIn;rw[hc,Option.bind_some,hm];simp
 have i1:=i0.keeps k;have b1:=(b0 (.ref (hh.objs.size+1))).keeps k;unfold isInstance callSpecial? specialOf
 repeat (first|with_reducible refine wpAny_call ?_|lk)
 refine codeAny_mono hq fun r s' z=>?_;rcases r with e|(v|_|_|_) <;> first|exact z|exact z.elim|skip
 obtain⟨rfl,z⟩:=z;exact wpAny_pure (wpAny_pure z)
theorem ZoB{us:List Value}(x:XTop K C G)(X:K.In s.heap)(hi:findIn K (.ref C) "__init__" = some (some (.ref f))) (hf:isFn K (.ref f)=true) (hl:us.length<=sizeLine)
  (hq:codeAny (model prog w) (A.under (.builtin "type.__call__" ⟨.ref C::us,[]⟩)) (.call (.ref f) ⟨.ref (s.heap.objs.size+1)::us,[]⟩) (InitBack (s.heap.objs.size+1) R)
   { s with heap:=(s.heap.push (Zab us)).push (ZaF C s.heap.objs.size) }) :
  codeAny (model prog w) A (.call (.ref C) ⟨us,[]⟩) R s:=ZeL x X hi (fun self=>bind_fn X self (beq_iff_eq.mp hf)) hl hq
end
end L2
namespace L2
open PySem PySem.Spec PyProof.Rows PySem.W Builtin Builtin.ObjectAttr
section
variable{prog:Program}{w:World}{A:Around}{E:Value->Shared->Prop}{K:Frag}{C G x:Addr}{s:Shared}
theorem ZoC{ox:Obj}{vs:Array Value}{t:Addr}{v:Value}{Q:Value->Shared->Prop}(y:XTop K C G)(X:K.In s.heap)(hx:s.heap.get? x=some ox)(hc:ox.cls=.ref C)(hd:ox.data=.fields vs)(h0:vs[0]?= some (.ref t))
  (h:Q .none { s with heap:=(s.heap.push (Zab [v])).update x (Obj.mapFields (·.setIfInBounds 0 (.ref s.heap.objs.size))) }):wpAny (model prog w) A (call (.builtin "ValueError.__init__") [.ref x,v]) Q E s:=by
 obtain⟨hh,g,d,tk,os⟩:=s;obtain⟨nm,q,N,bs,hdct,sn,sub,ab,col,dd,k0,k1,k2,k3,k5,hK⟩:=y.ob;have F0:=F.excBase_ValueError;have hx2:(hh.push (Zab [v])).get? x=some ox:=Heap.get?_push_of_some _ hx;refine wpAny_call (codeAny_call_builtin F0.init.plain F0.initEntry (wpAny_check_init_subT F0 (y.mid.tail X) (X _ _ hK) hx hc ?_));unfold Builtin.«BaseException.__init__»;refine wpAny_bind (wpAny_newTuple ?_);unfold Builtin.BaseException.bexcPut;refine wpAny_bind (wpAny_bind (wpAny_field (s:=⟨hh.push (Zab [v]),g,d,tk,os⟩) hx2 hd h0 (wpAny_bind (wpAny_setField (s:=⟨hh.push (Zab [v]),g,d,tk,os⟩) hx2 hd (Array.getElem?_eq_some_iff.mp h0).1 ?_))))
 wp_walk
 exact h
theorem Zo2{ox:Obj}{vs:Array Value}{name:Str}{v:Value}{Q:Unit->Shared->Prop}(y:XTop K C G)(X:K.In s.heap)(hx:s.heap.get? x=some ox)(hc:ox.cls=.ref C)(hd:ox.data=.fields vs)(hdn:ox.dict=none)
  (hs:findIn K (.ref C) "__setattr__" = some (some (.builtin "object.__setattr__"))) (ht:findIn K (.ref C) name=some none) (hh:hasDictIn K C=true)
  (h:∀h',h'.get? x=some { ox with dict:=some s.heap.objs.size }->h'.Ns1 s.heap.objs.size (fun z=>if z=name then some v else none)->(∀b o,b≠x->s.heap.get? b=some o->h'.get? b=some o)->Q () { s with heap:=h',toks:=s.toks+2 }) :
  wpAny (model prog w) A (setAttr (.ref x) name v) Q E s:=by
 have SF:=PySem.F.store_ValueError;have I:InstAt s.heap x ox C none:=⟨hx,hc,by unfold notCls;rw[hd],by rw[hdn];trivial⟩;obtain⟨cd,hcd,hmro⟩:=y.mro;have ne:cd.mro.isEmpty=false:=by rw[hmro];rfl
 have sub:Looks (model prog w) s.heap (isInstance (.ref x) (.type "object")) true:=I.type.andThen (looks_mroIn X (by unfold mroIn;rw[hcd,Option.bind_some,if_neg (by rw[ne];decide),hmro];rfl));have hm:Looks (model prog w) s.heap (mroOf (.ref C)) cd.mro:=(looks_clsIn X hcd).andThen .now;refine set_plain X I hs ?_;have X1:K.In ({ s with toks:=s.toks+1 }:Shared).heap:=X;refine codeAny_call_builtin SF.slot.plain SF.entry (@check_slot (model prog w) _ _ { s with toks:=s.toks+1 } "object.__setattr__" "object" "__setattr__" (.ref x) [.str name s.toks,v] [] _ SF.kind SF.split sub (SF.args (.ref x) (.str name s.toks) v) ?_);rw[osa_eq,refuse_eq];have I1:InstAt ({ s with toks:=s.toks+1 }:Shared).heap x ox C none:=I;refine wpAny_bind (wpAny_bind (I1.type.here (wpAny_bind (Looks.here (s:={ s with toks:=s.toks+1 }) hm ?_))));rw[hmro,refuseLoop_ref,refuseLoop_ref,SF.passes];refine wpAny_pure (wpAny_bind (I1.type.here (wpAny_bind (Looks.here (s:={ s with toks:=s.toks+1 }) (looks_findIn X ht) (wpAny_bind (wpAny_pure ?_))))));obtain⟨cd',hcd',hdict⟩:=any_some hh;rw[hcd] at hcd';cases hcd';obtain⟨oc,odi,oda,osl⟩:=ox;dsimp only at hc hd hdn;subst hc hd hdn;dsimp only;unfold storeInOwnDict ownDictForStores instanceDict;refine wpAny_bind (wpAny_pure (wpAny_bind (wpAny_bind (wpAny_loadPart (s:={ s with toks:=s.toks+1 }) hx (wpAny_bind (Looks.here (s:={ s with toks:=s.toks+1 }) (looks_clsIn X hcd) ?_))))));rw[hdict];refine wpAny_bind (wpAny_alloc ?_);have hx1:(s.heap.push emptyDict).get? x=some ⟨.ref C,none,.fields vs,osl⟩:=Heap.get?_push_of_some _ hx;refine wpAny_bind (wpAny_update (s:={ s with heap:=s.heap.push emptyDict,toks:=s.toks+1 }) hx1 ?_);refine wpAny_pure (a:=some s.heap.objs.size) ?_;have hxD:x≠s.heap.objs.size:=Nat.ne_of_lt (Heap.lt_size hx);have hD0:(s.heap.push emptyDict).get? s.heap.objs.size=some emptyDict:=Heap.get?_push_size _ rfl;generalize hg2:(s.heap.push emptyDict).update x (fun o=>{ o with dict:=some s.heap.objs.size })=g2;have hx2:g2.get? x=some ⟨.ref C,some s.heap.objs.size,.fields vs,osl⟩:=by
  rw[<- hg2];exact Heap.get?_update_self _ hx1 rfl
 have hD2:g2.get? s.heap.objs.size=some emptyDict:=by
  rw[<- hg2,Heap.get?_update_other _ _ hxD];exact hD0
 have hk2:∀b o,b≠x->s.heap.get? b=some o->g2.get? b=some o:=fun b o hb e=>by
  rw[<- hg2,Heap.get?_update_other _ _ (Ne.symm hb)];exact Heap.get?_push_of_some _ e
 have hN:g2.Ns s.heap.objs.size (fun _=>none):=⟨emptyDict,#[],_,hD2,rfl,(fun e he=>absurd he (by simp)),fun _=>rfl⟩;unfold storeInDict;refine wpAny_bind (wpAny_pure (wpAny_bind (wpAny_nsSet1 (s:={ s with heap:=g2,toks:=s.toks+1 }) (Heap.Ns1.of_empty hN) fun h' hn2 hs2=>?_)));obtain⟨oD,esD,epD,hoD,hdD,hcD⟩:=hn2.count (PySem.Within.cons name v PySem.Within.nil);refine wpAny_bind (wpAny_lookBehind hoD (by rw[hdD];exact pastItsLine_dict (Nat.le_trans hcD (by show 1<=sizeLine+1;decide))) (wpAny_pure ?_));exact h h' ((hs2.2 x hxD).trans hx2) hn2 fun b o hb e=>(hs2.2 b (Nat.ne_of_lt (Heap.lt_size e))).trans (hk2 b o hb e)
end
end L2
namespace L2
open PySem PySem.Spec PyProof.Rows PySem.W
def Zdg(x:Addr)(C:Value)(d:Option Addr):Heap->Prop:=fun h=>∃ox vs t,h.get? x=some ox/\ox.cls=C/\ox.dict=d/\ox.data=.fields vs/\4<vs.size/\vs[0]?= some (.ref t)/\vs[1]?= some .none
theorem Zdg.ok{P:Program}{w:World}{H:Hp}{h:Heap}{x:Addr}{C:Value}{d:Option Addr}(z:Zdg x C d h):ZaL P w H h x (.ext (Zdg x C d)):=by
 refine⟨z,?_,fun h1 h2 p k=>?_⟩
 ·obtain⟨ox,_,_,ho,_⟩:=z;exact⟨ox,ho⟩
 ·obtain⟨ox,vs,t,ho,r⟩:=p;exact⟨ox,vs,t,k ox ho,r⟩
theorem Zdg.xo{h:Heap}{x:Addr}{C:Value}{d:Option Addr}(z:Zdg x C d h):XO x C d h:=by
 obtain⟨ox,vs,t,ho,hc,hd,hf,hz,_⟩:=z;exact⟨ox,vs,ho,hc,hd,hf,hz⟩
theorem ZhE{M:Model}{A:Around}{E:Value->Shared->Prop}{s:Shared}{env:Env}{K:Frag}{C G:Addr}{x0:Sem Value}{Q:Flow->Shared->Prop}(hh:A.handled=none)(y:XTop K C G)
  (h:wpAny M A x0 (fun v s1=>∃x d,v=.ref x/\K.In s1.heap/\Zdg x (.ref C) d s1.heap/\E (.ref x) s1) E s):wpAny M A (raiseStmt env (some x0) none) Q E s:=by
 unfold raiseStmt;refine wpAny_bind (wpAny_mono h (fun v s1 q=>?_) fun _ _ z=>z);obtain⟨x,d,rfl,X,⟨ox,vs,t,ho,hc,hd,hf,hz,h0,h1⟩,hE⟩:=q;obtain⟨cd,hcd,hmro⟩:=y.mro;have ty:Looks M s1.heap (typeOf (.ref x)) (.ref C):=hc ▸ (Looks.ld ho).andThen .now;have isb:Looks M s1.heap (isInstance (.ref x) (.type "BaseException")) true:=ty.andThen (looks_mroIn X (by unfold mroIn;rw[hcd,Option.bind_some,hmro];rfl));have nt:Looks M s1.heap (isType (.ref x)) false:=by
  intro A' Q' E' s' k q;unfold isType loadHead;refine wpAny_bind (wpAny_loadPart (k _ _ ho) ?_);rw[hf];exact wpAny_pure q
 obtain⟨nm,q,N,bs,hdct,sn,sub,ab,col,dd,k0,k1,k2,k3,k5,hK⟩:=y.ob;have tt:Looks M s1.heap (typeOf (.ref C)) (.type "type"):=(Looks.ld (X _ _ hK)).andThen .now;refine wpAny_bind (wpAny_pure (wpAny_bind (wpAny_holding ?_)));unfold excFromValue isExcClass;refine wpAny_bind (wpAny_bind (nt.here ?_));rw[if_neg Bool.false_ne_true];refine wpAny_pure ?_;rw[if_neg Bool.false_ne_true];refine wpAny_bind (isb.here ?_);rw[if_pos rfl];refine wpAny_pure ?_;refine wpAny_bind (nt.here ?_);rw[if_neg Bool.false_ne_true];unfold raisedInstance;refine wpAny_bind (wpAny_bind (ty.here (wpAny_bind (tt.here ?_))));rw[if_pos (by decide)];refine wpAny_pure ?_;unfold setFlight;refine wpAny_bind (wpAny_bind (wpAny_field ho hf h1 ?_));rw[if_neg (by decide)];exact wpAny_pure (wpAny_raiseNew_none hh hE)
structure XMk(P:Program)(w:World)(K:Frag)(mg:Str->Option Value)(base:Heap)(C G:Addr)(x:Str)(ps:List Str)(j:Nat)(sp:Sp):Prop where
 ex:∃f fd,FnOk P w K mg base CX0 j f fd ps sp/\Binds K fd ps []/\findIn K (.ref C) "__init__" = some (some (.ref f))/\isFn K (.ref f)=true
 top:XTop K C G
 nm:mg x=some (.ref C)
def Zmx(C:Addr)(sp:Sp)(E:XKS)(t:TA):TS:=fun _ σ H=>t σ H fun vs H1=>vs.length<=1000/\∀y,H1 y=none->sp (.ref y::vs) (upd H1 y (.ext (Zdg y (.ref C) none)))
 (fun v H2=>v=.non/\∃d,H2 y=some (.ext (Zdg y (.ref C) d))/\E σ (.ref C) d (upd H2 y (.ext (XO y (.ref C) d)))) E0
section
variable{X:Cx}{j k:Nat}{C G:Addr}{ps:List Str}{sp:Sp}{E:XKS}{x:Str}{p pos cpos:Pos}{e:Expr}{es:List Expr}{t:TA}
theorem Zec(Z:XMk X.prog X.w X.K X.mg X.base C G x ps j sp)(hT:Ze9 X E)(hr:Room k X.A)(hg:Gl X x)(ha:PA X (e::es) t)(hk:j+1<=k:=by decide)(hdb:(x == ("__debug__" : Str))=false:=by decide)
  (he:starEach (e::es) X.env=(false,eval e X.env)::starEach es X.env:=by rfl) (hpl:(backTo cpos (starEach es X.env)).any (·.1)=false:=by rfl) :
  PS X (.Raise (some (.Call (.Name x p) (e::es) [] cpos)) none pos) (Zmx C sp E t):=by
 intro pins s σ H D I h;obtain⟨f,fd,F,b,hi,hfn⟩:=Z.ex;show wpAny _ _ (standAt pos >>= fun _=>raiseStmt X.env (some (eval (.Call (.Name x p) (e::es) [] cpos) X.env >>= fun v=>standAt pos >>= fun _=>pure v)) none) _ _ s;refine wpAny_bind (wpAny_standAt (ZhE (hr.hd) Z.top (wpAny_bind ?_)));refine wpAny_Call_Name_kw (ZcF I hg Z.nm ?_ hdb);refine PySem.W.callWith_K (h₀ := X.base) I.ok.mod.kin Z.top.kp (thn (ha cpos pins s σ H _ I h) fun us s1 ⟨vs,H1,I1,r,hl,q⟩=>⟨I1.kIn,?_⟩) he hpl;have hlu:us.length<=sizeLine:=by rw[<- r.length];exact Nat.le_trans hl (by decide)
 have hy:H1 (s1.heap.objs.size+1)=none:=I1.hok.fresh (Nat.le_succ _);have hsp:=q (s1.heap.objs.size+1) hy;have hx:((s1.heap.push (Zab us)).push (ZaF C s1.heap.objs.size)).get? (s1.heap.objs.size+1)=some (ZaF C s1.heap.objs.size):=by heap_get
 have I2:Inv X pins σ (upd H1 (s1.heap.objs.size+1) (.ext (Zdg (s1.heap.objs.size+1) (.ref C) none))) { s1 with heap:=(s1.heap.push (Zab us)).push (ZaF C s1.heap.objs.size) }:=by
  have a:=I1.kept (t':=s1.toks) (h':=s1.heap.push (Zab us)) fun b u q=>Heap.get?_push_of_some _ q;exact a.laid (t':=s1.toks) (fun b u q=>Heap.get?_push_of_some _ q) (by show(s1.heap.push (Zab us)).objs.size<=_;rw[Heap.size_push];exact Nat.le_refl _) (Zdg.ok ⟨_,_,_,hx,rfl,rfl,rfl,by simp,rfl,rfl⟩)
 have r2:Vals (V.ref (s1.heap.objs.size+1)::vs) (Value.ref (s1.heap.objs.size+1)::us):=.cons rfl r;have hlen:(Value.ref (s1.heap.objs.size+1)::us).length=ps.length:=by rw[<- r2.length];exact F.len _ _ _ _ hsp
 have hbb:=b ({ s1 with heap:=(s1.heap.push (Zab us)).push (ZaF C s1.heap.objs.size) }) (Value.ref (s1.heap.objs.size+1)::us) I2.kIn (by rw[List.append_nil];exact hlen);rw[List.append_nil] at hbb;have hroom:Room (j+1) X.A:=hr.mono hk;refine wpAny_call (ZoB Z.top I1.kIn hi hfn hlu (codeAny_mono (F.run _ X.stack _ _ ⟨Value.ref (s1.heap.objs.size+1)::us,[]⟩ (Value.ref (s1.heap.objs.size+1)::us) _ _ E0 (hroom.make C us []) (I2.env0.make C us []) hbb r2 hsp) fun r s' hq'=>?_));cases r with
 | error e=>exact False.elim hq'
 | ok fl =>
  cases fl with
  | ret u =>
   obtain⟨v,H3,I3,rv,ev,d,hd,hE⟩:=I2.after hq';subst ev;refine⟨rv,wpAny_bind (wpAny_standAt (wpAny_pure ⟨_,d,rfl,I3.kIn,(I3.hok _ _ hd).1,?_⟩))⟩;have xn:=(I3.hok _ _ hd).1;have I4:=I3.write (x:=s1.heap.objs.size+1) (e:=s1.heap.objs.size+1) (o:=.ext (XO (s1.heap.objs.size+1) (.ref C) d)) (t':=s'.toks) (h':=s'.heap) (by rw[hd];trivial) (.inl rfl) (fun b u _ z=>z) (by obtain⟨ox,_,_,ho,_⟩:=xn;exact⟨ox,ho⟩) (Zdg.xo xn).ext_ok;refine hT pins σ _ s' _ (.ref C) d I4 Zb (fun _=>Nat.le_trans I1.sz (Nat.le_succ _)) (.inl ?_) hE;obtain⟨ox,vs',t',ho,_,_,hf,_,_,h1⟩:=xn;exact⟨ox,vs',ho,hf,h1⟩
  | next=>exact False.elim hq'
  | brk=>exact False.elim hq'
  | cont=>exact False.elim hq'
end
section
variable{X:Cx}{pins:List (Addr×Obj)}{σ : St}{H:Hp}{s:Shared}{x:Addr}{C:Value}{d:Option Addr}
theorem Inv.pokeN{h':Heap}{t':Nat}(I:Inv X pins σ H s)(he:H x=some (.ext (Zdg x C d)))(k:∀b u,b≠x->s.heap.get? b=some u->h'.get? b=some u)(z:Zdg x C d h'):Inv X pins σ H { s with heap:=h',toks:=t' }:=by
 have:=I.write (x:=x) (e:=x) (o:=.ext (Zdg x C d)) (h':=h') (t':=t') (by rw[he];trivial) (.inl rfl) k (by obtain⟨ox,_,_,ho,_⟩:=z;exact⟨ox,ho⟩) z.ok
 rwa [Zho he] at this
end
structure XBas(K:Frag)(G:Addr):Prop where
 ga:specialIn K (.ref G) "__getattribute__" = some (some (.builtin "type.__getattribute__"))
 rd:readsIn K G (.type "type")=true
 fi:findCls K (.ref G) (.type "type") "__init__" = some (.val (.builtin "ValueError.__init__"))
def Zny(K:Frag)(t:TA):TE:=fun σ H Q=>t σ H fun vs H1=>∃y C G d v,vs=[.ref y,v]/\H1 y=some (.ext (Zdg y (.ref C) d))/\XTop K C G/\Q .non H1
section
variable{X:Cx}{C G:Addr}{g:Str}{p pos apos:Pos}{e:Expr}{es:List Expr}{t:TA}
theorem Zfj{pl:Sem Bool}(B:XBas X.K G)(hg:Gl X g)(hm:X.mg g=some (.ref G))(ha:PA X (e::es) t)(hdb:(g == ("__debug__" : Str))=false:=by decide)
  (he:starEach (e::es) X.env=(false,eval e X.env)::starEach es X.env:=by rfl) (hpl:(backTo pos (starEach es X.env)).any (·.1)=false:=by rfl)
  (ht:eval (.Call (.Attribute (.Name g p) "__init__" apos) (e::es) [] pos) X.env=(do
   let ov <- eval (.Name g p) X.env
   standAt apos.atName
   let (f,first) <- holding [ov] (getMethod ov "__init__" pl)
   callWith pos f first (backTo pos (starEach (e::es) X.env)) (backToKw pos (keywordEach [] X.env))):=by rfl) :
  PE X (.Call (.Attribute (.Name g p) "__init__" apos) (e::es) [] pos) (Zny X.K t):=by
 intro pins s σ H Q I h;refine PySem.W.methodCall_KW (pl:=pl) (ZcF I hg hm ?_ hdb) ht;refine method_cls I.kIn B.ga (cls_value I.kIn B.rd B.fi rfl ?_);refine PyProof.Rows.callWith_builtin1 (thn (ha pos pins _ σ H _ (I.tok _) h) fun us s1 ⟨vs,H1,I1,r,y,C,G',d,v,ev,hy,T,q⟩=>?_) he hpl;subst ev;obtain⟨u1,u2,rfl,r1,r2⟩:=Vals.two r;obtain rfl:u1=Value.ref y:=r1;have xn:=(I1.hok _ _ hy).1;obtain⟨ox,vs',t',ho,hc,hd,hf,hz,h0,h1⟩:=id xn;refine ZoC T I1.kIn ho hc hf h0 ?_;have ho2:(s1.heap.push (Zab [u2])).get? y=some ox:=Heap.get?_push_of_some _ ho;have Ia:=I1.kept (t':=s1.toks) (h':=s1.heap.push (Zab [u2])) fun b u q=>Heap.get?_push_of_some _ q;refine⟨.non,H1,Ia.pokeN (t':=s1.toks) hy (fun b u hb z=>(Heap.get?_update_other _ _ (Ne.symm hb)).trans z) ⟨_,_,s1.heap.objs.size,ZfJ 0 _ ho2 hf,(Obj.cls_mapFields ..).trans hc,(Zhz ..).trans hd,Obj.data_mapFields hf _,by simpa using hz,?_,?_⟩,rfl,q⟩
 ·rw[Array.getElem?_setIfInBounds_self_of_lt (by lia)]
 ·rw[Array.getElem?_setIfInBounds_ne (by decide)];exact h1
structure XFld(K:Frag)(C:Addr)(f:Str):Prop where
 sa:findIn K (.ref C) "__setattr__" = some (some (.builtin "object.__setattr__"))
 no:findIn K (.ref C) f=some none
 hd:hasDictIn K C=true
 ga:findIn K (.ref C) "__getattribute__" = some (some (.builtin "BaseException.__getattribute__"))
 gt:findIn K (.ref C) "__getattr__" = some none
 mb:mroIn K C (.type "BaseException")=some true
end
def Zod(K:Frag)(ta tv:TE)(f:Str):TS:=fun D σ H=>tv σ H fun y H1=>ta σ H1 fun x H2=>∃a C G,x=.ref a/\H2 a=some (.ext (Zdg a (.ref C) none))/\XTop K C G/\XFld K C f /\
 ∀dx,H2 dx=none->dx≠a->D.nx σ (upd (upd H2 dx (.xd [(f,y)])) a (.ext (Zdg a (.ref C) (some dx))))
section
variable{X:Cx}{o e value:Expr}{f:Str}{pos pos':Pos}{ta tv:TE}
theorem Zgu(ha:PE X o ta)(hv:PE X value tv)(hs:swapsWith value (some (.Attribute o f pos')) pos.line X.env=pure false):PS X (.Assign [.Attribute o f pos'] value pos) (Zod X.K ta tv f):=by
 intro pins s σ H D I h;refine plainObj_wpAny_Assign_Attribute (thn (hv pins s σ H _ I h) fun u s1 ⟨y,H1,I1,ry,q⟩=>thn (ha pins s1 σ H1 _ I1 q) fun ov s2 ⟨x,H2,I2,rx,a,C,G,ex,hy,T,F,q2⟩=>?_) hs;subst ex;obtain rfl:ov=Value.ref a:=rx;obtain⟨ox,vs,t,ho,hc,hd,hf,hz,h0,h1⟩:=(I2.hok _ _ hy).1;have hlt:a<s2.heap.objs.size:=I2.hok.lt hy;refine Zo2 T I2.kIn ho hc hf hd F.sa F.no F.hd fun h' e1 e2 e3=>?_;have hdn:H2 s2.heap.objs.size=none:=I2.hok.fresh (Nat.le_refl _);have hne:s2.heap.objs.size≠a:=Nat.ne_of_gt hlt;refine⟨σ,_,?_,q2 _ hdn hne⟩;have hob:ZaL X.prog X.w (upd H2 s2.heap.objs.size (.xd [(f,y)])) h' s2.heap.objs.size (.xd [(f,y)]):=by
  refine⟨_,e2,fun z=>?_⟩;show ZfH (List.lookup z [(f,y)]) (if z=f then some u else none)
  by_cases hz':z=f
  ·subst hz';simp only[List.lookup,beq_self_eq_true,if_true];exact ry
  ·rw[if_neg hz'];have:(z == f)=false:=beq_eq_false_iff_ne.mpr hz';simp only[List.lookup,this]
   trivial
 have un1:Un X.fs [] H2 (upd (upd H2 s2.heap.objs.size (.xd [(f,y)])) a (.ext (Zdg a (.ref C) (some s2.heap.objs.size)))) s2.heap h':=by
  have hna:∀b,H2 b=none->b≠a:=fun b n z=>by rw[z,hy] at n;cases n
  have hnd:∀b ob,s2.heap.get? b=some ob->b≠s2.heap.objs.size:=fun b ob e=>Nat.ne_of_lt (Heap.lt_size e);refine⟨fun b ob e n _ _=>e3 b ob (hna b n) e,fun b ob e n _ _=>⟨ob.slots,e3 b ob (hna b n) e⟩,fun b ob e n _=>by rw[Zu (hna b n),Zu (hnd b ob e)];exact n,fun b ob e _=>?_,fun b xs e=>?_,fun b ob u' e=>?_,fun b ps e=>?_⟩
  ·by_cases hb:b=a
   ·subst hb;exact⟨_,e1⟩
   ·exact⟨ob,e3 b ob hb e⟩
  ·have h1':b≠a:=fun z=>by rw[z,hy] at e;cases e
   have h2':b≠s2.heap.objs.size:=fun z=>by rw[z,hdn] at e;cases e
   rw[Zu h1',Zu h2'];exact e
  ·have h1':b≠a:=fun z=>by rw[z,hy] at e;cases e
   have h2':b≠s2.heap.objs.size:=fun z=>by rw[z,hdn] at e;cases e
   rw[Zu h1',Zu h2'];exact e
  ·have h1':b≠a:=fun z=>by rw[z,hy] at e;cases e
   have h2':b≠s2.heap.objs.size:=fun z=>by rw[z,hdn] at e;cases e
   exact⟨#[],by rw[Zu h1',Zu h2',e];simp⟩
 refine I2.un (t':=s2.toks+2) un1 fun b u' hb=>?_;by_cases hba:b=a
 ·subst hba;rw[Zb] at hb;cases hb;exact Zdg.ok ⟨_,vs,t,e1,hc,rfl,hf,hz,h0,h1⟩
 ·rw[Zu hba] at hb;by_cases hbd:b=s2.heap.objs.size
  ·subst hbd;rw[Zb] at hb;cases hb;exact hob.stay (fun c v _ q=>q) (fun c q=>by
    have:c≠a:=fun z=>by
     subst z;rw[Zu hne.symm,hy] at q;cases q
    rw[Zu this];exact q) (fun c xs q=>by
    have:c≠a:=fun z=>by
     subst z;rw[Zu hne.symm,hy] at q;cases q
    rw[Zu this];exact q)
  ·rw[Zu hbd] at hb;have keepH:∀c z,H2 c=some z->c≠a->upd (upd H2 s2.heap.objs.size (.xd [(f,y)])) a (.ext (Zdg a (.ref C) (some s2.heap.objs.size))) c=some z:=fun c z hc' hca=>by
    have:c≠s2.heap.objs.size:=fun w=>by rw[w,hdn] at hc';cases hc'
    rw[Zu hca,Zu this];exact hc'
   refine(I2.hok b u' hb).stay (fun c v hcc q=>e3 c v ?_ q) (fun c q=>keepH c _ q ?_) (fun c xs q=>keepH c _ q ?_)
   ·rintro rfl;rcases hcc with z|z
    ·exact hba z.symm
    ·rw[hy] at z;cases z
   ·rintro rfl;rw[hy] at q;cases q
   ·rintro rfl;rw[hy] at q;cases q
end
theorem Zhy{prog:Program}{w:World}{A:Around}{E:Value->Shared->Prop}{s:Shared}{K:Frag}{x:Addr}{C c:Value}{Q:Value->Shared->Prop}(X:K.In s.heap)(ty:∀M,Looks M s.heap (typeOf (.ref x)) C)(hne:(C == c)=false)(e:kitCls K C c=some true)
  (h:Q (.bool true) s):wpAny (model prog w) A (call (.builtin "isinstance") [.ref x,c]) Q E s:=by
 refine call_isinstance (S:=fun _ R s=>(K.In s.heap/\∀M,Looks M s.heap (typeOf (.ref x)) C)/\R (.ok (.ret (.bool true))) s) (fun prog w A R s hs=>isinstance_outer ?_ (fun z=>nomatch z)) ⟨⟨X,ty⟩,h⟩
 ·obtain⟨⟨X,LT⟩,hq⟩:=hs;obtain⟨h0,g,d,tt,os⟩:=s;unfold Builtin.«isinstance.nested»;refine wpAny_bind ((LT _).at ?_);rw[if_neg (by rw[hne];decide)];obtain⟨hty,his,hsub⟩:=kit_cls (M:=model prog w) X e;refine wpAny_bind (hty.at ?_);rw[if_pos (by decide)]
  k_delta "plainIsInstance"
  refine wpAny_bind (wpAny_bind (his.at ?_));simp only[Bool.not_true,Bool.false_eq_true,if_false];refine wpAny_bind (((LT _).andThen hsub).at ?_)
  first|exact wpAny_pure (wpAny_pure hq)|(simp only[if_true];first|exact wpAny_pure (wpAny_pure hq)|exact wpAny_pure hq)
section
variable{prog:Program}{w:World}{A:Around}{K:Frag}{C G:Addr}{R:Result->Shared->Prop}{s:Shared}
theorem ZnN{us:List Value}(x:XTop K C G)(X:K.In s.heap)(hi:findIn K (.ref C) "__init__" = some (some (.builtin "ValueError.__init__"))) (hl:us.length<=sizeLine)
  (hq:R (.ok (.ret (.ref (s.heap.objs.size+1)))) { s with heap:=(((s.heap.push (Zab us)).push (ZaF C s.heap.objs.size)).push (Zab us)).update (s.heap.objs.size+1) (Obj.mapFields (·.setIfInBounds 0 (.ref (s.heap.objs.size+2)))) }) :
  codeAny (model prog w) A (.call (.ref C) ⟨us,[]⟩) R s:=by
 have F0:=F.excBase_ValueError;refine ZeL x X hi (fun self=>Looks.of_pure (F0.init.bind self)) hl ?_;obtain⟨hh,g,d,tk,os⟩:=s;obtain⟨nm,q,N,bs,hdct,sn,sub,ab,col,dd,k0,k1,k2,k3,k5,hK⟩:=x.ob;have k:∀b o,hh.get? b=some o->((hh.push (Zab us)).push (ZaF C hh.objs.size)).get? b=some o:=fun b o e=>Heap.get?_push_of_some _ (Heap.get?_push_of_some _ e);have hx:((hh.push (Zab us)).push (ZaF C hh.objs.size)).get? (hh.objs.size+1)=some (ZaF C hh.objs.size):=by heap_get
 have X2:=X.keeps k;refine codeAny_call_builtin F0.init.plain F0.initEntry (wpAny_check_init_subT F0 (x.mid.tail X2) (X2 _ _ hK) hx rfl ?_);have hx2:(((hh.push (Zab us)).push (ZaF C hh.objs.size)).push (Zab us)).get? (hh.objs.size+1)=some (ZaF C hh.objs.size):=Heap.get?_push_of_some _ hx;unfold Builtin.«BaseException.__init__»;refine wpAny_bind (wpAny_newTuple ?_ hl);unfold Builtin.BaseException.bexcPut;refine wpAny_bind (wpAny_bind (wpAny_field (s:=⟨((hh.push (Zab us)).push (ZaF C hh.objs.size)).push (Zab us),g,d,tk,os⟩) hx2 rfl (x:=.ref hh.objs.size) rfl (wpAny_bind (wpAny_setField (s:=⟨((hh.push (Zab us)).push (ZaF C hh.objs.size)).push (Zab us),g,d,tk,os⟩) hx2 rfl (by simp) ?_))))
 wp_walk
 refine⟨rfl,?_⟩;have e2:((hh.push (Zab us)).push (ZaF C hh.objs.size)).objs.size=hh.objs.size+2:=by rw[Heap.size_push,Heap.size_push]
 rw[<- e2] at hq;exact hq
end
def Zl2(C:Addr)(E:XKS)(t:TA):TS:=fun _ σ H=>t σ H fun vs H1=>vs.length<=1000/\∀y,H1 y=none->E σ (.ref C) none (upd H1 y (.ext (XO y (.ref C) none)))
section
variable{X:Cx}{j k:Nat}{C G:Addr}{E:XKS}{x:Str}{p pos cpos:Pos}{e:Expr}{es:List Expr}{t:TA}
theorem Zbj(Z:XTop X.K C G)(hi:findIn X.K (.ref C) "__init__" = some (some (.builtin "ValueError.__init__"))) (nm:X.mg x=some (.ref C)) (hT:Ze9 X E) (hr:Room k X.A) (hg:Gl X x) (ha:PA X (e::es) t) (hdb:(x == ("__debug__" : Str))=false:=by decide)
  (he:starEach (e::es) X.env=(false,eval e X.env)::starEach es X.env:=by rfl) (hpl:(backTo cpos (starEach es X.env)).any (·.1)=false:=by rfl) :
  PS X (.Raise (some (.Call (.Name x p) (e::es) [] cpos)) none pos) (Zl2 C E t):=by
 intro pins s σ H D I h;show wpAny _ _ (standAt pos >>= fun _=>raiseStmt X.env (some (eval (.Call (.Name x p) (e::es) [] cpos) X.env >>= fun v=>standAt pos >>= fun _=>pure v)) none) _ _ s;refine wpAny_bind (wpAny_standAt (ZhE (hr.hd) Z (wpAny_bind ?_)));refine wpAny_Call_Name_kw (ZcF I hg nm ?_ hdb);refine PySem.W.callWith_K (h₀ := X.base) I.ok.mod.kin Z.kp (thn (ha cpos pins s σ H _ I h) fun us s1 ⟨vs,H1,I1,r,hl,q⟩=>⟨I1.kIn,?_⟩) he hpl;have hlu:us.length<=sizeLine:=by rw[<- r.length];exact Nat.le_trans hl (by decide)
 have hy:H1 (s1.heap.objs.size+1)=none:=I1.hok.fresh (Nat.le_succ _);have hE:=q (s1.heap.objs.size+1) hy;refine wpAny_call (ZnN Z I1.kIn hi hlu ?_);have hx:((s1.heap.push (Zab us)).push (ZaF C s1.heap.objs.size)).get? (s1.heap.objs.size+1)=some (ZaF C s1.heap.objs.size):=by heap_get
 have hx2:(((s1.heap.push (Zab us)).push (ZaF C s1.heap.objs.size)).push (Zab us)).get? (s1.heap.objs.size+1)=some (ZaF C s1.heap.objs.size):=Heap.get?_push_of_some _ hx;have I2:Inv X pins σ (upd H1 (s1.heap.objs.size+1) (.ext (XO (s1.heap.objs.size+1) (.ref C) none))) { s1 with heap:=(s1.heap.push (Zab us)).push (ZaF C s1.heap.objs.size) }:=by
  have a:=I1.kept (t':=s1.toks) (h':=s1.heap.push (Zab us)) fun b u q=>Heap.get?_push_of_some _ q;exact a.laid (t':=s1.toks) (fun b u q=>Heap.get?_push_of_some _ q) (by show(s1.heap.push (Zab us)).objs.size<=_;rw[Heap.size_push];exact Nat.le_refl _) (XO.ext_ok ⟨_,_,hx,rfl,rfl,rfl,by simp⟩)
 have I3:=I2.kept (t':=s1.toks) (h':=((s1.heap.push (Zab us)).push (ZaF C s1.heap.objs.size)).push (Zab us)) fun b u q=>Heap.get?_push_of_some _ q;have I4:=I3.poke (t':=s1.toks) (h':=(((s1.heap.push (Zab us)).push (ZaF C s1.heap.objs.size)).push (Zab us)).update (s1.heap.objs.size+1) (Obj.mapFields (·.setIfInBounds 0 (.ref (s1.heap.objs.size+2))))) Zb (fun b u hb z=>(Heap.get?_update_other _ _ (Ne.symm hb)).trans z) (XO.put ⟨_,_,hx2,rfl,rfl,rfl,by simp⟩ 0 _);have hget:=ZfJ 0 (.ref (s1.heap.objs.size+2)) hx2 rfl;refine wpAny_bind (wpAny_standAt (wpAny_pure ⟨_,none,rfl,I4.kIn,⟨_,_,s1.heap.objs.size+2,hget,rfl,rfl,rfl,by simp,rfl,rfl⟩,?_⟩));exact hT pins σ _ _ _ (.ref C) none I4 Zb (fun _=>Nat.le_trans I1.sz (Nat.le_succ _)) (.inl ⟨_,_,hget,rfl,rfl⟩) hE
end
section
variable{X:Cx}
theorem ZiR:ZbR X (.builtin "isinstance") (fun xs H Q=>∃a oe C D,xs=[.ref a,.ref D]/\H a=some (Known a oe)/\oe.cls=.ref C/\C≠D/\isClsIn X.K D=true/\typeIn X.K (.ref D)=some (.type "type")/\mroIn X.K C (.ref D)=some true/\Q (.bl true) H):=by
 intro pins s σ H xs us Q I r h;obtain⟨a,oe,C,D,rfl,hk,hc,hne,h1,h2,h3,q⟩:=h;obtain⟨u,v,rfl,rx,ry⟩:=Vals.two r;obtain rfl:u=Value.ref a:=rx;obtain rfl:v=Value.ref D:=ry;have ho:s.heap.get? a=some oe:=(I.hok a _ hk).1;refine Zhy I.kIn (C:=.ref C) (fun M=>hc ▸ (Looks.ld ho).andThen .now) (by simpa using hne) ?_ ⟨.bl true,H,I,rfl,q⟩;unfold kitCls;dsimp only;unfold isClsIn at h1;rw[h1,h2,if_pos (by decide)];exact h3
theorem Zjg:ZbR X (.builtin "isinstance") (fun xs H Q=>∃a oe C n,xs=[.ref a,.ty n]/\H a=some (Known a oe)/\oe.cls=.ref C/\kitMeta n=true/\mroIn X.K C (.type n)=some true/\Q (.bl true) H):=by
 intro pins s σ H xs us Q I r h;obtain⟨a,oe,C,n,rfl,hk,hc,h1,h3,q⟩:=h;obtain⟨u,v,rfl,rx,ry⟩:=Vals.two r;obtain rfl:u=Value.ref a:=rx;obtain rfl:v=Value.type n:=ry;have ho:s.heap.get? a=some oe:=(I.hok a _ hk).1;refine Zhy I.kIn (C:=.ref C) (fun M=>hc ▸ (Looks.ld ho).andThen .now) rfl ?_ ⟨.bl true,H,I,rfl,q⟩;unfold kitCls;dsimp only;rw[if_pos h1];exact h3
end
end L2
namespace L2
open PySem PySem.Spec PyProof.Rows
abbrev TJ:=St->Hp->Str->(Str->Hp->Prop)->Prop
def PJ(X:Cx)(es:List Expr)(t:TJ):Prop := ∀(pins:List (Addr×Obj))(s:Shared)(σ : St)(H:Hp)(acc:Str)(Q:Str->Hp->Prop),Inv X pins σ H s->t σ H acc Q ->
 wpAny (model X.prog X.w) X.A (joinParts acc (evalEach es X.env)) (EP X pins σ fun v H'=>∃z,v=.str z/\Q z H') X.xe s
def Zoe:TJ:=fun _ H acc Q=>acc.length<=sizeLine/\Q acc H
def Znr(te:TE)(t:TJ):TJ:=fun σ H acc Q=>te σ H fun v H1=>∃y,v=.str y/\(acc++y).length<=sizeLine/\t σ H1 (acc++y) Q
def tFv(tv:TE):TE:=fun σ H Q=>tv σ H fun v H1=>(∃z,v=.str z/\z.length<=sizeLine/\Q (.str z) H1)\/∃i:Int,v=.int i/\i.natAbs.log2<1920/\Q (.str (Str.ofString (toString i))) H1
def ZlS(t:TJ):TE:=fun σ H Q=>t σ H Str.empty fun z H'=>Q (.str z) H'
section
variable{X:Cx}{e:Expr}{es:List Expr}{te:TE}{t:TJ}{pos:Pos}
theorem ZeG:PJ X [] Zoe:=fun _ _ _ H acc _ I h=>joinParts_nil ⟨.str acc,H,I.tok _,⟨_,rfl⟩,acc,rfl,h.2⟩ h.1
theorem Zbt(he:PE X e te)(hr:PJ X es t)(hs:evalEach (e::es) X.env=eval e X.env::evalEach es X.env:=by rfl):PJ X (e::es) (Znr te t):=by
 intro pins s σ H acc Q I h;rw[hs];refine joinParts_cons (thn (he pins s σ H _ I h) fun u s1 ⟨v,H1,I1,r,y,ev,hz,q⟩=>?_);subst ev;obtain⟨tk,rfl⟩:=r;exact⟨hz,hr pins s1 σ H1 _ Q I1 q⟩
theorem ZnR(he:PE X e te):PE X (.FormattedValue e (-1) none pos) (tFv te):=by
 intro pins s σ H Q I h;refine FormattedValue_plain (thn (he pins s σ H _ I h) fun u s1 ⟨v,H1,I1,r,q⟩=>?_);rcases q with⟨z,rfl,hz,q⟩|⟨i,rfl,hi,q⟩
 ·obtain⟨tk,rfl⟩:=r;exact formatField_str (fun t' tk=>⟨.str z,H1,I1.tok _,⟨_,rfl⟩,q⟩) hz
 ·obtain⟨tk,rfl⟩:=r;exact formatField_int_small hi ⟨.str _,H1,I1.tok _,⟨_,rfl⟩,q⟩
theorem ZbS{e2:Expr}(h:PJ X (e::e2::es) t):PE X (.JoinedStr (e::e2::es) pos) (ZlS t):=by
 intro pins s σ H Q I hw;refine JoinedStr_many (thn (h pins s σ H _ _ I hw) fun u s1 ⟨v,H1,I1,r,z,ev,q⟩=>⟨v,H1,I1,r,by rw[ev];exact q⟩)
end
end L2
namespace L2
open PySem PySem.Spec PyProof.Rows PySem.W
variable{X:Cx}
theorem Zif{K:Frag}(hK:X.K=K):ZbR X (.builtin "isinstance") (fun xs H Q=>∃a oe C D,xs=[.ref a,.ref D]/\H a=some (Known a oe)/\oe.cls=.ref C/\C≠D/\isClsIn K D=true/\typeIn K (.ref D)=some (.type "type")/\mroIn K C (.ref D)=some true/\Q (.bl true) H):=by
 subst hK;exact ZiR
theorem ZhO{K:Frag}(hK:X.K=K):ZbR X (.builtin "isinstance") (fun xs H Q=>∃a oe C n,xs=[.ref a,.ty n]/\H a=some (Known a oe)/\oe.cls=.ref C/\kitMeta n=true/\mroIn K C (.type n)=some true/\Q (.bl true) H):=by
 subst hK;exact Zjg
def ZiW(h:Heap)(d:Addr)(es:Array DictEntry)(ep:Nat):Prop := ∃o,h.get? d=some o/\o.ExactDict/\o.data=.dict es ep
theorem ZiW.tyIs{s:Shared}{d:Addr}{es:Array DictEntry}{ep:Nat}(x:ZiW s.heap d es ep):s.TypeIs (.ref d) "dict" := let ⟨o,ho,hc,_⟩:=x;⟨o,ho,hc.1⟩
theorem ZiW.to{h h':Heap}{d:Addr}{es:Array DictEntry}{ep:Nat}(x:ZiW h d es ep)(e:∀o,h.get? d=some o->h'.get? d=some o):ZiW h' d es ep:=let ⟨o,ho,r⟩:=x;⟨o,e _ ho,r⟩
section
variable{prog:Program}{w:World}{A:Around}{E:Value->Shared->Prop}{s:Shared}{it d:Addr}{es:Array DictEntry}{i ep:Nat}
theorem Zk3{Q:Value->Shared->Prop}(lo:(d == sysModules)=false)(x:ZiW s.heap d es ep)
  (q:Q (.ref s.heap.objs.size) { s with heap:=s.heap.push { cls:=.type "dict_keyiterator",data:=.fields #[.ref d,.int 0 0,.int es.size 0,.int ep 0] } }):wpAny (model prog w) A (pyIter (.ref d)) Q E s:=by
 obtain⟨o,ho,hx,hdat⟩:=id x;have hT:=x.tyIs;refine wpAny_pyIter_slot hT PySem.F.slot_dict_iter (wpAny_call_entry PySem.F.slot_dict_iter hT PySem.F.entry_dict_iter ?_ (PySem.F.args_dict_iter_1 _));unfold Builtin.«dict.__iter__»;refine wpAny_bind ?_;unfold Builtin.Dict.dictSlotNone;refine wpAny_bind (wpAny_notOrdered_dict hT ?_);refine wpAny_pure (?_:wpAny _ _ (Builtin.Dict.showsAll d >>= _) _ _ s);unfold Builtin.Dict.showsAll;rw[if_neg (by rw[lo];exact Bool.false_ne_true)];refine wpAny_bind (wpAny_pure (wpAny_bind (wpAny_dictEntries ho hdat (wpAny_bind (wpAny_dictEpoch ho hdat ?_)))));exact wpAny_bind (wpAny_newObj_type (wpAny_pure ⟨_,rfl,"dict_keyiterator",_,⟨_,Heap.get?_push_size _ rfl,rfl⟩,PySem.F.slot_dict_keyiterator_next.lookup,q⟩))
theorem Zkw{Q:Option Value->Shared->Prop}(st:s.heap.IsKeyIter it d i es.size ep)(x:ZiW s.heap d es ep)(hi:i<es.size)
  (q:∀h',h'.IsKeyIter it d (i+1) es.size ep->Heap.SameBut it s.heap h'->Q (some es[i].key) { s with heap:=h' }):wpAny (model prog w) A (pyNext (.ref it)) Q E s:=by
 obtain⟨o,ho,hc,hd⟩:=id st;obtain⟨od,hod,hxd,hdd⟩:=id x;unfold pyNext;refine wpAny_bind (wpAny_attempt (wpAny_callSpecial?_slot (name:=Str.ofString "__next__") st.typeIs PySem.F.slot_dict_keyiterator_next (wpAny_call_entry PySem.F.slot_dict_keyiterator_next st.typeIs PySem.F.entry_dict_keyiterator_next ?_ (PySem.F.args_dict_keyiterator_next_1 _))));refine wpAny_bind (wpAny_pure (wpAny_bind (wpAny_bind ?_)))
 first|refine wpAny_bind (wpAny_typeNameOfWhole_keyiter st.typeIs (wpAny_pure (wpAny_bind (wpAny_fieldsOf ho hd ?_))))|refine wpAny_bind (wpAny_typeNameOf_keyiter st.typeIs (wpAny_pure (wpAny_bind (wpAny_fieldsOf ho hd ?_))))
 have own:Builtin.Dict_items.ownsTuple "dict_keyiterator" = false:=by decide
 simp only[own,Bool.false_eq_true,if_false];change wpAny _ _ (if(Value.ref d == Value.none)=true then _ else _) _ _ s
 rw[if_neg (fun z:(Value.ref d == Value.none)=true=>Bool.false_ne_true z)];refine wpAny_bind (wpAny_pure (wpAny_bind (wpAny_dictEntries hod hdd ?_)));rw[if_neg (by simp)];refine wpAny_bind (wpAny_pure (wpAny_bind (wpAny_dictEpoch hod hdd ?_)));rw[if_neg (by simp)];refine wpAny_pure ?_;simp only[show ¬ ((i:Int)<0) by lia,if_false,Int.toNat_natCast,Array.getElem?_eq_getElem hi];refine wpAny_bind ?_;first|refine wpAny_bind (wpAny_typeNameOfWhole_keyiter st.typeIs (wpAny_pure (wpAny_bind (wpAny_isOneOf_keyiter st.typeIs ?_))))|refine wpAny_bind (wpAny_typeNameOf_keyiter st.typeIs (wpAny_pure (wpAny_bind (wpAny_isOneOf_keyiter st.typeIs ?_))))
 change wpAny _ _ (setField (.ref it) 1 (rawInt ((i:Int)+1)) >>= _) _ _ s;refine wpAny_bind (wpAny_setField ho hd (by simp) ?_);have st2:(s.heap.update it (Obj.mapFields (·.setIfInBounds 1 (rawInt ((i:Int)+1))))).IsKeyIter it d (i+1) es.size ep:=⟨_,Heap.get?_update_self _ ho (Obj.isFreed_of_fields (Obj.data_mapFields hd _)),(Obj.cls_mapFields ..).trans hc,by rw[Obj.data_mapFields hd];simp[rawInt]⟩;refine wpAny_bind (wpAny_holding (wpAny_bind (wpAny_isOneOf_keyiter (s:={ s with heap:=s.heap.update it (Obj.mapFields (·.setIfInBounds 1 (rawInt ((i:Int)+1)))) }) st2.typeIs ?_)));change wpAny _ _ (pure es[i].key) _ _ _;exact wpAny_pure (wpAny_pure ⟨_,rfl,wpAny_pure (q _ st2 (Heap.SameBut.update ..))⟩)
theorem Zme{Q:Option Value->Shared->Prop}(hh:A.handled=none)(st:s.heap.IsKeyIter it d i es.size ep)(x:ZiW s.heap d es ep)(hi:es.size<=i)
  (q:∀h',Heap.ExtBut it s.heap h'->Q none { s with heap:=h' }):wpAny (model prog w) A (pyNext (.ref it)) Q E s:=by
 obtain⟨o,ho,hc,hd⟩:=id st;obtain⟨od,hod,hxd,hdd⟩:=id x;unfold pyNext;refine wpAny_bind (wpAny_attempt (wpAny_callSpecial?_slot (name:=Str.ofString "__next__") st.typeIs PySem.F.slot_dict_keyiterator_next (wpAny_call_entry PySem.F.slot_dict_keyiterator_next st.typeIs PySem.F.entry_dict_keyiterator_next ?_ (PySem.F.args_dict_keyiterator_next_1 _))));refine wpAny_bind (wpAny_pure (wpAny_bind (wpAny_bind ?_)))
 first|refine wpAny_bind (wpAny_typeNameOfWhole_keyiter st.typeIs (wpAny_pure (wpAny_bind (wpAny_fieldsOf ho hd ?_))))|refine wpAny_bind (wpAny_typeNameOf_keyiter st.typeIs (wpAny_pure (wpAny_bind (wpAny_fieldsOf ho hd ?_))))
 have own:Builtin.Dict_items.ownsTuple "dict_keyiterator" = false:=by decide
 simp only[own,Bool.false_eq_true,if_false];change wpAny _ _ (if(Value.ref d == Value.none)=true then _ else _) _ _ s
 rw[if_neg (fun z:(Value.ref d == Value.none)=true=>Bool.false_ne_true z)];refine wpAny_bind (wpAny_pure (wpAny_bind (wpAny_dictEntries hod hdd ?_)));rw[if_neg (by simp)];refine wpAny_bind (wpAny_pure (wpAny_bind (wpAny_dictEpoch hod hdd ?_)));rw[if_neg (by simp)];refine wpAny_pure ?_;simp only[show ¬ ((i:Int)<0) by lia,if_false,Int.toNat_natCast,Array.getElem?_eq_none hi];refine wpAny_bind ?_;first|refine wpAny_bind (wpAny_typeNameOfWhole_keyiter st.typeIs (wpAny_pure ?_))|refine wpAny_bind (wpAny_typeNameOf_keyiter st.typeIs (wpAny_pure ?_))
 change wpAny _ _ (setField (.ref it) 0 .none >>= _) _ _ s;refine wpAny_bind (wpAny_setField ho hd (by simp) ?_);change wpAny _ _ (newExc (.type "StopIteration") [] >>= _) _ _ _;refine wpAny_bind ?_;simp only[newExc,newTuple];refine wpAny_bind (wpAny_newObj_type (wpAny_bind (m:=firstArgMember _ _) (wpAny_of_eq (a:=Value.none) (by first|rfl|(simp only[firstArgMember];rfl)) (wpAny_newObj_type ?_ (by size_fits)))) (by size_fits))
 simp only[raiseNew];refine wpAny_bind (wpAny_handled ?_);rw[show A.in1.handled=none from hh];refine wpAny_bind (wpAny_pure (wpAny_throw ?_));refine wpAny_bind (wpAny_isInstance (T := "StopIteration") (b:=true) (v:=.ref _) (by exact⟨_,Heap.get?_push_size _ rfl,rfl⟩) isSubtype_stop ?_);exact wpAny_pure (q _ (((Heap.SameBut.update ..).extBut.push _).push _))
theorem Zjq(hh:A.handled=none)(hne:d≠it):Walks prog w A it [it,d] [it] es.size (fun i v=>∃e,es[i]?= some e/\v=e.key) (fun i h=>h.IsKeyIter it d i es.size ep/\ZiW h d es ep) where
 sub:=fun b hb=>List.mem_cons.mpr (.inl (List.mem_singleton.mp hb))
 frame:=fun _ _ _ st hk=>⟨st.1.at fun o e=>hk it (List.mem_cons_self ..) o e,st.2.to fun o e=>hk d (List.mem_cons_of_mem _ (List.mem_cons_self ..)) o e⟩
 item:=fun j s Q E hj st hQ=>Zkw st.1 st.2 hj fun h' st' sb=>hQ _ h' s.toks ⟨_,Array.getElem?_eq_getElem hj,rfl⟩ ⟨st',st.2.to fun o e=>sb.extBut d o hne e⟩ fun b o hb e=>sb.extBut b o (fun z=>hb (List.mem_singleton.mpr z)) e
 done:=fun s Q E st hQ=>Zme hh st.1 st.2 (Nat.le_refl _) fun h' he=>hQ h' s.toks fun b o hb e=>he b o (fun z=>hb (List.mem_singleton.mpr z)) e
 self:=fun _ _ _ _ st hQ=>wpAny_pyIter_keyiter st.1 hQ
theorem ZmN(lo:(d == sysModules)=false):KdlSrc prog w "dict" d d es.size (fun i v=>∃e,es[i]?= some e/\v=e.key) (fun h=>ZiW h d es ep) where
 type:=fun _ x=>x.tyIs
 there:=fun _ ⟨o,ho,_⟩=>⟨Heap.lt_size ho,Heap.lt_size ho⟩
 keep:=fun _ _ x hk=>x.to fun o e=>hk d (.inl rfl) o e
 notList:=by decide
 notTuple:=by decide
 hint:=fun _ _ _ _ x hq=>kdl_hint_dict x.tyIs hq
 iter:=fun _ _ hh x=>⟨_,_,(fun _ _ hq=>Zk3 lo x hq),Zjq hh (let ⟨o,ho,_⟩:=x;Nat.ne_of_lt (Heap.lt_size ho)),⟨⟨_,Heap.get?_push_size _ rfl,rfl,rfl⟩,x.to fun _ e=>Heap.get?_push_of_some _ e⟩⟩
end
end L2
namespace Srt
open PySem PyProof.Rows PySem.W
end Srt
namespace Sts
open PySem PyProof.Rows PySem.W Srt
end Sts
namespace Srd
open PySem PyProof.Rows
theorem ZfE:typeLookup (.type "list") "keys" = pure none:=by rw[typeLookup_type,builtinLookup_eq_fast];kernel_rfl
theorem Za8:isSubtype (.type "AttributeError") (.type "AttributeError")=pure true:=by rw[isSubtype_type];kernel_rfl
section
variable{prog:Program}{w:World}{A:Around}{E:Value->Shared->Prop}{h:Heap}{g:Array GenState}{d:Drawn}{t:Nat}{os:OsState}{a:Addr}
theorem Zey{α : Type}{Q : α -> Shared->Prop}{o:Value}{name msg:Str}(hh:A.handled=none)(hm:msg.length<=sizeLine)(hq:∀(x:Addr) (h':Heap) (tk:Nat),(∀b u,h.get? b=some u->h'.get? b=some u)->(∃ob,h'.get? x=some ob/\ob.cls=.type "AttributeError")->h.objs.size<=h'.objs.size->E (.ref x) ⟨h',g,d,tk,os⟩) :
  wpAny (model prog w) A (raiseAttrError o name msg:Sem α) Q E ⟨h,g,d,t,os⟩:=by
 unfold raiseAttrError
 repeat (any_goals (first|assumption|wp_step))
 refine wpAny_of_eq Za8 ?_;rw[if_neg (by decide)];generalize hfa:(if((Manifest.find? "AttributeError").elim false fun t=>t.mro.contains "StopIteration" || t.mro.contains "SystemExit")=true then [Value.str msg t].headD Value.none else Value.none)=fa
 have k1:∀b u,h.get? b=some u->(h.push { cls:=Value.type "tuple",data:=Data.seq #[Value.str msg t] }).get? b=some u:=fun b u e=>Heap.get?_push_of_some _ e;have z1:(h.push { cls:=Value.type "tuple",data:=Data.seq #[Value.str msg t] }).objs.size=h.objs.size+1:=Heap.size_push ..;generalize h.push { cls:=Value.type "tuple",data:=Data.seq #[Value.str msg t] }=h1 at k1 z1;have e1:(h1.push { cls:=Value.type "AttributeError",data:=Data.fields (#[Value.ref h.objs.size,Value.none,Value.none,Value.none,Value.bool false,fa]++ownMembersOf (Value.type "AttributeError") [Value.str msg t]) }).get? h1.objs.size=some { cls:=Value.type "AttributeError",data:=Data.fields (#[Value.ref h.objs.size,Value.none,Value.none,Value.none,Value.bool false,fa]++ownMembersOf (Value.type "AttributeError") [Value.str msg t]) }:=Heap.get?_push_size _ rfl;have k2:∀b u,h.get? b=some u->(h1.push { cls:=Value.type "AttributeError",data:=Data.fields (#[Value.ref h.objs.size,Value.none,Value.none,Value.none,Value.bool false,fa]++ownMembersOf (Value.type "AttributeError") [Value.str msg t]) }).get? b=some u:=fun b u e=>Heap.get?_push_of_some _ (k1 b u e);have z2:(h1.push { cls:=Value.type "AttributeError",data:=Data.fields (#[Value.ref h.objs.size,Value.none,Value.none,Value.none,Value.bool false,fa]++ownMembersOf (Value.type "AttributeError") [Value.str msg t]) }).objs.size=h1.objs.size+1:=Heap.size_push ..;generalize h1.push { cls:=Value.type "AttributeError",data:=Data.fields (#[Value.ref h.objs.size,Value.none,Value.none,Value.none,Value.bool false,fa]++ownMembersOf (Value.type "AttributeError") [Value.str msg t]) }=h2 at e1 k2 z2;refine wpAny_bind (wpAny_load e1 ?_);dsimp only;have v6:(#[Value.ref h.objs.size,Value.none,Value.none,Value.none,Value.bool false,fa]++ownMembersOf (Value.type "AttributeError") [Value.str msg t])[6]?= some unsetMember:=rfl;have v7:(#[Value.ref h.objs.size,Value.none,Value.none,Value.none,Value.bool false,fa]++ownMembersOf (Value.type "AttributeError") [Value.str msg t])[7]?= some unsetMember:=rfl;refine wpAny_ite_split (fun hab=>absurd hab (by rw[v6,v7];decide)) (fun _=>wpAny_ite_split (fun hab=>absurd hab (by rw[v6,v7];decide)) (fun _=>wpAny_pure ?_));rw[if_pos rfl];refine wpAny_bind (wpAny_rule (wpAny_bind (wpAny_typeOf (T := "AttributeError") ⟨_,e1,rfl⟩ ?_)));dsimp only;unfold layMembers;refine wpAny_bind (wpAny_load e1 ?_);dsimp only;refine wpAny_update e1 ?_;unfold raiseNew;refine wpAny_bind (wpAny_handled ?_);rw[hh];refine wpAny_throw (hq _ _ _ (fun b u e=>?_) ?_ ?_)
 ·rw[Heap.get?_update_other _ _ (show h1.objs.size≠b from fun z=>?_)]
  ·exact k2 b u e
  ·have:=Heap.lt_size e;have h3:h1.objs.size<h.objs.size:=z ▸ this;lia
 ·exact⟨_,Heap.get?_update_self _ e1 rfl,rfl⟩
 ·rw[Heap.size_update];show h.objs.size<=h2.objs.size;lia
theorem Zef{tk:Tok}{Q:Fin->Shared->Prop}{its:Array Value}{n:Nat}{sl:Array (Option Value)}(hh:A.handled=none)(hx:h.get? a=some { cls:=.type "list",dict:=none,data:=.seq its n,slots:=sl }) (hq:∀(x:Addr)(h':Heap)(tk:Nat),(∀b u,h.get? b=some u->h'.get? b=some u)->(∃ob,h'.get? x=some ob/\ob.cls=.type "AttributeError")->h.objs.size<=h'.objs.size->E (.ref x) ⟨h',g,d,tk,os⟩) :
  wpAny (model prog w) A (Builtin.«object.__getattribute__» ⟨[.ref a,.str "keys" tk],[]⟩) Q E ⟨h,g,d,t,os⟩:=by
 have hT:(⟨h,g,d,t,os⟩:Shared).TypeIs (.ref a) "list" := ⟨_,hx,rfl⟩;have f4:=ZfE
 repeat (any_goals (first|assumption|with_reducible apply Zey hh|wp_step))
 decide +kernel
theorem ZdO:typeLookup (.type "list") "__getattr__" = pure none:=by rw[typeLookup_type,builtinLookup_eq_fast];kernel_rfl
theorem Zek{tk:Tok}{R:Result->Shared->Prop}{its:Array Value}{n:Nat}{sl:Array (Option Value)}(hh:A.handled=none)(hx:h.get? a=some { cls:=.type "list",dict:=none,data:=.seq its n,slots:=sl }) (hq:∀(x:Addr)(h':Heap)(tk:Nat),(∀b u,h.get? b=some u->h'.get? b=some u)->(∃ob,h'.get? x=some ob/\ob.cls=.type "AttributeError")->h.objs.size<=h'.objs.size->R (.error (.ref x)) ⟨h',g,d,tk,os⟩) :
  codeAny (model prog w) A (.call (.builtin "list.__getattribute__") ⟨[.ref a,.str "keys" tk],[]⟩) R ⟨h,g,d,t,os⟩ :=
 codeAny_call_builtin F.slot_list_getattribute.plain F.entry_list_ga (F.slot_list_getattribute.check _ _ _ _ _ _ _ _ (show(⟨h,g,d,t,os⟩:Shared).TypeIs (.ref a) "list" from⟨_,hx,rfl⟩) (F.args_list_getattribute_2 _ _) (Zef hh hx hq))
theorem ZfO{tk:Tok}{Q:Value->Shared->Prop}{its:Array Value}{n:Nat}{sl:Array (Option Value)}(hh:A.handled=none)(hx:h.get? a=some { cls:=.type "list",dict:=none,data:=.seq its n,slots:=sl }) (hq:∀(x:Addr)(h':Heap)(tk:Nat),(∀b u,h.get? b=some u->h'.get? b=some u)->(∃ob,h'.get? x=some ob/\ob.cls=.type "AttributeError")->h.objs.size<=h'.objs.size->E (.ref x) ⟨h',g,d,tk,os⟩) :
  wpAny (model prog w) A (getAttrBy (.ref a) (.str "keys" tk) false) Q E ⟨h,g,d,t,os⟩:=by
 have hT:(⟨h,g,d,t,os⟩:Shared).TypeIs (.ref a) "list" := ⟨_,hx,rfl⟩;have f2:=F.slot_list_getattribute.lookup;have f3:=F.slot_list_getattribute.bind (.ref a);have f4:=ZdO
 repeat (any_goals (first|assumption|wp_step))
 refine Zek hh hx fun x h' tk' k1 k2 k3=>?_;obtain⟨ob,e2,c2⟩:=k2;dsimp only;unfold getattributeRaised;refine wpAny_bind (wpAny_isInstance (T := "AttributeError") (b:=true) ⟨ob,e2,c2⟩ Za8 ?_);rw[if_pos rfl];unfold hookBehind;rw[if_neg (by decide)];refine wpAny_bind (wpAny_of_eq f4 ?_);unfold hookOrError attributeErrorLeaves;dsimp only;rw[if_pos (by decide)];exact wpAny_bind (wpAny_throw (hq x h' tk' k1 ⟨ob,e2,c2⟩ k3))
theorem Zel{Q:Option Value->Shared->Prop}{its:Array Value}{n:Nat}{sl:Array (Option Value)}(hh:A.handled=none)(hx:h.get? a=some { cls:=.type "list",dict:=none,data:=.seq its n,slots:=sl }) (hq:∀(h':Heap)(tk:Nat),(∀b u,h.get? b=some u->h'.get? b=some u)->h.objs.size<=h'.objs.size->Q none ⟨h',g,d,tk,os⟩) :
  wpAny (model prog w) A (getAttr? (.ref a) "keys") Q E ⟨h,g,d,t,os⟩:=by
 unfold getAttr? getAttrBy?
 repeat (any_goals (first|assumption|with_reducible apply ZfO hh hx|wp_step))
 intro x h' tk' k1 k2 k3;obtain⟨ob,e2,c2⟩:=k2;dsimp only;refine wpAny_bind (wpAny_isInstance (T := "AttributeError") (b:=true) ⟨ob,e2,c2⟩ Za8 ?_);rw[if_pos rfl];exact wpAny_pure (hq h' tk' k1 k3)
end
theorem Zaq:entryFor table "dict.update.loop" = some Builtin.«dict.update.loop» := entryFor_of_tree (by kernel_rfl)
theorem ZP:plainId "dict.update.loop" = true:=by decide +kernel
section
variable{prog:Program}{w:World}{K:Type}[DecidableEq K]{knd:KeyKind prog w K}{A:Around}{E:Value->Shared->Prop}{R:Result->Shared->Prop}
def Zg5(knd:KeyKind prog w K)(h:Heap)(v:Value)(k:K)(u:Value):Prop := ∃b o n uk,v=.ref b/\h.get? b=some o/\o.cls=.type "tuple" /\ o.data=.seq #[uk,u] n/\knd.is k uk=true
def Ze8(knd:KeyKind prog w K)(h0:Heap)(d:Addr)(items:Array Value)(ps:List (K×Value)):Prop:=items.size=ps.length/\∀(i:Nat) v p,items[i]?= some v->ps[i]?= some p->∀h:Heap,(∀b o,b<d->h0.get? b=some o->h.get? b=some o)->Zg5 knd h v p.1 p.2
theorem pair_items{s:Shared}{v:Value}{k:K}{u:Value}{Q:List Value->Shared->Prop}(hp:Zg5 knd s.heap v k u)(q:∀uk,knd.is k uk=true->Q [uk,u] s):wpAny (model prog w) A (Builtin.Dict.pairItems v) Q E s:=by
 obtain⟨b,o,n,uk,rfl,ho,hc,hd,hk⟩:=hp;unfold Builtin.Dict.pairItems;refine wpAny_bind (wpAny_typeOf (T := "tuple") ⟨o,ho,hc⟩ ?_);rw[if_pos (by decide)];refine wpAny_bind (wpAny_seqItems ho hd (wpAny_pure (q uk hk)))
set_option maxHeartbeats 1000000 in
theorem Zkh{h0:Heap}{D I l:Addr}{items:Array Value}{ps:List (K×Value)}(hh:A.in1.handled=none)(ht:Ze8 knd h0 D items ps)(hDI:D<I)(hlI:l≠I)(hn:items.size<=100000):∀(k i:Nat)(j:Int)(jt:Tok)(s:Shared),items.size-i=k->i<=items.size->(s.heap.IsListIter I l i/\s.heap.IsList l items)->l<D->s.heap.DictOf knd D (merged [] (ps.take i))->(∀b o,b<D->h0.get? b=some o->s.heap.get? b=some o) ->
   (∀h' tk,h'.DictOf knd D (merged [] ps)->(∀b o,b<D->h0.get? b=some o->h'.get? b=some o)->R (.ok (.ret .none)) { s with heap:=h',toks:=tk })->codeAny (model prog w) A (.builtin "dict.update.loop" ⟨[.ref D,.ref I,.int j jt,.none],[]⟩) R s:=by
 have W:=Walks.list (prog:=prog) (w:=w) (A:=A.in1) hh I l hlI items;have DK:∀{h h':Heap}{kvs:List (K×Value)},h.DictOf knd D kvs->(∀b o,b<=D->h.get? b=some o->h'.get? b=some o)->h'.DictOf knd D kvs:=fun{h h' kvs} ⟨o,es,ep,ho,r⟩ hk=>⟨o,es,ep,hk D o (Nat.le_refl _) ho,r⟩;intro k
 induction k with
 | zero =>
  intro i j jt s hk hi hst hlD hd hb hR;obtain rfl:i=items.size:=by lia
  refine codeAny_builtin Zaq ?_;rw[Around.under_plainId ZP _];change wpAny _ A.in1 (pyNext (.ref I) >>= _) _ _ s;refine wpAny_bind (W.done s _ _ hst fun h' tk hm=>?_);change wpAny _ A.in1 (Builtin.Dict.addKeywords D [] >>= fun _=>ret Value.none) _ _ _;refine wpAny_bind ?_;unfold Builtin.Dict.addKeywords;refine wpAny_pure (wpAny_pure ?_);rw[ht.1,List.take_length] at hd;exact hR h' tk (DK hd fun b o hb' e=>hm b o (fun z=>Nat.lt_irrefl _ (Nat.lt_of_le_of_lt (List.mem_singleton.mp z ▸ hb') hDI)) e) fun b o hb' e=>hm b o (fun z=>Nat.lt_irrefl _ (Nat.lt_trans (List.mem_singleton.mp z ▸ hb') hDI)) (hb b o hb' e)
 | succ k ih =>
  intro i j jt s hk hi hst hlD hd hb hR;have hlt:i<items.size:=by lia
  refine codeAny_builtin Zaq ?_;rw[Around.under_plainId ZP _];change wpAny _ A.in1 (pyNext (.ref I) >>= _) _ _ s;refine wpAny_bind (W.item i s _ _ hlt hst fun v h' tk hP hst' hm=>?_);have hd':h'.DictOf knd D (merged [] (ps.take i)):=DK hd fun b o hb' e=>hm b o (fun z=>Nat.lt_irrefl _ (Nat.lt_of_le_of_lt (List.mem_singleton.mp z ▸ hb') hDI)) e;have hb1:∀b o,b<D->h0.get? b=some o->h'.get? b=some o:=fun b o hb' e=>hm b o (fun z=>Nat.lt_irrefl _ (Nat.lt_trans (List.mem_singleton.mp z ▸ hb') hDI)) (hb b o hb' e);have hpl:i<ps.length:=by have:=ht.1;lia
  have hp:=ht.2 i v ps[i] hP (List.getElem?_eq_getElem hpl) h' hb1;refine wpAny_bind (wpAny_holding (wpAny_bind (wpAny_tryCatch (pair_items (s:={ s with heap:=h',toks:=tk }) hp fun uk huk=>?_))));dsimp only;have hml:(merged [] (ps.take i)).length<=sizeLine:=by
   have:=merged_length_le ([]:List (K×Value)) (ps.take i);rw[List.length_take] at this;have h0l:([]:List (K×Value)).length=0:=rfl;have:=ht.1;rw[sizeLine_eq];lia
  refine wpAny_holding (wpAny_dictSet_pairs (s:={ s with heap:=h',toks:=tk }) (hsz:=hml) huk hd' fun h2 hd2 sb=>?_);have hk2:∀b o,b≠D->h'.get? b=some o->h2.get? b=some o:=fun b o hb e=>(sb.2 b hb).trans e;refine wpAny_pure ⟨plainId_quiet ZP _,ih (i+1) (j+1) 0 _ (by lia) hlt ?_ hlD ?_ (fun b o hb' e=>hk2 b o (Nat.ne_of_lt hb') (hb1 b o hb' e)) fun h3 tk3 hw3 hb3=>hR h3 tk3 hw3 hb3⟩
  ·refine W.frame _ h' h2 hst' fun b hb o e=>hk2 b o (fun z=>?_) e;simp only[List.mem_cons,List.not_mem_nil,or_false] at hb;rcases hb with rfl|rfl
   ·exact Nat.lt_irrefl _ (z ▸ hDI)
   ·exact Nat.lt_irrefl _ (z ▸ hlD)
  ·rw[merged_take_succ [] ps i ps[i] (List.getElem?_eq_getElem hpl)];exact hd2
set_option maxHeartbeats 1000000 in
theorem ZdU{s:Shared}{l:Addr}{items:Array Value}{n:Nat}{sl:Array (Option Value)}{ps:List (K×Value)}{Q:Value->Shared->Prop}(hh:A.handled=none)(hl:s.heap.get? l=some { cls:=.type "list",dict:=none,data:=.seq items n,slots:=sl }) (ht:Ze8 knd s.heap s.heap.objs.size items ps) (hn:items.size<=100000)
  (q:∀(h':Heap)(tk:Nat),h'.DictOf knd s.heap.objs.size (merged [] ps)->(∀b o,s.heap.get? b=some o->h'.get? b=some o)->Q (.ref s.heap.objs.size) { s with heap:=h',toks:=tk }) :
  wpAny (model prog w) A (call (.type "dict") [.ref l]) Q E s:=by
 refine callType_codes (Q₁ := fun obj s₁=>obj=.ref s.heap.objs.size/\s₁ = { s with heap:=s.heap.push { cls:=.type "dict",data:=.dict #[] } }) F.kt_called_dict (F.kt_typeCall_dict_1 _) F.entry_dict_init (kt_code_dict_new _ ⟨rfl,rfl⟩) ?_;rintro obj s₁ ⟨rfl,rfl⟩;have hnew:(s.heap.push { cls:=.type "dict",data:=.dict #[] }).DictOf knd s.heap.objs.size []:=Heap.DictOf.new s.heap;have hl1:(s.heap.push { cls:=.type "dict",data:=.dict #[] }).get? l=some { cls:=.type "list",dict:=none,data:=.seq items n,slots:=sl }:=Heap.get?_push_of_some _ hl;have hlD:l<s.heap.objs.size:=Heap.lt_size hl;have k0:∀b o,b<s.heap.objs.size->s.heap.get? b=some o->(s.heap.push { cls:=.type "dict",data:=.dict #[] }).get? b=some o:=fun b o _ e=>Heap.get?_push_of_some _ e;have z0:(s.heap.push { cls:=.type "dict",data:=.dict #[] }).objs.size=s.heap.objs.size+1:=Heap.size_push ..;refine⟨hnew.typeIs,F.args_dict_init_2 _ _,?_⟩;generalize s.heap.push { cls:=.type "dict",data:=.dict #[] }=h1 at hnew hl1 k0 z0;unfold Builtin.«dict.__init__»;refine wpAny_bind ?_;unfold Builtin.Dict.selfAndRest;refine wpAny_bind (wpAny_notOrdered_dict hnew.typeIs ?_);show wpAny _ _ (pure (s.heap.objs.size,[Value.ref l])) _ _ _;refine wpAny_pure ?_;show wpAny _ _ (Builtin.Dict.updateFrom "dict.__init__" s.heap.objs.size (.ref l) [] .none) _ _ _;unfold Builtin.Dict.updateFrom;refine wpAny_bind (wpAny_typeOf (T := "list") ⟨_,hl1,rfl⟩ ?_);rw[if_pos (by decide)];refine wpAny_bind (Zel hh hl1 fun h2 tk2 k2 z2=>?_);rw[if_pos (show(none:Option Value).isNone=true from rfl)];refine wpAny_bind (wpAny_rule ?_);have hl2:=k2 _ _ hl1;have hL2:h2.IsList l items:=⟨_,hl2,rfl,n,rfl⟩;refine wpAny_bind (wpAny_pyIter_list hL2 ?_);have hd2:h2.DictOf knd s.heap.objs.size []:=let ⟨o,es,ep,ho,r⟩:=hnew;⟨o,es,ep,k2 _ _ ho,r⟩;have hd3:(h2.push { cls:=.type "list_iterator",data:=.fields #[.ref l,.int 0 0] }).DictOf knd s.heap.objs.size []:=hd2.push _;have hsz:s.heap.objs.size<h2.objs.size:=by lia
 refine wpAny_pure ⟨plainId_quiet ZP _,?_⟩;refine Zkh (knd:=knd) (h0:=s.heap) (by simpa using hh) ht hsz (Nat.ne_of_lt (Nat.lt_trans hlD hsz)) hn (items.size-0) 0 0 0 _ rfl (Nat.zero_le _) ⟨⟨_,Heap.get?_push_size _ rfl,rfl,rfl⟩,hL2.push _⟩ hlD hd3 (fun b o hb e=>Heap.get?_push_of_some _ (k2 _ _ (k0 b o hb e))) fun h' tk hd' hb'=>?_;exact⟨rfl,q h' tk hd' fun b o e=>hb' b o (Heap.lt_size e) e⟩
end
end Srd
namespace L2
open PySem PySem.Spec PyProof.Rows PySem.W
def putAll(kvs:List (Key×V)):List (Key×V):=kvs.foldl (fun m kv=>putK m kv.1 kv.2) []
theorem Zcj:∀(kvs m:List (Key×V)),(kvs.foldl (fun m kv=>putK m kv.1 kv.2) m).length<=m.length+kvs.length
 | [],m=>Nat.le_refl _
 | kv::kvs,m=>by
  have h1:=Zcj kvs (putK m kv.1 kv.2);have h2:=Zb2 m kv.1 kv.2;rw[List.length_cons,List.foldl_cons];lia
theorem ZeE(kvs:List (Key×V)):(putAll kvs).length<=kvs.length:=by
 have:=Zcj kvs [];rw[List.length_nil,Nat.zero_add] at this;exact this
theorem Zim:∀{kvs:List (Key×V)}{ps:List (Key×Value)}{m:List (Key×V)}{m':List (Key×Value)},KV kvs ps->KV m m'->KV (kvs.foldl (fun m kv=>putK m kv.1 kv.2) m) (merged m' ps)
 | _,_,_,_,.nil,h=>h
 | _,_,m,m',.cons (a:=kv) (b:=p) r t,h=>by
  have e:p.1=kv.1:=r.1.symm;have h1:=h.put kv.1 r.2;have h2:=Zim t h1;show KV (List.foldl _ (putK m kv.1 kv.2) _) (merged (stored m' p.1 p.2) _);rw[e];exact h2
theorem Zb3{κ : Type}[DecidableEq κ](k : κ):∀(kvs m:List (κ × V)),(Zcw (kvs.foldl (fun m kv=>putK m kv.1 kv.2) m) k).isSome=((Zcw m k).isSome || kvs.any fun kv=>decide (kv.1=k))
 | [],m=>by simp
 | kv::kvs,m=>by
  rw[List.foldl_cons,Zb3 k kvs,ZkD,List.any_cons];by_cases e:k=kv.1
  ·rw[if_pos e,decide_eq_true e.symm];simp
  ·rw[if_neg e,decide_eq_false (fun z=>e z.symm)];simp
section
variable{X:Cx}
theorem Zen(hc:X.calm=true):ZbR X (.type "dict") (fun xs H Q=>∃l ys kvs,xs=[.ref l]/\SqL X.K H l ys/\ys.length<=90000/\Paired (fun(y:V)(kv:Key×V)=>∃t,y=.ref t/\H t=some (.tup [kV kv.1,kv.2])) ys kvs/\∀d,H d=none->Q (.ref d) (upd H d (.dK (putAll kvs)))):=by
 intro pins s σ H xs us Q I r h;obtain⟨l,ys,kvs,rfl,hq,hlen,hp,q⟩:=h;obtain⟨u,rfl,ru⟩:=vals1 r;cases ru;obtain⟨its,rv,⟨o,n,ho,ocl,odi,oda⟩,hz⟩:=I.list hq;have hl:=rv.length;obtain⟨ocls,odict,odata,oslots⟩:=o;simp only at ocl odi oda;subst ocl odi oda;have key:∀{ys:List V}{kvs:List (Key×V)}{its:List Value},Paired (fun(y:V)(kv:Key×V)=>∃t,y=.ref t/\H t=some (.tup [kV kv.1,kv.2])) ys kvs->Vals ys its->∃ps:List (Key×Value),KV kvs ps/\its.length=ps.length/\∀(i:Nat) v p,its[i]?= some v->ps[i]?= some p->Srd.Zg5 (Zax X.prog X.w) s.heap v p.1 p.2:=by
  intro ys kvs its hp
  induction hp generalizing its with
  | nil =>
   intro rv;cases rv;exact⟨[],.nil,rfl,fun i v p h=>(nomatch h)⟩
  | @cons y kv ys kvs r t ih =>
   intro rv;cases rv with
   | @cons _ v _ its ry rr =>
    obtain⟨ps,h1,h2,h3⟩:=ih rr;obtain⟨ta,rfl,ht⟩:=r;obtain rfl:v=Value.ref ta:=ry;obtain⟨_,us,rus,o,ho,hc',n,hd⟩:=I.hok ta _ ht;obtain⟨u1,u2,rfl,r1,r2⟩:=Vals.two rus;refine⟨(kv.1,u2)::ps,.cons ⟨rfl,r2⟩ h1,by rw[List.length_cons,List.length_cons,h2],fun i v p e1 e2=>?_⟩;cases i with
    | zero =>
     injection e1 with e1;injection e2 with e2;subst e1 e2;exact⟨ta,o,n,u1,rfl,ho,hc',hd,Zfv r1⟩
    | succ i=>exact h3 i v p e1 e2
 obtain⟨ps,h1,h2,h3⟩:=key hp rv;refine Srd.ZdU (knd:=Zax X.prog X.w) (ps:=ps) (I.ok.hd hc) ho ⟨by rw[List.size_toArray];exact h2,fun i v p e1 e2 h' hk=>?_⟩ (by rw[List.size_toArray];lia) fun h' tk hd' hk=>?_
 ·obtain⟨b,o,n,uk,e,ho2,r⟩:=h3 i v p (by rw[<- e1];simp) e2;exact⟨b,o,n,uk,e,hk b o (Heap.lt_size ho2) ho2,r⟩
 ·have hkl:kvs.length=ps.length:=h1.length;have hpl:=ZeE kvs;exact⟨.ref _,_,I.laid (t':=tk) (fun b o e=>hk b o e) (Nat.le_refl _) (show ZaL X.prog X.w _ h' _ (.dK (putAll kvs)) from⟨by rw[sizeLine_eq];lia,beq_eq_false_iff_ne.mpr (Ne.symm (Nat.ne_of_lt I.big)),_,Zim h1 .nil,hd'⟩),rfl,q _ (I.hok.fresh (Nat.le_refl _))⟩
end
end L2
namespace L2
open PySem PySem.Spec PyProof.Rows
def notStar:Expr->Bool
 | .Starred ..=>false
 | _=>true
theorem Zea{e:Expr}(es:List Expr)(env:Env)(h:notStar e=true):starEach (e::es) env=(false,eval e env)::starEach es env:=by
 cases e <;> first|rfl|(exact absurd h Bool.false_ne_true)
theorem Zhm(env:Env)(pos:Pos):∀es:List Expr,es.all notStar=true->(backTo pos (starEach es env)).any (·.1)=false
 | [],_=>rfl
 | e::es,h=>by
  rw[List.all_cons,Bool.and_eq_true] at h;rw[Zea es env h.1];show(false || (backTo pos (starEach es env)).any (·.1))=false;rw[Zhm env pos es h.2];rfl
section
variable{X:Cx}{x:Str}{ps:List Str}{j k:Nat}{sp:Sp}{e:Expr}{es:List Expr}{t:TA}{te:TE}{p pos:Pos}
theorem Zla(ha:PE X e te)(hr:PA X es t)(hn:notStar e=true:=by rfl):PA X (e::es) (Zc0 te t):=Za ha hr (Zea es X.env hn)
end
@[irreducible] def PEi(X:Cx)(e:Expr)(t:TE):Prop:=PE X e t
@[irreducible] def PAi(X:Cx)(es:List Expr)(t:TA):Prop:=PA X es t
section
variable{X:Cx}{x:Str}{ps:List Str}{j k:Nat}{sp:Sp}{e:Expr}{es:List Expr}{t:TA}{te:TE}{p pos:Pos}
theorem PEi.to(h:PEi X e te):PE X e te:=by unfold PEi at h;exact h
theorem PEi.of(h:PE X e te):PEi X e te:=by unfold PEi;exact h
theorem PAi.to(h:PAi X es t):PA X es t:=by unfold PAi at h;exact h
theorem PAi.of(h:PA X es t):PAi X es t:=by unfold PAi;exact h
theorem Zma{i:Int}{j:Nat}:PEi X (.Constant (.int i) j pos) (tC (.int i)):=.of Zg
theorem Zv{x:Str}{j:Nat}:PEi X (.Constant (.str x) j pos) (tC (.str x)):=.of Zo
theorem Zm:PAi X [] Zhg:=.of Zd
theorem Zc(ha:PEi X e te)(hr:PAi X es t)(hn:notStar e=true:=by rfl):PAi X (e::es) (Zc0 te t):=.of (Zla ha.to hr.to hn)
theorem Zt{x1:Nat}(h:PAi X es t):PEi X (.Tuple es x1 pos) (Zn7 t):=.of (Zbs h.to)
theorem Zbh(h:PAi X es t):PEi X (.List es pos) (ZoQ t):=.of (Zb6 h.to)
end
theorem ZlC:bootBuiltins "any" = some (.builtin "any"):=by decide +kernel
section
variable{X:Cx}
theorem any_range:∀(bs:List Bool),((List.range bs.length).any fun i=>(bs[i]?).getD false)=bs.any id:=by
 intro bs;rw[Bool.eq_iff_iff,List.any_eq_true,List.any_eq_true];constructor
 ·rintro⟨i,hi,h⟩;have hi':=List.mem_range.mp hi;rw[List.getElem?_eq_getElem hi'] at h;exact⟨_,List.getElem_mem hi',h⟩
 ·rintro⟨b,hb,h⟩;obtain⟨i,hi,rfl⟩:=List.getElem_of_mem hb;exact⟨i,List.mem_range.mpr hi,by rw[List.getElem?_eq_getElem hi];exact h⟩
theorem Zhs(hc:X.calm=true):ZbR X (.builtin "any") (fun xs H Q=>∃(p:Addr)(bs:List Bool),xs=[.ref p]/\SqL X.K H p (bs.map V.bl)/\Q (.bl (bs.any id)) H):=by
 intro pins s σ H xs us Q I r h;obtain⟨p,bs,rfl,hS,q⟩:=h;obtain⟨u,rfl,ru⟩:=Vals.one r;cases ru;obtain⟨its,rv,pl,hz⟩:=I.list hS;have hl:=pl.isList;have hlen:bs.length=its.length:=by
  have:=rv.length;rw[List.length_map] at this;exact this
 refine call_any_walk (wpAny_pyIter_list hl ⟨s.heap.objs.size,[s.heap.objs.size,p],[s.heap.objs.size],its.toArray.size,_,_,fun i=>(bs[i]?).getD false,rfl,
  Walks.list (A:=X.A.in1) (I.ok.hd hc) _ p (Nat.ne_of_lt pl.lt) its.toArray,⟨⟨_,Heap.get?_push_size _ rfl,rfl,rfl⟩,hl.push _⟩,fun i v s' Q' E' hP hQ=>?_,fun h' tk hk=>?_⟩)
 ·obtain⟨b,e,e2⟩:=ZeW rv i v (by simpa using hP);subst e2;simp only[e,Option.getD_some] at hQ;exact wpAny_truthy_bool hQ
 ·rw[List.size_toArray,<- hlen,any_range];refine⟨.bl _,H,I.kept (t':=tk) fun b o e=>hk b o (fun hm=>?_) (Heap.get?_push_of_some _ e),rfl,q⟩;rw[List.mem_singleton.mp hm] at e;exact Nat.lt_irrefl _ (Heap.lt_size e)
end
end L2
namespace Fg
open PySem L2 FgM
theorem Zgl{X:Cx}{K:PySem.W.Frag}{es:List Expr}{k:Nat}{t:TGs}{n:Nat}{pos:Pos}(hK:X.K=K)(hc:X.calm=true)(h:PGs X es t)(hn:(assignEach es X.env).length=n:=by rfl)(hst:(assignEach es X.env).findIdx? (·.1)=none:=by rfl):PG X (.Tuple es k pos) (ZoT K n t):=by
 subst hK;exact ZdW hc h hn hst
theorem Zc6{K:PySem.W.Frag}{a p:Addr}{xs:List V}{g:TG}{te:TE}{R:Hp->Prop}{σ0:St}{H0:Hp}(Pv:Nat->List V->St->Hp->Prop)(h0:Pv 0 [] σ0 H0)
  (hl:∀i ys σ H,i<=xs.length->Pv i ys σ H->SqT K H a xs/\H p=some (.lst ys))
  (hs:∀i ys x σ H,i<xs.length->xs[i]?= some x->Pv i ys σ H->g x σ H fun σ3 H4=>te σ3 H4 fun v H5=>H5 p=some (.lst ys)/\ys.length<sizeLine/\∃m',m'<xs.length-i/\CW xs.length Pv (i+1) m' (ys ++ [v]) σ3 (upd H5 p (.lst (ys ++ [v]))))
  (hd:∀ys σ H,Pv xs.length ys σ H->R H) :
  ∃W:Nat->Nat->List V->St->Hp->Prop,(∃m,W 0 m [] σ0 H0)/\∀i m ys σc H2,W i m ys σc H2->H2 p=some (.lst ys)/\(((Itt K a).stop i H2/\R H2)\/((Itt K a).go i H2/\∀x H3,(Itt K a).yld i H2 x H3->g x σc H3 fun σ3 H4=>te σ3 H4 fun v H5 =>
   H5 p=some (.lst ys)/\ys.length<sizeLine/\∃m',m'<m/\W (i+1) m' (ys ++ [v]) σ3 (upd H5 p (.lst (ys ++ [v]))))):=by
 refine⟨CW xs.length Pv,⟨_,rfl,Nat.zero_le _,h0⟩,?_⟩;rintro i m ys σ H ⟨rfl,hi,hp⟩;obtain⟨h1,h2⟩:=hl i ys σ H hi hp;refine⟨h2,?_⟩;by_cases hlt:i<xs.length
 ·refine .inr ⟨⟨xs,xs[i],h1,List.getElem?_eq_getElem hlt⟩,?_⟩;rintro x H3 ⟨rfl,hx⟩;exact hs i ys x σ _ hlt (hx xs h1) hp
 ·refine .inl ⟨⟨xs,h1,by lia⟩,hd ys σ H ?_⟩;have e:i=xs.length:=by lia
  rw[<- e];exact hp
theorem Zh3{α : Type}{l:List α}{i:Nat}{x : α}(h:l[i]?= some x):l.take (i+1)=l.take i ++ [x]:=by
 rw[List.take_add_one,h];rfl
theorem Zii{lo:Int}{n:Nat}{p:Addr}{g:TG}{te:TE}{R:Hp->Prop}{σ0:St}{H0:Hp}(Pv:Nat->List V->St->Hp->Prop)(h0:Pv 0 [] σ0 H0)
  (hl:∀i ys σ H,i<=n->Pv i ys σ H->H p=some (.lst ys))
  (hs:∀i ys σ H,i<n->Pv i ys σ H->g (.int (lo+i)) σ H fun σ3 H4=>te σ3 H4 fun v H5=>H5 p=some (.lst ys)/\ys.length<sizeLine/\∃m',m'<n-i/\CW n Pv (i+1) m' (ys ++ [v]) σ3 (upd H5 p (.lst (ys ++ [v]))))
  (hd:∀ys σ H,Pv n ys σ H->R H) :
  ∃W:Nat->Nat->List V->St->Hp->Prop,(∃m,W 0 m [] σ0 H0)/\∀i m ys σc H2,W i m ys σc H2->H2 p=some (.lst ys)/\(((Itr lo n).stop i H2/\R H2)\/((Itr lo n).go i H2/\∀x H3,(Itr lo n).yld i H2 x H3->g x σc H3 fun σ3 H4=>te σ3 H4 fun v H5 =>
   H5 p=some (.lst ys)/\ys.length<sizeLine/\∃m',m'<m/\W (i+1) m' (ys ++ [v]) σ3 (upd H5 p (.lst (ys ++ [v]))))):=by
 refine⟨CW n Pv,⟨_,rfl,Nat.zero_le _,h0⟩,?_⟩;rintro i m ys σ H ⟨rfl,hi,hp⟩;refine⟨hl i ys σ H hi hp,?_⟩;by_cases hlt:i<n
 ·refine .inr ⟨hlt,?_⟩;rintro x H3 ⟨rfl,rfl⟩;exact hs i ys σ _ hlt hp
 ·have e:i=n:=by lia
  subst e;exact .inl ⟨Nat.le_refl _,hd ys σ H hp⟩
theorem Zg4{X:Cx}{K:PySem.W.Frag}(h:X.K=K):IxR X (Zn6 K):=h ▸ Zaz
theorem ZeQ{X:Cx}{K:PySem.W.Frag}(h:X.K=K):OpR X (compareOp .In) (rIn K false):=h ▸ Zcm
def ZoI(K:PySem.W.Frag)(ta:TE):TT:=fun σ H Q=>ta σ H fun x H'=>∃k,ZoH K x H' k/\Q k H'
theorem ZjU{X:Cx}{K:PySem.W.Frag}{a:Expr}{ta:TE}(h:X.K=K)(ha:PE X a ta)(he:∀whole,isTrue a X.env whole=(do let v <- whole;standAt a.pos;holding [v] (truthy v))) :
  PT X a (ZoI K ta):=by
 subst h;exact ZW ha he
end Fg
namespace L2
open PySem PySem.Spec PyProof.Rows
theorem ZeM{K:PySem.W.Frag}{a p:Addr}{xs:List V}{g:TG}{tt:TT}{te:TE}{R:Hp->Prop}{σ0:St}{H0:Hp}(Pv:Nat->List V->St->Hp->Prop)(h0:Pv 0 [] σ0 H0)
  (hl:∀i ys σ H,i<=xs.length->Pv i ys σ H->SqL K H a xs/\H p=some (.lst ys))
  (hs:∀i ys x σ H,i<xs.length->xs[i]?= some x->Pv i ys σ H->g x σ H fun σ3 H4=>tt σ3 H4 fun b H4'=>if b=true then te σ3 H4' fun v H5=>H5 p=some (.lst ys)/\ys.length<sizeLine/\∃m',m'<xs.length-i/\CW xs.length Pv (i+1) m' (ys ++ [v]) σ3 (upd H5 p (.lst (ys ++ [v])))
   else ∃m',m'<xs.length-i/\CW xs.length Pv (i+1) m' ys σ3 H4')
  (hd:∀ys σ H,Pv xs.length ys σ H->R H) :
  ∃W:Nat->Nat->List V->St->Hp->Prop,(∃m,W 0 m [] σ0 H0)/\∀i m ys σc H2,W i m ys σc H2->H2 p=some (.lst ys)/\(((Itl K a).stop i H2/\R H2)\/((Itl K a).go i H2/\∀x H3,(Itl K a).yld i H2 x H3->g x σc H3 fun σ3 H4=>tt σ3 H4 fun b H4'=>if b=true then te σ3 H4' fun v H5 =>
   H5 p=some (.lst ys)/\ys.length<sizeLine/\∃m',m'<m/\W (i+1) m' (ys ++ [v]) σ3 (upd H5 p (.lst (ys ++ [v]))) else ∃m',m'<m/\W (i+1) m' ys σ3 H4')):=by
 refine⟨CW xs.length Pv,⟨_,rfl,Nat.zero_le _,h0⟩,?_⟩;rintro i m ys σ H ⟨rfl,hi,hp⟩;obtain⟨h1,h2⟩:=hl i ys σ H hi hp;refine⟨h2,?_⟩;by_cases hlt:i<xs.length
 ·refine .inr ⟨⟨xs,xs[i],h1,List.getElem?_eq_getElem hlt⟩,?_⟩;rintro x H3 ⟨rfl,hx⟩;exact hs i ys x σ _ hlt (hx xs h1) hp
 ·have e:i=xs.length:=by lia
  subst e;exact .inl ⟨⟨xs,h1,Nat.le_refl _⟩,hd ys σ H hp⟩
end L2
namespace L2
open PySem PySem.Spec PyProof.Rows PySem.W Srd
theorem ZhV{P:Program}{w:World}{kvs:List (Key×V)}{ps:List (Key×Value)}(h:KV kvs ps):∀{es:List DictEntry},PySem.Pairs (Zax P w) es ps->Vals (kvs.map fun p=>kV p.1) (es.map (·.key)):=by
 have h':Paired (fun(p:Key×V)(q:Key×Value)=>p.1=q.1/\RelV p.2 q.2) kvs ps:=h;clear h
 induction h' with
 | nil =>
  intro es h2;cases h2;exact .nil
 | @cons a b l m r t ih =>
  intro es h2;cases h2 with
  | cons h1 h2 h3 =>
   refine .cons ?_ (ih h3);rw[<- r.1] at h1;have h1':Zgi a.1 _=true:=h1;rcases ZaB h1' with⟨i,t,he,hk⟩|⟨x,t,he,hk⟩
   ·show RelV (kV a.1) _;rw[he];exact⟨t,hk⟩
   ·show RelV (kV a.1) _;rw[he];exact⟨t,hk⟩
section
variable{X:Cx}
theorem ZhP{es:Array DictEntry}{acc:Array Value}(hit:ItemsOf (fun i v=>∃e,es[i]?= some e/\v=e.key) acc es.size):acc.toList=es.toList.map (·.key):=by
 refine List.ext_getElem? fun j=>?_;rw[Array.getElem?_toList,List.getElem?_map,Array.getElem?_toList];cases hj:acc[j]? with
 | none =>
  have h3:acc.size<=j:=Array.getElem?_eq_none_iff.mp hj;rw[hit.1] at h3;rw[Array.getElem?_eq_none h3];rfl
 | some v =>
  obtain⟨e,h1,rfl⟩:=hit.2 j v hj;rw[h1];rfl
theorem ZfV(hc:X.calm=true):ZbR X (.type "list") (fun xs H Q=>∃(d:Addr)(kvs:List (Key×V)),xs=[.ref d]/\H d=some (.dK kvs)/\∀l,H l=none->Q (.ref l) (upd H l (.lst (kvs.map fun p=>kV p.1)))):=by
 intro pins s σ H xs us Q I r h;obtain⟨d,kvs,rfl,hd,q⟩:=h;obtain⟨u,rfl,rx⟩:=vals1 r;obtain rfl:u=.ref d:=rx;obtain⟨hl,lo,vs,kv,o,es,ep,ho,hx,hdat,hko,hpr,hnd⟩:=Zmf I.hok hd;have hvals:=ZhV kv hpr;have hes:es.size=kvs.length:=by
  have:=hvals.length
  simpa using this.symm
 refine kdl_call (ZmN lo) (I.ok.hd hc) (⟨o,ho,hx,hdat⟩:ZiW s.heap d es ep) (by rw[hes];exact hl) fun h' tk acc c k e hit=>?_;have hacc:=ZhP hit;have I2:=I.laid (h':=h') (t':=tk) (a:=s.heap.objs.size) (o:=.lst (kvs.map fun p=>kV p.1)) k (Nat.le_refl _) (show ZaL X.prog X.w _ h' _ (.lst (kvs.map fun p=>kV p.1)) from⟨by rw[List.length_map];exact hl,acc.toList,c,by rw[hacc];exact hvals,e⟩);exact⟨.ref s.heap.objs.size,_,I2,rfl,q _ (I.hok.fresh (Nat.le_refl _))⟩
end
end L2
namespace L2
open PySem PySem.Spec PyProof.Rows Srd
section
variable{X:Cx}
theorem Zep:ZbR X (.type "tuple") (fun xs H Q=>∃p ys,xs=[.ref p]/\SqL X.K H p ys/\∀l o,H l=none->o.cls=.type "tuple" -> o.dict=none->Q (.ref l) (upd H l (.frz o (.tup ys)))):=by
 intro pins s σ H xs us Q I r h;obtain⟨p,ys,rfl,hq,q⟩:=h;obtain⟨u,rfl,rx⟩:=vals1 r;cases rx;obtain⟨its,r',pl,hz⟩:=I.list hq;have hlen:=r'.length;refine call_tuple_list pl.isList (fun h' kp=>?_) (by simp only[List.size_toArray] <;> lia)
 have I1:Inv X pins σ H { s with heap:=h' }:=I.kept (t':=s.toks) kp;have I2:Inv X pins σ (upd H h'.objs.size (.frz { cls:=.type "tuple",data:=.seq its.toArray } (.tup ys))) { s with heap:=h'.push { cls:=.type "tuple",data:=.seq its.toArray } } :=
  I1.laid (t':=s.toks) (fun b o e=>Heap.get?_push_of_some _ e) (Nat.le_refl _) (show ZaL X.prog X.w _ _ _ (.frz { cls:=.type "tuple",data:=.seq its.toArray } (.tup ys)) from⟨Heap.get?_push_size _ rfl,hz,its,r',IsTup.new _ _⟩)
 exact⟨.ref h'.objs.size,_,I2,rfl,q _ _ (I1.hok.fresh (Nat.le_refl _)) rfl rfl⟩
end
end L2
namespace L2
open PySem PySem.Spec PyProof.Rows
section
variable{X:Cx}{C:Addr}{m x:Str}{ps:List Str}{j k:Nat}{sp:Sp}{o e:Expr}{es:List Expr}{ta:TE}{t:TA}{p pos apos:Pos}
theorem Zl7(G:HasC X.prog X.w X.K X.mg X.base C x ps j sp)(hr:Room k X.A)(hg:Gl X x)(ha:PA X (e::es) t)(hk:j+1<=k:=by decide)(hdb:(x == ("__debug__" : Str))=false:=by decide)
  (he:starEach (e::es) X.env=(false,eval e X.env)::starEach es X.env:=by rfl) (hpl:(backTo pos (starEach es X.env)).any (·.1)=false:=by rfl):PE X (.Call (.Name x p) (e::es) [] pos) (ZnJ C sp [] E0 t):=by
 obtain⟨f,fd,F,b,M,hm⟩:=G.ex;exact ZmU M F (hr.mono hk) hg hm b .nil ZkL ha hdb he hpl
end
end L2
namespace Stg
open PySem PyProof.Rows Sts
end Stg
namespace Fg
open PySem L2 FgM
theorem making{H:Hp}{x dx C:Addr}(hx:H x=none)(hdx:H dx=none)(hne:dx≠x):Zk H (upd (upd H dx (.own x)) x (.ins C dx [])):=(Zk.new hdx).trans (Zk.new (by
 rw[Zu hne.symm];exact hx))
namespace Pa
end Pa
theorem Zie{z:Str}(h:Zkl z)(h8:z.length<=8):Zm1 z=true:=by
 have h1:1<=z.length:=by
  have:0<z.cps.toList.length:=List.length_pos_iff.mpr h.1;rw[Array.length_toList] at this;exact this
 unfold Zm1;rw[decide_eq_true h1,decide_eq_true h8,Bool.true_and,Bool.true_and,List.all_eq_true];intro c hc;have:=h.2 c hc;unfold azB;simp;lia
end Fg
namespace L2
open PySem PySem.Spec PyProof.Rows PySem.W
structure HasMX(P:Program)(w:World)(K:PySem.W.Frag)(mg:Str->Option Value)(base:Heap)(C:Addr)(m:Str)(ps:List Str)(j:Nat)(sp:Sp):Prop where
 ex:∃f fd,FnOk P w K mg base (CXE P w) j f fd ps sp/\Binds K fd ps []/\Meth K C m f
def Zlo(C:Addr)(m:Str)(sp:Sp)(E:XKS)(ta:TE)(t:TA):TE:=fun σ H Q=>ta σ H fun x H1=>∃a dx fs,x=.ref a/\H1 a=some (.ins C dx fs)/\fs.lookup m=none /\
 t σ H1 fun vs H2=>sp (x::vs) H2 Q (E σ)
section
variable{X:Cx}{C:Addr}{m x:Str}{ps:List Str}{j k:Nat}{sp:Sp}{o e:Expr}{es:List Expr}{ta:TE}{t:TA}{p pos apos:Pos}{E:XKS}
theorem ZaS{pl:Sem Bool}(G:HasMX X.prog X.w X.K X.mg X.base C m ps j sp)(hT:Ze9 X E)(hr:Room k X.A)(he:PE X o ta)(c:Cls X.K C)(ha:PA X (e::es) t)(hk:j<=k:=by decide)
  (hst:starEach (e::es) X.env=(false,eval e X.env)::starEach es X.env:=by rfl) (hpl:(backTo pos (starEach es X.env)).any (·.1)=false:=by rfl)
  (ht:eval (.Call (.Attribute o m apos) (e::es) [] pos) X.env=(do
   let ov <- eval o X.env
   standAt apos.atName
   let (f,first) <- holding [ov] (getMethod ov m pl)
   callWith pos f first (backTo pos (starEach (e::es) X.env)) (backToKw pos (keywordEach [] X.env))):=by rfl):PE X (.Call (.Attribute o m apos) (e::es) [] pos) (Zlo C m sp E ta t):=by
 obtain⟨f,fd,F,b,hm⟩:=G.ex;intro pins s σ H Q I h;refine PySem.W.methodCall_KW (pl:=pl) (thn (he pins s σ H _ I h) fun u s1 ⟨x,H1,I1,rx,a,dx,fs,ex,ea,l,q⟩=>?_) ht;subst ex;obtain rfl:u=Value.ref a:=rx;refine Zcv I1 ea c hm l ?_;refine PySem.W.callWith_K (first:=[.ref a]) (h₀ := X.base) I.ok.mod.kin hm.kp (thn (ha pos pins s1 σ H1 _ I1 q) fun us s2 ⟨vs,H2,I2,r,q2⟩=>⟨I2.kIn,?_⟩) hst hpl
 exact Zgr (us:=.ref a::us) (vs:=.ref a::vs) (F.room hk) hr b hT I2 (.cons rfl r) q2
end
end L2
namespace L2
open PySem PySem.Spec PyProof.Rows
def Zpb(tv:TE):TE:=fun σ H Q=>tv σ H fun v H1=>∃z,v=.str z/\(reprText z).length<=sizeLine/\Q (.str (reprText z)) H1
section
variable{X:Cx}{e:Expr}{te:TE}{pos:Pos}
theorem Ziz(he:PE X e te):PE X (.FormattedValue e 114 none pos) (Zpb te):=by
 intro pins s σ H Q I h;refine wpAny_FormattedValue_repr (thn (he pins s σ H _ I h) fun u s1 ⟨v,H1,I1,r,z,ev,hz,q⟩=>?_);subst ev;obtain⟨tk,rfl⟩:=r;refine pyReprObj_str ?_ hz;exact formatField_str (fun t' tk=>⟨.str (reprText z),H1,(I1.tok _).tok _,⟨_,rfl⟩,q⟩) hz
end
@[irreducible] def PSi(X:Cx)(st:Stmt)(t:TS):Prop:=PS X st t
@[irreducible] def ZgY(X:Cx)(ss:List Stmt)(t:TS):Prop:=PSs X ss t
section
variable{X:Cx}
theorem ZaT{st:Stmt}{t:TS}(h:PSi X st t):ZgY X [st] t:=by
 unfold PSi at h;unfold ZgY;exact Zi h
theorem Zay{i:Nat}{x:Str}{e:Expr}{te:TE}{pos pos':Pos}(hN:X.N.Nodup)(hi:X.N[i]?= some x)(hx:Loc X.env.scope x)(he:PEi X e te)(hs:swapsWith e (some (.Name x pos')) pos.line X.env=pure false:=by rfl)(hf:X.fn x=true\/X.env.scope.names.lookup x=some .local:=by first|exact .inl rfl|exact .inr rfl|assumption):PSi X (.Assign [.Name x pos'] e pos) (Zn8 te (ZiE i)):=by
 unfold PSi;exact ZD hN hi hx he.to hs hf
theorem ZbA{b:List Stmt}{D:Ends}{σ : St}{H:Hp}(s:List Stmt){t:TS}(h:ZgY X s t)(k:∀u,ZgY X s u->u=t->∃t,PSs X b t/\t D σ H):∃t,PSs X b t/\t D σ H:=k t h rfl
theorem ZlX{b:List Stmt}{D:Ends}{σ : St}{H:Hp}{u:TS}(h:ZgY X b u)(q:u D σ H):∃t,PSs X b t/\t D σ H:=⟨u,by unfold ZgY at h;exact h,q⟩
theorem ZfB{r:R2}{a b:Expr}{ta tb:TE}{pos:Pos}(hr:IxR X r)(ha:PEi X a ta)(hb:PE X b tb)(hs:ZiP b):PEi X (.Subscript a b pos) (tOp r ta tb):=.of (Z9 hr ha.to hb hs)
theorem Zq{st:Stmt}{ss:List Stmt}{t u:TS}(h:PS X st t)(k:ZgY X ss u):PSs X (st::ss) (Zoc t u):=by
 unfold ZgY at k;exact Zh h k
end
theorem ZiX(T p:Str)(n:Nat)(hn:n<=T.length):(decide (fromIndex T.length (n:Int)+p.length<=T.length)&&Builtin.Str.subAt T p (fromIndex T.length (n:Int)))=decide (p.cps.toList <+: T.cps.toList.drop n):=by
 have e:fromIndex T.length (n:Int)=n:=by
  unfold fromIndex;rw[if_neg (by lia)];lia
 rw[e,StrLaws.subAt_eq,Bool.eq_iff_iff,Bool.and_eq_true,decide_eq_true_eq,decide_eq_true_eq,beq_iff_eq,List.prefix_iff_eq_take];have hp:p.cps.toList.length=p.length:=Array.length_toList ..;have hT:T.cps.toList.length=T.length:=Array.length_toList ..;rw[hp];constructor
 ·rintro⟨_,h⟩;exact h.symm
 ·intro h;refine⟨?_,h.symm⟩;have:=congrArg List.length h;rw[hp,List.length_take,List.length_drop,hT] at this;lia
section
variable{X:Cx}
theorem Zke:MtM X "str.startswith" (fun x vs H Q=>∃(T p:Str)(n:Nat),x=.str T/\vs=[.str p,.int (n:Int)]/\n<=T.length/\Q (.bl (decide (p.cps.toList <+: T.cps.toList.drop n))) H):=by
 intro pins s σ H x vs v us Q I rx rv h;obtain⟨T,p,n,rfl,rfl,hn,q⟩:=h;obtain⟨t,rfl⟩:=rx;obtain⟨u1,u2,rfl,⟨t1,rfl⟩,⟨t2,rfl⟩⟩:=vals2 rv;have g:=gives_str_startswith_from T p (n:Int) t t1 t2;have e:=ZiX T p n hn;have e':((fromIndex T.length (n:Int)+p.length<=T.length:Bool)&&Builtin.Str.subAt T p (fromIndex T.length (n:Int)))=decide (p.cps.toList <+: T.cps.toList.drop n):=e;rw[e'] at g;exact call_gives PySem.F.slot_str_startswith (typeIs_str _ _ _) PySem.F.entry_str_startswith (PySem.F.args_str_startswith_3 _ _ _) g ⟨.bl _,H,I,rfl,q⟩
theorem ZfT:OpR X (compareOp .LtE) (fun x y H Q=>∃i j:Str,x=.str i/\y=.str j/\Q (.bl (!decide (j.cps.toList<i.cps.toList))) H):=by
 intro pins s σ H x y v u Q I rx ry h;obtain⟨i,j,rfl,rfl,q⟩:=h;obtain⟨t,rfl⟩:=rx;obtain⟨t',rfl⟩:=ry;exact ZmC ⟨.bl _,H,I,rfl,q⟩
theorem Zlw(a b:Nat):(!decide (([b]:List Nat) < [a]))=decide (a<=b):=by
 by_cases h:a<=b
 ·rw[decide_eq_true h,decide_eq_false (by simp[List.cons_lt_cons_iff];lia)];rfl
 ·rw[decide_eq_false h,decide_eq_true (by simp[List.cons_lt_cons_iff];lia)];rfl
end
end L2
namespace L2
open PySem PySem.Spec PyProof.Rows PySem.SeqAt
theorem Zic(a d:Value):argsOk "max" ⟨[a],[(Str.ofString "default",d)]⟩:=by unfold argsOk;kernel_rfl
section
variable{X:Cx}{pins:List (Addr×Obj)}{σ : St}{H:Hp}{s:Shared}{Q:VK}{l p it:Addr}{ns:List Int}{ud:Value}
theorem Zjy(hc:X.calm=true)(hu:X.A.in1.units<cLine)(ok:X.Ok)(hp0:H p=none)(hq:∀o,SqL X.K (upd H p o) l (ns.map V.int))(q:∀M,M∈ns->(∀x∈ns,x<=M)->Q (.int M) (upd H p (.lst []))) :
  ∀(r i:Nat)(b:Int)(s:Shared),ns.length-(i+1)=r->i<ns.length->b∈ns->(∀x∈ns.take (i+1),x<=b)->Inv (Zdp X) pins σ (upd H p (.lst [.int b,.int b])) s->s.heap.IsListIter it l (i+1)->ZcQ (Zdp X) pins (upd H p (.lst [.int b,.int b])) it ->
   codeAny (model X.prog X.w) X.A (.builtin "max.loop" ⟨[.ref it,.none,.ref p],[(Str.ofString "default",ud)]⟩) (Zpa X pins σ Q) s:=by
 have hname:(toString "max" ++ toString ".loop" : String)= "max.loop" := by decide
 intro r
 induction r with
 | zero =>
  intro i b s hr hi hb hle I st hf;have hp:(upd H p (.lst [.int b,.int b])) p=some (.lst [.int b,.int b]):=Zb;obtain⟨_,its,n,rv,_,e⟩:=I.lstM hp;obtain⟨ub,uk,rfl,rb,rk⟩:=vals2 rv;refine codeAny_builtin PySem.F.entry_max_loop ?_;rw[Around.under_plainId PySem.F.plain_max_loop _];show wpAny _ X.A.in1 (seqItems? (.ref p) >>= _) _ _ _;refine wpAny_bind (wpAny_seqItems e rfl ?_);show wpAny _ X.A.in1 (tryCatch (pyNext (.ref it)) _ >>= _) _ _ _;refine wpAny_bind (wpAny_tryCatch (ZjX hc I st (hq _) (by rw[List.length_map];lia) hf fun s1 I1=>?_));obtain⟨_,its,n,rv,_,e⟩:=I1.lstM hp;show wpAny _ X.A.in1 (updateSeq p (fun _=>#[]) >>= _) _ _ _;refine wpAny_bind (wpAny_updateSeq e rfl (wpAny_bind (wpAny_letGo (wpAny_pure ?_))));have I2:=Inv.out1 ok (I1.lset (f:=fun _=>#[]) (t':=s1.toks) (its':=[]) hp e rfl .nil (Nat.zero_le _));rw[Zgt] at I2;refine⟨.int b,_,I2,rb,q b hb fun x hx=>hle x ?_⟩;rw[List.take_of_length_le (by lia)];exact hx
 | succ r ih =>
  intro i b s hr hi hb hle I st hf;have hp:(upd H p (.lst [.int b,.int b])) p=some (.lst [.int b,.int b]):=Zb;obtain⟨_,its,n,rv,_,e⟩:=I.lstM hp;obtain⟨ub,uk,rfl,rb,rk⟩:=vals2 rv;have hi1:i+1<ns.length:=by lia
  have hx:(ns.map V.int)[i+1]?= some (.int (ns[i+1]'hi1)):=by rw[List.getElem?_map,List.getElem?_eq_getElem hi1];rfl
  have hxm:ns[i+1]'hi1∈ns:=List.getElem_mem _;have htk:ns.take (i+1+1)=ns.take (i+1) ++ [ns[i+1]'hi1]:=List.take_succ_eq_append_getElem hi1;generalize ns[i+1]'hi1=a at hx hxm htk;refine codeAny_builtin PySem.F.entry_max_loop ?_;rw[Around.under_plainId PySem.F.plain_max_loop _];show wpAny _ X.A.in1 (seqItems? (.ref p) >>= _) _ _ _;refine wpAny_bind (wpAny_seqItems e rfl ?_);show wpAny _ X.A.in1 (tryCatch (pyNext (.ref it)) _ >>= _) _ _ _;refine wpAny_bind (wpAny_tryCatch (ZhC I st (hq _) hx hf fun u s1 I1 st1 ru=>?_));obtain⟨ta,rfl⟩:=ru;obtain⟨tb,rfl⟩:=rk;show wpAny _ X.A.in1 (tryCatch (holding [Value.int a ta,Value.int a ta] (richCompare .Gt (.int a ta) (.int b tb) >>= _)) _ >>= _) _ _ _;refine wpAny_bind (wpAny_tryCatch (wpAny_holding (wpAny_bind (show wpAny _ _ (compareOp .Gt (.int a ta) (.int b tb)) _ _ _ from gt_int ?_))));refine wpAny_bind (wpAny_holding (wpAny_truthy_bool ?_));refine wpAny_bind (wpAny_letGo (wpAny_pure ?_));obtain⟨_,its2,n2,rv2,_,e2⟩:=I1.lstM hp;by_cases c:b<a
  ·rw[decide_eq_true c];simp only[if_true];refine wpAny_bind (wpAny_updateSeq e2 rfl (wpAny_bind (wpAny_letGo ?_)));rw[hname];have I2:=I1.lset (f:=fun _=>#[.int a ta,.int a ta]) (t':=s1.toks) (its':=[.int a ta,.int a ta]) (ys:=[.int a,.int a]) hp e2 rfl (.cons ⟨ta,rfl⟩ (.cons ⟨ta,rfl⟩ .nil)) (by show 2<=sizeLine;decide);have hf2:=Zly (o:=.lst [.int a,.int a]) hf ⟨_,hp⟩;rw[Zgt] at I2 hf2;refine wpAny_pure ⟨plainId_quiet PySem.F.plain_max_loop _,ih (i+1) a _ (by lia) hi1 hxm (fun x hx=>?_) I2 ?_ hf2⟩
   ·rw[htk] at hx;rcases List.mem_append.mp hx with hx|hx
    ·have:=hle x hx;lia
    ·rw[List.mem_singleton.mp hx];exact Int.le_refl _
   ·obtain⟨o,eo,_,back⟩:=ZfI st1;exact back _ ((Heap.get?_update_other _ _ (ZK hp hf.1)).trans eo)
  ·rw[decide_eq_false c];simp only[Bool.false_eq_true,if_false];refine wpAny_bind (wpAny_letGo ?_);rw[hname];refine wpAny_pure ⟨plainId_quiet PySem.F.plain_max_loop _,ih (i+1) b _ (by lia) hi1 hb (fun x hx=>?_) I1 st1 hf⟩;rw[htk] at hx;rcases List.mem_append.mp hx with hx|hx
   ·exact hle x hx
   ·rw[List.mem_singleton.mp hx];lia
def ZkN(K:PySem.W.Frag)(x d:V)(H:Hp)(Q:VK):Prop := ∃(l:Addr)(ns:List Int),x=.ref l/\SqL K H l (ns.map V.int)/\∀p,H p=none->(∀o,SqL K (upd H p o) l (ns.map V.int))/\(ns=[]->Q d (upd H p (.lst [])))/\∀M,M∈ns->(∀x∈ns,x<=M)->Q (.int M) (upd H p (.lst []))
theorem Zh5{x d:V}{u:Value}(hc:X.calm=true)(hu:X.A.in1.units<cLine)(I:Inv X pins σ H s)(rx:RelV x u)(rd:RelV d ud)(h:ZkN X.K x d H Q) :
  wpAny (model X.prog X.w) X.A (call (.builtin "max") [u] [(Str.ofString "default",ud)]) (EP X pins σ Q) X.xe s:=by
 have hname:(toString "max" ++ toString ".loop" : String)= "max.loop" := by decide
 obtain⟨l,ns,rfl,hq,alt⟩:=h;cases rx;obtain⟨its,rv,pl,hz⟩:=I.list hq;refine PyProof.Rows.kmk_tree PySem.F.kind_max PySem.F.plain_max PySem.F.entry_max (Zic _ _) ?_;show wpAny _ X.A.in1 (Builtin.Builtins.bindParams "max" ["key","default"] 0 ⟨[],[(Str.ofString "default",ud)]⟩ >>= _) _ _ s;refine wpAny_bind (wpAny_of_eq (show Builtin.Builtins.bindParams "max" ["key","default"] 0 ⟨[],[(Str.ofString "default",ud)]⟩=pure [none,some ud] from rfl) ?_);refine wpAny_bind (wpAny_pure ?_);refine wpAny_bind (wpAny_pyIter_list pl.isList ?_);refine wpAny_bind (wpAny_newList ?_ (Nat.zero_le _));rw[hname];refine wpAny_pure ⟨plainId_quiet PySem.F.plain_max_loop _,?_⟩;have hS:(s.heap.push { cls:=.type "list_iterator",data:=.fields #[.ref l,.int 0 0] }).objs.size=s.heap.objs.size+1:=size_push' ..;have I0:Inv (Zdp X) pins σ H { s with heap:=s.heap.push { cls:=.type "list_iterator",data:=.fields #[.ref l,.int 0 0] },toks:=s.toks }:=I.in1.kept fun b o e=>Heap.get?_push_of_some _ e;have I1:=I0.lnew (its:=[]) (t':=s.toks) .nil (Nat.zero_le _);have fr:H (s.heap.push { cls:=.type "list_iterator",data:=.fields #[.ref l,.int 0 0] }).objs.size=none:=I0.fresh;have ne:s.heap.objs.size≠(s.heap.push { cls:=.type "list_iterator",data:=.fields #[.ref l,.int 0 0] }).objs.size:=by rw[hS];exact Nat.ne_of_lt (Nat.lt_succ_self _)
 have hf:ZcQ (Zdp X) pins (upd H (s.heap.push { cls:=.type "list_iterator",data:=.fields #[.ref l,.int 0 0] }).objs.size (.lst [])) s.heap.objs.size:=I.in1.fpOk (Nat.le_refl _) (by rw[Zu ne];exact I.fresh);have st:((s.heap.push { cls:=.type "list_iterator",data:=.fields #[.ref l,.int 0 0] }).push { cls:=.type "list",data:=.seq ([]:List Value).toArray }).IsListIter s.heap.objs.size l 0:=⟨_,Heap.get?_push_of_some _ (Heap.get?_push_size _ rfl),rfl,rfl⟩;have hp0:(upd H (s.heap.push { cls:=.type "list_iterator",data:=.fields #[.ref l,.int 0 0] }).objs.size (.lst [])) (s.heap.push { cls:=.type "list_iterator",data:=.fields #[.ref l,.int 0 0] }).objs.size=some (.lst []):=Zb;obtain⟨_,its0,n0,rv0,_,e0⟩:=I1.lstM hp0;cases rv0;refine codeAny_builtin PySem.F.entry_max_loop ?_;rw[Around.under_plainId PySem.F.plain_max_loop _];show wpAny _ X.A.in1 (seqItems? (.ref _) >>= _) _ _ _;refine wpAny_bind (wpAny_seqItems e0 rfl ?_);show wpAny _ X.A.in1 (tryCatch (pyNext (.ref s.heap.objs.size)) _ >>= _) _ _ _;obtain⟨hq0,q0,q1⟩:=alt _ fr;cases ns with
 | nil =>
  refine wpAny_bind (wpAny_tryCatch (ZjX hc I1 st (hq0 _) (Nat.zero_le _) hf fun s1 I2=>?_));refine wpAny_bind (wpAny_rule (wpAny_pure ?_));exact⟨d,_,Inv.out1 I.ok I2,rd,q0 rfl⟩
 | cons a ns =>
  refine wpAny_bind (wpAny_tryCatch (ZhC (x:=.int a) I1 st (hq0 _) rfl hf fun u s1 I2 st1 ru=>?_));obtain⟨_,its2,n2,rv2,_,e2⟩:=I2.lstM hp0;show wpAny _ X.A.in1 (updateSeq _ (fun _=>#[u,u]) >>= _) _ _ _;refine wpAny_bind (wpAny_updateSeq e2 rfl ?_);rw[hname];have I3:=I2.lset (f:=fun _=>#[u,u]) (t':=s1.toks) (its':=[u,u]) (ys:=[.int a,.int a]) hp0 e2 rfl (.cons ru (.cons ru .nil)) (by show 2<=sizeLine;decide);have hf2:=Zly (o:=.lst [.int a,.int a]) hf ⟨_,hp0⟩;rw[Zgt] at I3 hf2;refine wpAny_pure ⟨plainId_quiet PySem.F.plain_max_loop _,Zjy (ns:=a::ns) hc hu I.ok fr hq0 q1 _ 0 a _ rfl (Nat.zero_lt_succ _) (List.mem_cons_self ..) (fun x hx=>?_) I3 ?_ hf2⟩
  ·rw[List.mem_singleton.mp hx];exact Int.le_refl _
  ·obtain⟨o,eo,_,back⟩:=ZfI st1;exact back _ ((Heap.get?_update_other _ _ (ZK hp0 hf.1)).trans eo)
end
section
variable{X:Cx}{e dx:Expr}{te td:TE}{p pos kp:Pos}
theorem ZkE(hu:X.A.units+200<cLine)(hc:X.calm=true)(hgm:Gl X (Str.ofString "max")) (hmm:X.mg (Str.ofString "max")=none) (pa:PA X [e] (Zc0 te Zhg)) (hde:PE X dx td)
  (hst:backTo pos (starEach [e] X.env)=(false,eval e X.env)::backTo pos (starEach [] X.env):=by rfl) (hpl:(backTo pos (starEach [e] X.env)).any (·.1)=false:=by rfl) :
  PE X (.Call (.Name (Str.ofString "max") p) [e] [⟨some (Str.ofString "default"),dx,kp⟩] pos) (fun σ H Q=>te σ H fun v H1=>td σ H1 fun d H2=>ZkN X.K v d H2 Q):=by
 intro pins s σ H Q I h;refine wpAny_Call_Name_kw (Zfz I hgm hmm ZnC ?_);refine callWith_kw (thn (pa pos pins s σ H (fun vs H1=>match vs with | [v]=>td σ H1 fun d H2=>ZkN X.K v d H2 Q|_=>False) I h) fun us s1 ⟨vs,H1,I1,r,q⟩=>?_) hst hpl
 match vs,r,q with
 | [v],r,q =>
  obtain⟨u,rfl,ru⟩:=r.one;have pk:PK X [⟨some (Str.ofString "default"),dx,kp⟩] (Zc0 td Zhg):=ZlR hde Zn5;refine thn (pk pos pins s1 σ H1 (fun zs H2=>match zs with | [d]=>ZkN X.K v d H2 Q|_=>False) I1 q) fun ws s2 ⟨zs,H2,I2,rz,q2⟩=>?_
  match zs,rz,q2 with
  | [d],rz,q2 =>
   obtain⟨ud,rfl,rd⟩:=vals1 rz;exact Zh5 hc (by show X.A.units+1<cLine;lia) I2 ru rd q2
end
end L2
namespace L2
open PySem PySem.Spec PyProof.Rows
section
variable{prog:Program}{w:World}{A:Around}{E:Value->Shared->Prop}{s:Shared}
theorem ZgE{d:Addr}{o:Obj}(hd:(d == sysModules)=false)(ho:s.heap.get? d=some o)(hc:o.cls=.type "dict") {Q:Value->Shared->Prop}
  (q:Q (.ref s.heap.objs.size) { s with heap:=s.heap.push { cls:=.type "dict_items",data:=.fields #[.ref d] } }) {pos:Pos}:wpAny (model prog w) A (callWith pos (.builtin "dict.items") [.ref d] [] []) Q E s:=by
 have hT:s.TypeIs (.ref d) "dict" := ⟨o,ho,hc⟩;refine Calls.callWith_builtin rfl (PySem.evalArgs_none ?_);refine wpAny_call_entry F.slot_dict_items hT F.entry_dict_items ?_ (F.args_dict_items_1 _);unfold Builtin.«dict.items»;refine wpAny_bind ?_;unfold Builtin.Dict.noArgs;refine wpAny_bind (wpAny_notOrdered_dict hT ?_);show wpAny _ _ (pure d) _ _ s;refine wpAny_pure ?_;show wpAny _ _ (Builtin.Dict.showsAll d >>= _) _ _ s;unfold Builtin.Dict.showsAll;rw[if_neg (by rw[hd];exact Bool.false_ne_true)];refine wpAny_bind (wpAny_pure ?_);exact wpAny_bind (wpAny_newObj_type (wpAny_pure ⟨_,rfl,q⟩))
theorem ZgF{v d:Addr}{o:Obj}{es:Array DictEntry}{ep:Nat}{Q:Value->Shared->Prop}(hv:s.heap.IsItemsView v d)(ho:s.heap.get? d=some o)(hdat:o.data=.dict es ep)
  (hQ:Q (.ref s.heap.objs.size) { s with heap:=s.heap.push { cls:=.type "dict_itemiterator",data:=.fields #[.none,.bool false,.ref d,.int 0 0,.int es.size 0,.int ep 0,.none,.none] } }) :
  wpAny (model prog w) A (pyIter (.ref v)) Q E s:=by
 obtain⟨ov,hov,hcv,hdv⟩:=id hv;refine wpAny_pyIter_slot hv.typeIs F.slot_dict_items_iter (wpAny_call_entry F.slot_dict_items_iter hv.typeIs F.entry_dict_items_iter ?_ (F.args_dict_items_iter_1 _));unfold Builtin.«dict_items.__iter__»;refine wpAny_bind (wpAny_pure (wpAny_bind ?_));unfold Builtin.Dict_items.dictOf;refine wpAny_bind (wpAny_field hov hdv (x:=.ref d) rfl (wpAny_pure (wpAny_bind ?_)));unfold Builtin.Dict_items.newIterator;refine wpAny_bind (wpAny_dictEntries ho hdat (wpAny_bind (wpAny_dictEpoch ho hdat ?_)));have hown:Builtin.Dict_items.ownsTuple "dict_itemiterator" = true:=by decide
 simp only[hown,if_true];refine wpAny_newObj_type (wpAny_pure ⟨_,rfl,"dict_itemiterator",_,⟨_,Heap.get?_push_size _ rfl,rfl⟩,F.slot_dict_itemiterator_next.lookup,?_⟩)
  (by simp only[sizeOk,Builtin.Dict_items.ownedTupleFields,List.size_toArray,List.length_append,List.length_cons,List.length_nil,sizeLine_eq];lia)
 simpa[rawInt,Builtin.Dict_items.ownedTupleFields] using hQ
set_option maxHeartbeats 1000000 in
theorem Zgq{it d:Addr}{od:Obj}{es:Array DictEntry}{i ep:Nat}{ok ov:Value}{Q:Option Value->Shared->Prop}(hit:IsItemIter s.heap it d i es.size ep ok ov)(hod:s.heap.get? d=some od)(hdd:od.data=.dict es ep)(hlt':i<es.size)
  (hQ:∀h',IsItemIterOut h' it d (i+1) es.size ep es[i].key es[i].val s.heap.objs.size->h'.get? s.heap.objs.size=some { cls:=.type "tuple",data:=.seq #[es[i].key,es[i].val] }->h'.objs.size=s.heap.objs.size+1 ->
   (∀b o,b≠it->s.heap.get? b=some o->h'.get? b=some o)->Q (some (.ref s.heap.objs.size)) { s with heap:=h' }) :
  wpAny (model prog w) A (pyNext (.ref it)) Q E s:=by
 obtain⟨hp,g,dr,tk,os⟩:=s;have hT:Shared.TypeIs ⟨hp,g,dr,tk,os⟩ (.ref it) "dict_itemiterator" := ⟨_,hit,rfl⟩;unfold pyNext;refine wpAny_bind (wpAny_attempt (wpAny_callSpecial?_slot (name:=Str.ofString "__next__") hT F.slot_dict_itemiterator_next (wpAny_call_entry F.slot_dict_itemiterator_next hT F.entry_dict_itemiterator_next ?_ (F.args_dict_itemiterator_next_1 _))));refine wpAny_bind (wpAny_pure (wpAny_bind (wpAny_bind ?_)))
 first|refine wpAny_bind (wpAny_typeNameOfWhole_itemiter hT (wpAny_pure ?_))|refine wpAny_bind (wpAny_typeNameOf_itemiter hT (wpAny_pure ?_))
 refine wpAny_bind (wpAny_fieldsOf hit rfl ?_);have hown:Builtin.Dict_items.ownsTuple "dict_itemiterator" = true:=by decide
 simp only[hown,if_true];show wpAny _ _ (if(Value.ref d == Value.none)=true then _ else _) _ _ _
 rw[if_neg (show ¬ ((Value.ref d == Value.none)=true) from Bool.false_ne_true)];refine wpAny_bind (wpAny_pure (wpAny_bind (wpAny_dictEntries hod hdd ?_)));rw[if_neg (by simp)];refine wpAny_bind (wpAny_pure (wpAny_bind (wpAny_dictEpoch hod hdd ?_)));rw[if_neg (by simp)];refine wpAny_pure ?_;simp only[show ¬ ((i:Int)<0) from by lia,if_false,Int.toNat_natCast,Array.getElem?_eq_getElem hlt'];refine wpAny_bind ?_
 first|refine wpAny_bind (wpAny_typeNameOfWhole_itemiter hT (wpAny_pure ?_))|refine wpAny_bind (wpAny_typeNameOf_itemiter hT (wpAny_pure ?_))
 refine wpAny_bind (wpAny_isOneOf_itemiter hT ?_);show wpAny _ _ (setField (.ref it) 3 (rawInt ((i:Int)+1)) >>= _) _ _ ⟨hp,g,dr,tk,os⟩;refine wpAny_bind (wpAny_setField_rec hit (by simp) fun h₁ he₁ hs₁=>?_)
 replace hs₁ : Heap.SameBut it hp h₁ := hs₁
 replace he₁ : IsItemIter h₁ it d (i+1) es.size ep ok ov:=by
  have e:((i+1:Nat):Int)=(i:Int)+1:=by lia
  unfold IsItemIter;rw[e];simpa[rawInt] using he₁
 have hT₁ : Shared.TypeIs ⟨h₁,g,dr,tk,os⟩ (.ref it) "dict_itemiterator" := ⟨_,he₁,rfl⟩;refine wpAny_bind (wpAny_holding (wpAny_bind (wpAny_isOneOf_itemiter hT₁ (wpAny_bind (wpAny_isOneOf_itemiter hT₁ ?_)))));show wpAny _ _ (Builtin.Dict_items.pairFromOwner (.ref it) 6 es[i].key es[i].val) _ _ ⟨h₁,g,dr,tk,os⟩;unfold Builtin.Dict_items.pairFromOwner;refine wpAny_bind (wpAny_newTuple ?_);have he₂ : IsItemIter (h₁.push { cls:=.type "tuple",data:=.seq #[es[i].key,es[i].val] }) it d (i+1) es.size ep ok ov:=Heap.get?_push_of_some _ he₁;generalize hh₂ : h₁.push { cls:=.type "tuple",data:=.seq #[es[i].key,es[i].val] }=h₂ at he₂;have hz₁ : h₁.objs.size=hp.objs.size:=hs₁.1;have hil:it<hp.objs.size:=Heap.lt_size hit;have ht₂ : h₂.get? hp.objs.size=some { cls:=.type "tuple",data:=.seq #[es[i].key,es[i].val] }:=by rw[<- hh₂,<- hz₁];exact Heap.get?_push_size _ rfl
 have hz₂ : h₂.objs.size=hp.objs.size+1:=by rw[<- hh₂,Heap.size_push,hz₁]
 have hk₂ : ∀b o,b≠it->hp.get? b=some o->h₂.get? b=some o:=fun b o hb e=>by rw[<- hh₂];exact Heap.get?_push_of_some _ (hs₁.extBut b o hb e)
 show wpAny _ _ (Builtin.Dict_items.ownedTupleIsFree (.ref it) >>= _) _ _ ⟨h₂,g,dr,tk,os⟩;rw[hz₁];clear hh₂ he₁ hs₁ hT₁ hz₁ h₁;refine wpAny_bind ?_;unfold Builtin.Dict_items.ownedTupleIsFree;refine wpAny_bind (wpAny_field he₂ rfl (x:=.none) rfl (wpAny_pure ?_));simp only[if_true];refine wpAny_bind (wpAny_field he₂ rfl (x:=ok) rfl (wpAny_bind (wpAny_field he₂ rfl (x:=ov) rfl ?_)));refine wpAny_bind (wpAny_setField_rec he₂ (by simp) fun h₃ he₃ hs₃=>?_)
 replace hs₃ : Heap.SameBut it h₂ h₃ := hs₃
 replace he₃ : IsItemIter h₃ it d (i+1) es.size ep es[i].key ov:=he₃
 refine wpAny_bind (wpAny_setField_rec he₃ (by simp) fun h₄ he₄ hs₄=>?_)
 replace hs₄ : Heap.SameBut it h₃ h₄ := hs₄
 replace he₄ : IsItemIter h₄ it d (i+1) es.size ep es[i].key es[i].val:=he₄
 refine wpAny_bind (wpAny_setField_rec he₄ (by simp) fun h₅ he₅ hs₅=>?_)
 replace hs₅ : Heap.SameBut it h₄ h₅ := hs₅
 replace he₅ : IsItemIterOut h₅ it d (i+1) es.size ep es[i].key es[i].val hp.objs.size:=he₅
 refine wpAny_bind (wpAny_setField_rec he₅ (by simp) fun h₆ he₆ hs₆=>?_)
 replace hs₆ : Heap.SameBut it h₅ h₆ := hs₆
 replace he₆ : IsItemIterOut h₆ it d (i+1) es.size ep es[i].key es[i].val hp.objs.size:=he₆
 refine wpAny_bind (wpAny_letGo (wpAny_pure (wpAny_pure ⟨_,rfl,wpAny_pure (hQ h₆ he₆ ?_ ?_ ?_)⟩)))
 ·exact hs₆.extBut _ _ (Nat.ne_of_gt hil) (hs₅.extBut _ _ (Nat.ne_of_gt hil) (hs₄.extBut _ _ (Nat.ne_of_gt hil) (hs₃.extBut _ _ (Nat.ne_of_gt hil) ht₂)))
 ·show h₆.objs.size=hp.objs.size+1;rw[hs₆.1,hs₅.1,hs₄.1,hs₃.1,hz₂]
 ·exact fun b o hb e=>hs₆.extBut b o hb (hs₅.extBut b o hb (hs₄.extBut b o hb (hs₃.extBut b o hb (hk₂ b o hb e))))
set_option maxHeartbeats 1000000 in
theorem Zh0{it d:Addr}{od:Obj}{es:Array DictEntry}{i ep:Nat}{ok ov:Value}{Q:Option Value->Shared->Prop}(hh:A.handled=none)(hit:IsItemIter s.heap it d i es.size ep ok ov)(hod:s.heap.get? d=some od)(hdd:od.data=.dict es ep)(hge:es.size<=i)
  (hQ:∀h',Heap.ExtBut it s.heap h'->Q none { s with heap:=h' }):wpAny (model prog w) A (pyNext (.ref it)) Q E s:=by
 have hT:s.TypeIs (.ref it) "dict_itemiterator" := ⟨_,hit,rfl⟩;unfold pyNext;refine wpAny_bind (wpAny_attempt (wpAny_callSpecial?_slot (name:=Str.ofString "__next__") hT F.slot_dict_itemiterator_next (wpAny_call_entry F.slot_dict_itemiterator_next hT F.entry_dict_itemiterator_next ?_ (F.args_dict_itemiterator_next_1 _))));refine wpAny_bind (wpAny_pure (wpAny_bind (wpAny_bind ?_)))
 first|refine wpAny_bind (wpAny_typeNameOfWhole_itemiter hT (wpAny_pure ?_))|refine wpAny_bind (wpAny_typeNameOf_itemiter hT (wpAny_pure ?_))
 refine wpAny_bind (wpAny_fieldsOf hit rfl ?_);have hown:Builtin.Dict_items.ownsTuple "dict_itemiterator" = true:=by decide
 simp only[hown,if_true];show wpAny _ _ (if(Value.ref d == Value.none)=true then _ else _) _ _ s
 rw[if_neg (show ¬ ((Value.ref d == Value.none)=true) from Bool.false_ne_true)];refine wpAny_bind (wpAny_pure (wpAny_bind (wpAny_dictEntries hod hdd ?_)));rw[if_neg (by simp)];refine wpAny_bind (wpAny_pure (wpAny_bind (wpAny_dictEpoch hod hdd ?_)));rw[if_neg (by simp)];refine wpAny_pure ?_;simp only[show ¬ ((i:Int)<0) from by lia,if_false,Int.toNat_natCast,Array.getElem?_eq_none hge];refine wpAny_bind ?_
 first|refine wpAny_bind (wpAny_typeNameOfWhole_itemiter hT (wpAny_pure ?_))|refine wpAny_bind (wpAny_typeNameOf_itemiter hT (wpAny_pure ?_))
 show wpAny _ _ (setField (.ref it) 2 .none >>= _) _ _ s;refine wpAny_bind (wpAny_setField hit rfl (by simp) ?_);show wpAny _ _ (newExc (.type "StopIteration") [] >>= _) _ _ _;refine wpAny_bind ?_;simp only[newExc,newTuple];refine wpAny_bind (wpAny_newObj_type ?_ (by size_fits));refine wpAny_bind (m:=firstArgMember _ _) (wpAny_of_eq (a:=Value.none) (by first|rfl|(simp only[firstArgMember];rfl)) ?_)
 refine wpAny_newObj_type ?_ (by size_fits);simp only[raiseNew];refine wpAny_bind (wpAny_handled ?_);rw[show A.in1.handled=none from hh];refine wpAny_bind (wpAny_pure (wpAny_throw ?_));refine wpAny_bind (wpAny_isInstance (T := "StopIteration") (b:=true) ⟨_,Heap.get?_push_size _ rfl,rfl⟩ isSubtype_stop ?_);exact wpAny_pure (hQ _ (((Heap.SameBut.update ..).extBut.push _).push _))
end
theorem RowsV.length{es:List DictEntry}{D:List (Str×V)}(h:RowsV es D):es.length=D.length:=by
 induction h with
 | nil=>rfl
 | cons _ _ _ ih=>rw[List.length_cons,List.length_cons,ih]
theorem RowsV.get{es:List DictEntry}{D:List (Str×V)}(h:RowsV es D):∀(i:Nat)(e:DictEntry),es[i]?= some e->∃k t v,D[i]?= some (k,v)/\e.key=.str k t/\RelV v e.val:=by
 induction h with
 | nil=>intro i e h;cases i <;> cases h
 | @cons e x t v es D hk hv _ ih =>
  intro i e' h;cases i with
  | zero =>
   cases h;exact⟨x,t,v,rfl,hk,hv⟩
  | succ i=>exact ih i e' h
def Itk(D:List (Str×V)):It :=
 ⟨fun i _=>i<D.length,fun i H x H'=>∃p k v,H p=none/\x=.ref p/\D[i]?= some (k,v)/\H'=upd H p (.tup [.str k,v]),fun i _=>D.length<=i⟩
theorem ZhN{P:Program}{w:World}{K:PySem.W.Frag}{elts:List Expr}{x1}{tp:Pos}{A it:Addr}{es:Array DictEntry}{ep:Nat}{sl:Array (Option Value)}{D:List (Str×V)}(hlk:K.lookup A=some ⟨.type "dict",none,.dict es ep,sl⟩) (hr:RowsV es.toList D) :
  Turn P w K (.Tuple elts x1 tp) (Itk D) [it] it (fun i h=>∃ok ov,IsItemIter h it A i es.size ep ok ov) where
 mem:=by simp
 obj:=fun i h st b hb=>by
  obtain⟨ok,ov,he⟩:=st;obtain rfl:=List.mem_singleton.mp hb;exact⟨_,he,fun v z=>by cases z⟩
 keep:=fun i h h' st k=>by
  obtain⟨ok,ov,he⟩:=st;exact⟨ok,ov,k it (by simp) _ he⟩
 item:=by
  intro X hP hw hK hc i pins s σ H E I hf st hg;subst hP hw hK;obtain⟨ok,ov,he⟩:=st;have hod:=I.kIn A _ hlk;have hlen:=hr.length;rw[Array.length_toList] at hlen;have hlt:i<es.size:=by rw[hlen];exact hg
  obtain⟨k,t,v,hD,hkey,hval⟩:=hr.get i es[i] (by simp[hlt]);have fe:=hf it (by simp);refine Zgq he hod rfl hlt fun h1 he1 ht1 hz1 hk1=>⟨_,rfl,wpAny_letOwnedTupleGo_items he1 fun h2 he2 hs2=>?_⟩;have hfresh:H s.heap.objs.size=none:=I.hok.fresh (Nat.le_refl _);have nee:s.heap.objs.size≠it:=Nat.ne_of_gt (Heap.lt_size he);have kp:∀b o,b ∉ [it]->s.heap.get? b=some o->h2.get? b=some o:=fun b o hb q=>by
   have b1:b≠it:=fun z=>hb (by rw[z];simp);exact(hs2.2 b b1).trans (hk1 b o b1 q)
  have hp2:h2.get? s.heap.objs.size=some { cls:=.type "tuple",data:=.seq #[es[i].key,es[i].val] }:=(hs2.2 _ nee).trans ht1;have nb:∀b o,s.heap.get? b=some o->b≠s.heap.objs.size:=fun b o q=>Nat.ne_of_lt (Heap.lt_size q);have tracked:∀b o,H b=some o->b ∉ [it]:=fun b o q hb=>by
   obtain rfl:=List.mem_singleton.mp hb;rw[fe.1] at q;cases q
  have hok2:HOk X.prog X.w (upd H s.heap.objs.size (.tup [.str k,v])) h2:=fun b o q=>by
   by_cases hb:b=s.heap.objs.size
   ·subst hb;rw[Zb] at q;cases q;exact⟨by show 2<=sizeLine;decide,[es[i].key,es[i].val],.cons ⟨t,hkey⟩ (.cons hval .nil),_,hp2,rfl,_,rfl⟩
   ·rw[Zu hb] at q;refine(I.hok b o q).stay (fun c v hcv r=>kp c v ?_ r) (fun c r=>by rw[Zu (ZK r hfresh)];exact r) fun c ys r=>by rw[Zu (ZK r hfresh)];exact r
    rcases hcv with rfl|hcv
    ·exact tracked _ _ q
    ·exact tracked _ _ hcv
  have I2:Inv X pins σ (upd H s.heap.objs.size (.tup [.str k,v])) { s with heap:=h2,gens:=s.gens,drawn:=s.drawn,toks:=s.toks }:=by
   refine I.step (ch:=[it]) (fun b hb=>?_) (fun b o _ _ hb q _=>kp b o hb q) (fun b o _ _ hb q _=>⟨o.slots,kp b o hb q⟩) (fun b o _ q n=>by rw[Zu (nb b o q)];exact n) (fun b o hb q=>⟨o,kp b o hb q⟩)
    (fun b ys q=>by rw[Zu (ZK q hfresh)];exact q) (fun b o ys q=>by rw[Zu (ZK q hfresh)];exact q) (fun b ps q=>⟨#[],by rw[Zu (ZK q hfresh),q];simp⟩) (fun m hm=>?_) hok2 I.bare
   ·have f:ZcQ X pins H b:=hf b hb;exact⟨f.2.2.2.1,f.2.1,f.2.2.2.2.1,f.2.2.2.2.2⟩
   ·obtain⟨o,es',ep',ho,r⟩:=hm;refine⟨o,es',ep',kp _ o (fun hb=>?_) ho,r⟩;exact(hf _ hb).2.1 rfl
  refine⟨.ref s.heap.objs.size,_,I2,rfl,⟨_,k,v,hfresh,rfl,hD,rfl⟩,⟨_,_,he2⟩,fun b hb=>?_⟩;obtain rfl:=List.mem_singleton.mp hb;rw[Zu nee.symm];exact fe.1
 done:=by
  intro X hP hw hK hc i pins s σ H E I hf st hg;subst hP hw hK;obtain⟨ok,ov,he⟩:=st;have hod:=I.kIn A _ hlk;have hlen:=hr.length;rw[Array.length_toList] at hlen;obtain⟨f0,f1,f2,f3,f4,f5⟩:=hf it (by simp);exact Zh0 (I.ok.hd hc) he hod rfl (by rw[hlen];exact hg) fun h' eb=>⟨rfl,I.turned (t':=s.toks) (fun b o hb q=>eb b o hb q) f0 f1 f3 f4 f5⟩
 self:=fun _ _ _ _ _ st h=>by
  obtain⟨ok,ov,he⟩:=st;exact PySem.W.kcp_self he h
section
variable{X:Cx}{elts:List Expr}{x1:Nat}{tp:Pos}
def ZnU(K:PySem.W.Frag)(to:TE):TI:=fun σ H R=>to σ H fun x H1=>∃A D,x=.ref A/\KTab K A D/\(A == sysModules)=false/\R (Itk D) H1
theorem ZkX{o:Expr}{to:TE}{apos pos:Pos}(ho:PE X o to)(hbase:attributeBase o "items" X.env (eval o X.env)=eval o X.env:=by rfl) (hline:(apos.endLine == pos.line)=true:=by rfl) :
  PI X (.Tuple elts x1 tp) (.Call (.Attribute o "items" apos) [] [] pos) (ZnU X.K to):=by
 intro pins s σ H R I h;refine wpAny_Call_method0_late hbase hline (thn (ho pins s σ H _ I h) fun v s1 ⟨x,H1,I1,r1,A,D,ex,hK,hA,q⟩=>?_);subst ex;obtain rfl:v=Value.ref A:=r1;obtain⟨es,ep,sl,hlk,hr⟩:=hK;have hod:=I1.kIn A _ hlk;refine⟨"dict","dict.items",F.plainAttrs_dict,F.slot_dict_items,F.type_dict_items,⟨_,hod,rfl⟩,fun a e=>by cases e;exact⟨_,hod,rfl⟩,ZgE hA hod rfl ?_⟩;have hk1:∀b o,s1.heap.get? b=some o->(s1.heap.push { cls:=.type "dict_items",data:=.fields #[.ref A] }).get? b=some o:=fun b o e=>Heap.get?_push_of_some _ e;refine ZgF (es:=es) (ep:=ep) ⟨_,Heap.get?_push_size _ rfl,rfl,rfl⟩ (hk1 A _ hod) rfl ?_;have hk2:∀b o,s1.heap.get? b=some o->((s1.heap.push { cls:=.type "dict_items",data:=.fields #[.ref A] }).push { cls:=.type "dict_itemiterator",data:=.fields #[.none,.bool false,.ref A,.int 0 0,.int es.size 0,.int ep 0,.none,.none] }).get? b=some o:=fun b o e=>Heap.get?_push_of_some _ (hk1 b o e);refine⟨(s1.heap.push { cls:=.type "dict_items",data:=.fields #[.ref A] }).objs.size,[(s1.heap.push { cls:=.type "dict_items",data:=.fields #[.ref A] }).objs.size],_,_,H1,rfl,I1.kept (t':=s1.toks) hk2,ZhN hlk hr,⟨_,_,Heap.get?_push_size _ rfl⟩,fun b hb=>?_,q⟩;have hb':s1.heap.objs.size<=b:=by
  rw[List.mem_singleton.mp hb,Heap.size_push];exact Nat.le_succ _
 exact I1.fpOk hb' (I1.hok.fresh hb')
end
theorem Zka{D':List (Str×V)}{g:TG}{tb:TS}{D:Ends}{σ : St}{H:Hp}(Pv:Nat->St->Hp->Prop)(h0:Pv 0 σ H)
  (hs:∀i k v p σ H,D'[i]?= some (k,v)->Pv i σ H->H p=none->g (.ref p) σ (upd H p (.tup [.str k,v])) fun σ2 H2=>tb { D with nx:=Pv (i+1),ct:=Pv (i+1),bk:=D.nx } σ2 H2) (hd:∀ σ H,Pv D'.length σ H->D.nx σ H) :
  ∃W:Nat->Nat->St->Hp->Prop,(∃m,W 0 m σ H)/\∀i m σ H,W i m σ H ->
   ((Itk D').stop i H/\D.nx σ H)\/((Itk D').go i H/\∃N:St->Hp->Prop,(∀ σ' H',N σ' H'->∃m',m'<m/\W (i+1) m' σ' H')/\∀x H',(Itk D').yld i H x H'->g x σ H' fun σ2 H2=>tb { D with nx:=N,ct:=N,bk:=D.nx } σ2 H2):=by
 refine⟨fun i m σ H=>m=D'.length-i/\i<=D'.length/\Pv i σ H,⟨D'.length,by simp,Nat.zero_le _,h0⟩,?_⟩;rintro i m σ H ⟨rfl,hi,p⟩;by_cases hlt:i<D'.length
 ·refine .inr ⟨hlt,Pv (i+1),fun σ' H' p'=>⟨D'.length-(i+1),by lia,rfl,hlt,p'⟩,fun x H' y=>?_⟩;obtain⟨b,k,v,hb,hx,hy,hH⟩:=y;subst hx hH;exact hs i k v b σ H hy p hb
 ·have e:i=D'.length:=by lia
  subst e;exact .inl ⟨Nat.le_refl _,hd σ H p⟩
end L2
namespace Srd
open PySem PyProof.Rows
theorem Ze2:typeLookup (.type "tuple") "keys" = pure none:=by rw[typeLookup_type,builtinLookup_eq_fast];kernel_rfl
section
variable{prog:Program}{w:World}{A:Around}{E:Value->Shared->Prop}{h:Heap}{g:Array GenState}{d:Drawn}{t:Nat}{os:OsState}{a:Addr}
theorem ZdA{tk:Tok}{Q:Fin->Shared->Prop}{its:Array Value}{n:Nat}{sl:Array (Option Value)}(hh:A.handled=none)(hx:h.get? a=some { cls:=.type "tuple",dict:=none,data:=.seq its n,slots:=sl }) (hq:∀(x:Addr)(h':Heap)(tk:Nat),(∀b u,h.get? b=some u->h'.get? b=some u)->(∃ob,h'.get? x=some ob/\ob.cls=.type "AttributeError")->h.objs.size<=h'.objs.size->E (.ref x) ⟨h',g,d,tk,os⟩) :
  wpAny (model prog w) A (Builtin.«object.__getattribute__» ⟨[.ref a,.str "keys" tk],[]⟩) Q E ⟨h,g,d,t,os⟩:=by
 have hT:(⟨h,g,d,t,os⟩:Shared).TypeIs (.ref a) "tuple" := ⟨_,hx,rfl⟩;have f4:=Ze2
 repeat (any_goals (first|assumption|with_reducible apply Zey hh|wp_step))
 decide +kernel
theorem Zdx:typeLookup (.type "tuple") "__getattr__" = pure none:=by rw[typeLookup_type,builtinLookup_eq_fast];kernel_rfl
theorem ZdS{tk:Tok}{R:Result->Shared->Prop}{its:Array Value}{n:Nat}{sl:Array (Option Value)}(hh:A.handled=none)(hx:h.get? a=some { cls:=.type "tuple",dict:=none,data:=.seq its n,slots:=sl }) (hq:∀(x:Addr)(h':Heap)(tk:Nat),(∀b u,h.get? b=some u->h'.get? b=some u)->(∃ob,h'.get? x=some ob/\ob.cls=.type "AttributeError")->h.objs.size<=h'.objs.size->R (.error (.ref x)) ⟨h',g,d,tk,os⟩) :
  codeAny (model prog w) A (.call (.builtin "tuple.__getattribute__") ⟨[.ref a,.str "keys" tk],[]⟩) R ⟨h,g,d,t,os⟩ :=
 codeAny_call_builtin F.slot_tuple_getattribute.plain F.entry_tuple_ga (F.slot_tuple_getattribute.check _ _ _ _ _ _ _ _ (show(⟨h,g,d,t,os⟩:Shared).TypeIs (.ref a) "tuple" from⟨_,hx,rfl⟩) (F.args_tuple_getattribute_2 _ _) (ZdA hh hx hq))
theorem ZeV{tk:Tok}{Q:Value->Shared->Prop}{its:Array Value}{n:Nat}{sl:Array (Option Value)}(hh:A.handled=none)(hx:h.get? a=some { cls:=.type "tuple",dict:=none,data:=.seq its n,slots:=sl }) (hq:∀(x:Addr)(h':Heap)(tk:Nat),(∀b u,h.get? b=some u->h'.get? b=some u)->(∃ob,h'.get? x=some ob/\ob.cls=.type "AttributeError")->h.objs.size<=h'.objs.size->E (.ref x) ⟨h',g,d,tk,os⟩) :
  wpAny (model prog w) A (getAttrBy (.ref a) (.str "keys" tk) false) Q E ⟨h,g,d,t,os⟩:=by
 have hT:(⟨h,g,d,t,os⟩:Shared).TypeIs (.ref a) "tuple" := ⟨_,hx,rfl⟩;have f2:=F.slot_tuple_getattribute.lookup;have f3:=F.slot_tuple_getattribute.bind (.ref a);have f4:=Zdx
 repeat (any_goals (first|assumption|wp_step))
 refine ZdS hh hx fun x h' tk' k1 k2 k3=>?_;obtain⟨ob,e2,c2⟩:=k2;dsimp only;unfold getattributeRaised;refine wpAny_bind (wpAny_isInstance (T := "AttributeError") (b:=true) ⟨ob,e2,c2⟩ Za8 ?_);rw[if_pos rfl];unfold hookBehind;rw[if_neg (by decide)];refine wpAny_bind (wpAny_of_eq f4 ?_);unfold hookOrError attributeErrorLeaves;dsimp only;rw[if_pos (by decide)];exact wpAny_bind (wpAny_throw (hq x h' tk' k1 ⟨ob,e2,c2⟩ k3))
theorem Zd9{Q:Option Value->Shared->Prop}{its:Array Value}{n:Nat}{sl:Array (Option Value)}(hh:A.handled=none)(hx:h.get? a=some { cls:=.type "tuple",dict:=none,data:=.seq its n,slots:=sl }) (hq:∀(h':Heap)(tk:Nat),(∀b u,h.get? b=some u->h'.get? b=some u)->h.objs.size<=h'.objs.size->Q none ⟨h',g,d,tk,os⟩) :
  wpAny (model prog w) A (getAttr? (.ref a) "keys") Q E ⟨h,g,d,t,os⟩:=by
 unfold getAttr? getAttrBy?
 repeat (any_goals (first|assumption|with_reducible apply ZeV hh hx|wp_step))
 intro x h' tk' k1 k2 k3;obtain⟨ob,e2,c2⟩:=k2;dsimp only;refine wpAny_bind (wpAny_isInstance (T := "AttributeError") (b:=true) ⟨ob,e2,c2⟩ Za8 ?_);rw[if_pos rfl];exact wpAny_pure (hq h' tk' k1 k3)
end
section
variable{prog:Program}{w:World}{K:Type}[DecidableEq K]{knd:KeyKind prog w K}{A:Around}{E:Value->Shared->Prop}{R:Result->Shared->Prop}
set_option maxHeartbeats 1000000 in
theorem ZhQ{h0:Heap}{D I l:Addr}{items:Array Value}{ps:List (K×Value)}(hh:A.in1.handled=none)(ht:Ze8 knd h0 D items ps)(hDI:D<I)(hlI:l≠I)(hn:items.size<=100000):∀(k i:Nat)(j:Int)(jt:Tok)(s:Shared),items.size-i=k->i<=items.size->(s.heap.IsTupleIter I l i/\s.heap.IsTuple l items)->l<D->s.heap.DictOf knd D (merged [] (ps.take i))->(∀b o,b<D->h0.get? b=some o->s.heap.get? b=some o) ->
   (∀h' tk,h'.DictOf knd D (merged [] ps)->(∀b o,b<D->h0.get? b=some o->h'.get? b=some o)->R (.ok (.ret .none)) { s with heap:=h',toks:=tk })->codeAny (model prog w) A (.builtin "dict.update.loop" ⟨[.ref D,.ref I,.int j jt,.none],[]⟩) R s:=by
 have W:=Walks.tuple (prog:=prog) (w:=w) (A:=A.in1) hh I l hlI items;have DK:∀{h h':Heap}{kvs:List (K×Value)},h.DictOf knd D kvs->(∀b o,b<=D->h.get? b=some o->h'.get? b=some o)->h'.DictOf knd D kvs:=fun{h h' kvs} ⟨o,es,ep,ho,r⟩ hk=>⟨o,es,ep,hk D o (Nat.le_refl _) ho,r⟩;intro k
 induction k with
 | zero =>
  intro i j jt s hk hi hst hlD hd hb hR;obtain rfl:i=items.size:=by lia
  refine codeAny_builtin Zaq ?_;rw[Around.under_plainId ZP _];change wpAny _ A.in1 (pyNext (.ref I) >>= _) _ _ s;refine wpAny_bind (W.done s _ _ hst fun h' tk hm=>?_);change wpAny _ A.in1 (Builtin.Dict.addKeywords D [] >>= fun _=>ret Value.none) _ _ _;refine wpAny_bind ?_;unfold Builtin.Dict.addKeywords;refine wpAny_pure (wpAny_pure ?_);rw[ht.1,List.take_length] at hd;exact hR h' tk (DK hd fun b o hb' e=>hm b o (fun z=>Nat.lt_irrefl _ (Nat.lt_of_le_of_lt (List.mem_singleton.mp z ▸ hb') hDI)) e) fun b o hb' e=>hm b o (fun z=>Nat.lt_irrefl _ (Nat.lt_trans (List.mem_singleton.mp z ▸ hb') hDI)) (hb b o hb' e)
 | succ k ih =>
  intro i j jt s hk hi hst hlD hd hb hR;have hlt:i<items.size:=by lia
  refine codeAny_builtin Zaq ?_;rw[Around.under_plainId ZP _];change wpAny _ A.in1 (pyNext (.ref I) >>= _) _ _ s;refine wpAny_bind (W.item i s _ _ hlt hst fun v h' tk hP hst' hm=>?_);have hd':h'.DictOf knd D (merged [] (ps.take i)):=DK hd fun b o hb' e=>hm b o (fun z=>Nat.lt_irrefl _ (Nat.lt_of_le_of_lt (List.mem_singleton.mp z ▸ hb') hDI)) e;have hb1:∀b o,b<D->h0.get? b=some o->h'.get? b=some o:=fun b o hb' e=>hm b o (fun z=>Nat.lt_irrefl _ (Nat.lt_trans (List.mem_singleton.mp z ▸ hb') hDI)) (hb b o hb' e);have hpl:i<ps.length:=by have:=ht.1;lia
  have hp:=ht.2 i v ps[i] hP (List.getElem?_eq_getElem hpl) h' hb1;refine wpAny_bind (wpAny_holding (wpAny_bind (wpAny_tryCatch (pair_items (s:={ s with heap:=h',toks:=tk }) hp fun uk huk=>?_))));dsimp only;have hml:(merged [] (ps.take i)).length<=sizeLine:=by
   have:=merged_length_le ([]:List (K×Value)) (ps.take i);rw[List.length_take] at this;have h0l:([]:List (K×Value)).length=0:=rfl;have:=ht.1;rw[sizeLine_eq];lia
  refine wpAny_holding (wpAny_dictSet_pairs (s:={ s with heap:=h',toks:=tk }) (hsz:=hml) huk hd' fun h2 hd2 sb=>?_);have hk2:∀b o,b≠D->h'.get? b=some o->h2.get? b=some o:=fun b o hb e=>(sb.2 b hb).trans e;refine wpAny_pure ⟨plainId_quiet ZP _,ih (i+1) (j+1) 0 _ (by lia) hlt ?_ hlD ?_ (fun b o hb' e=>hk2 b o (Nat.ne_of_lt hb') (hb1 b o hb' e)) fun h3 tk3 hw3 hb3=>hR h3 tk3 hw3 hb3⟩
  ·refine W.frame _ h' h2 hst' fun b hb o e=>hk2 b o (fun z=>?_) e;simp only[List.mem_cons,List.not_mem_nil,or_false] at hb;rcases hb with rfl|rfl
   ·exact Nat.lt_irrefl _ (z ▸ hDI)
   ·exact Nat.lt_irrefl _ (z ▸ hlD)
  ·rw[merged_take_succ [] ps i ps[i] (List.getElem?_eq_getElem hpl)];exact hd2
set_option maxHeartbeats 1000000 in
theorem Zdy{s:Shared}{l:Addr}{items:Array Value}{n:Nat}{sl:Array (Option Value)}{ps:List (K×Value)}{Q:Value->Shared->Prop}(hh:A.handled=none)(hl:s.heap.get? l=some { cls:=.type "tuple",dict:=none,data:=.seq items n,slots:=sl }) (ht:Ze8 knd s.heap s.heap.objs.size items ps) (hn:items.size<=100000)
  (q:∀(h':Heap)(tk:Nat),h'.DictOf knd s.heap.objs.size (merged [] ps)->(∀b o,s.heap.get? b=some o->h'.get? b=some o)->Q (.ref s.heap.objs.size) { s with heap:=h',toks:=tk }) :
  wpAny (model prog w) A (call (.type "dict") [.ref l]) Q E s:=by
 refine callType_codes (Q₁ := fun obj s₁=>obj=.ref s.heap.objs.size/\s₁ = { s with heap:=s.heap.push { cls:=.type "dict",data:=.dict #[] } }) F.kt_called_dict (F.kt_typeCall_dict_1 _) F.entry_dict_init (kt_code_dict_new _ ⟨rfl,rfl⟩) ?_;rintro obj s₁ ⟨rfl,rfl⟩;have hnew:(s.heap.push { cls:=.type "dict",data:=.dict #[] }).DictOf knd s.heap.objs.size []:=Heap.DictOf.new s.heap;have hl1:(s.heap.push { cls:=.type "dict",data:=.dict #[] }).get? l=some { cls:=.type "tuple",dict:=none,data:=.seq items n,slots:=sl }:=Heap.get?_push_of_some _ hl;have hlD:l<s.heap.objs.size:=Heap.lt_size hl;have k0:∀b o,b<s.heap.objs.size->s.heap.get? b=some o->(s.heap.push { cls:=.type "dict",data:=.dict #[] }).get? b=some o:=fun b o _ e=>Heap.get?_push_of_some _ e;have z0:(s.heap.push { cls:=.type "dict",data:=.dict #[] }).objs.size=s.heap.objs.size+1:=Heap.size_push ..;refine⟨hnew.typeIs,F.args_dict_init_2 _ _,?_⟩;generalize s.heap.push { cls:=.type "dict",data:=.dict #[] }=h1 at hnew hl1 k0 z0;unfold Builtin.«dict.__init__»;refine wpAny_bind ?_;unfold Builtin.Dict.selfAndRest;refine wpAny_bind (wpAny_notOrdered_dict hnew.typeIs ?_);show wpAny _ _ (pure (s.heap.objs.size,[Value.ref l])) _ _ _;refine wpAny_pure ?_;show wpAny _ _ (Builtin.Dict.updateFrom "dict.__init__" s.heap.objs.size (.ref l) [] .none) _ _ _;unfold Builtin.Dict.updateFrom;refine wpAny_bind (wpAny_typeOf (T := "tuple") ⟨_,hl1,rfl⟩ ?_);rw[if_pos (by decide)];refine wpAny_bind (Zd9 hh hl1 fun h2 tk2 k2 z2=>?_);rw[if_pos (show(none:Option Value).isNone=true from rfl)];refine wpAny_bind (wpAny_rule ?_);have hl2:=k2 _ _ hl1;have hL2:h2.IsTuple l items:=⟨_,hl2,rfl,n,rfl⟩;refine wpAny_bind (wpAny_pyIter_tuple hL2 ?_);have hd2:h2.DictOf knd s.heap.objs.size []:=let ⟨o,es,ep,ho,r⟩:=hnew;⟨o,es,ep,k2 _ _ ho,r⟩;have hd3:(h2.push { cls:=.type "tuple_iterator",data:=.fields #[.ref l,.int 0 0] }).DictOf knd s.heap.objs.size []:=hd2.push _;have hsz:s.heap.objs.size<h2.objs.size:=by lia
 refine wpAny_pure ⟨plainId_quiet ZP _,?_⟩;refine ZhQ (knd:=knd) (h0:=s.heap) (by simpa using hh) ht hsz (Nat.ne_of_lt (Nat.lt_trans hlD hsz)) hn (items.size-0) 0 0 0 _ rfl (Nat.zero_le _) ⟨⟨_,Heap.get?_push_size _ rfl,rfl,rfl⟩,hL2.push _⟩ hlD hd3 (fun b o hb e=>Heap.get?_push_of_some _ (k2 _ _ (k0 b o hb e))) fun h' tk hd' hb'=>?_;exact⟨rfl,q h' tk hd' fun b o e=>hb' b o (Heap.lt_size e) e⟩
end
end Srd
namespace L2
open PySem PySem.Spec PyProof.Rows
section
variable{X:Cx}
theorem Ze4(hc:X.calm=true):ZbR X (.type "dict") (fun xs H Q=>∃l ob ys kvs,xs=[.ref l]/\H l=some (.frz ob (.tup ys))/\ob.dict=none/\ys.length<=90000/\Paired (fun(y:V)(kv:Key×V)=>∃t,y=.ref t/\H t=some (.tup [kV kv.1,kv.2])) ys kvs/\∀d,H d=none->Q (.ref d) (upd H d (.dK (putAll kvs)))):=by
 intro pins s σ H xs us Q I r h;obtain⟨l,ob,ys,kvs,rfl,hq,hdi,hlen,hp,q⟩:=h;obtain⟨u,rfl,ru⟩:=vals1 r;cases ru;obtain⟨ho,hz,its,rv,o,ho2,ocl,n,oda⟩:=I.hok l _ hq;have hl:=rv.length;obtain rfl:o=ob:=Option.some.inj (ho2.symm.trans ho);clear ho2;obtain⟨ocls,odict,odata,oslots⟩:=o;simp only at ocl hdi oda;subst ocl hdi oda;have key:∀{ys:List V}{kvs:List (Key×V)}{its:List Value},Paired (fun(y:V)(kv:Key×V)=>∃t,y=.ref t/\H t=some (.tup [kV kv.1,kv.2])) ys kvs->Vals ys its->∃ps:List (Key×Value),KV kvs ps/\its.length=ps.length/\∀(i:Nat) v p,its[i]?= some v->ps[i]?= some p->Srd.Zg5 (Zax X.prog X.w) s.heap v p.1 p.2:=by
  intro ys kvs its hp
  induction hp generalizing its with
  | nil =>
   intro rv;cases rv;exact⟨[],.nil,rfl,fun i v p h=>(nomatch h)⟩
  | @cons y kv ys kvs r t ih =>
   intro rv;cases rv with
   | @cons _ v _ its ry rr =>
    obtain⟨ps,h1,h2,h3⟩:=ih rr;obtain⟨ta,rfl,ht⟩:=r;obtain rfl:v=Value.ref ta:=ry;obtain⟨_,us,rus,o,ho,hc',n,hd⟩:=I.hok ta _ ht;obtain⟨u1,u2,rfl,r1,r2⟩:=Vals.two rus;refine⟨(kv.1,u2)::ps,.cons ⟨rfl,r2⟩ h1,by rw[List.length_cons,List.length_cons,h2],fun i v p e1 e2=>?_⟩;cases i with
    | zero =>
     injection e1 with e1;injection e2 with e2;subst e1 e2;exact⟨ta,o,n,u1,rfl,ho,hc',hd,Zfv r1⟩
    | succ i=>exact h3 i v p e1 e2
 obtain⟨ps,h1,h2,h3⟩:=key hp rv;refine Srd.Zdy (knd:=Zax X.prog X.w) (ps:=ps) (I.ok.hd hc) ho ⟨by rw[List.size_toArray];exact h2,fun i v p e1 e2 h' hk=>?_⟩ (by rw[List.size_toArray];lia) fun h' tk hd' hk=>?_
 ·obtain⟨b,o,n,uk,e,ho2,r⟩:=h3 i v p (by rw[<- e1];simp) e2;exact⟨b,o,n,uk,e,hk b o (Heap.lt_size ho2) ho2,r⟩
 ·have hkl:kvs.length=ps.length:=h1.length;have hpl:=ZeE kvs;exact⟨.ref _,_,I.laid (t':=tk) (fun b o e=>hk b o e) (Nat.le_refl _) (show ZaL X.prog X.w _ h' _ (.dK (putAll kvs)) from⟨by rw[sizeLine_eq];lia,beq_eq_false_iff_ne.mpr (Ne.symm (Nat.ne_of_lt I.big)),_,Zim h1 .nil,hd'⟩),rfl,q _ (I.hok.fresh (Nat.le_refl _))⟩
end
end L2
namespace L2
open PySem PySem.Spec PyProof.Rows PySem.W
section
variable{X:Cx}
theorem ZjD(l:List Str):(l.map V.str).all Zeo=true:=by
 rw[List.all_eq_true];intro y hy;obtain⟨z,_,rfl⟩:=List.mem_map.mp hy;rfl
theorem Zd4{n:Str}:∀{xs:List Str}{us:List Value},Vals (xs.map V.str) us->∀(j:Nat)(h1:j<us.length)(h2:j<xs.length),eqU (.str n) us[j]=decide (xs[j]=n)
 | [],_,_,_,_,h2=>absurd h2 (Nat.not_lt_zero _)
 | x::xs,_::us,.cons r t,0,_,_=>by
  refine(Zjv (x:=.str n) r rfl).trans ?_;show(x == n)=decide (x=n);rw[Bool.eq_iff_iff];simp
 | x::xs,_::us,.cons r t,j+1,h1,h2=>Zd4 (xs:=xs) t j (Nat.lt_of_succ_lt_succ h1) (Nat.lt_of_succ_lt_succ h2)
def Zos(K:PySem.W.Frag):V->List V->Hp->VK->Prop:=fun x vs H Q=>∃(p:Addr)(n:Str)(xs:List Str),x=.ref p/\vs=[.str n]/\SqL K H p (xs.map V.str)/\n∈xs/\Q (.int ((xs.idxOf n:Nat):Int)) H
theorem ZiS{K:PySem.W.Frag}(hK:X.K=K):MtM X "list.index" (Zos K):=by
 subst hK;intro pins s σ H x vs v us Q I rx rv h;obtain⟨p,n,xs,rfl,rfl,hq,hm,h⟩:=h;cases rx;obtain⟨u,rfl,ru⟩:=rv.one;obtain⟨its,r,pl,hz⟩:=I.list hq;obtain⟨⟨cls,dd,data,sl⟩,m,ho,hc,hdd,hd⟩:=pl;simp only at hc hdd hd;subst hc hdd hd;have hl2:=r.length;rw[List.length_map] at hl2 hz;have hj:xs.idxOf n<xs.length:=List.idxOf_lt_length_of_mem hm;have hz':xs.length<2 ^ 63-1:=by
  rw[sizeLine_eq] at hz;lia
 refine call_meets PySem.F.slot_list_index ⟨_,ho,rfl⟩ PySem.F.entry_list_index (PySem.F.args_list_index_2 _ _)
  (PySem.SeqAt.list_indexAt p its.toArray m none sl u (eqU (.str n)) (xs.idxOf n) (by rw[List.size_toArray];lia) (by lia) ?_ ?_) ⟨ho,fun y hy=>Zct ru rfl r (ZjD xs) y (by simpa using hy),⟨.int _,H,I.tok _,⟨_,rfl⟩,h⟩⟩
 ·show eqU (.str n) its[xs.idxOf n]=true;rw[Zd4 r _ (by lia) hj];exact decide_eq_true (List.getElem_idxOf hj)
 ·intro j hjs hlt;show eqU (.str n) its[j]=false;rw[Zd4 r j (by simpa using hjs) (by lia)];refine decide_eq_false fun e=>?_;have h3:(xs[j]'(by lia) == n)=false:=List.not_of_lt_findIdx (p:=(· == n)) (xs:=xs) hlt;exact beq_eq_false_iff_ne.mp h3 e
def ZoZ(K:PySem.W.Frag)(tv:TE):TE:=fun σ H Q=>tv σ H fun v H1=>∃(a:Addr)(d:PyData),v=.ref a/\Dp K H1 (.ref a) d/\d.showable=true/\d.hasDict=false/\d.depth<=190/\d.shown.length<=sizeLine/\Q (.str d.shown) H1
theorem Zmh{e:Expr}{te:TE}{pos:Pos}(hg:X.A.guards=some [])(hu:X.A.units+200<cLine)(he:PE X e te):PE X (.FormattedValue e 114 none pos) (ZoZ X.K te):=by
 intro pins s σ H Q I h;refine wpAny_FormattedValue_repr (thn (he pins s σ H _ I h) fun u s1 ⟨v,H1,I1,r,a,d,ev,hd,hs,hn,hdep,hz,q⟩=>?_);subst ev;cases r;obtain⟨as,ra⟩:=hd.reads I1 rfl;refine pyReprObj_of_reads ra hs (PyData.noDict_hsm hn) hg (by lia) (fun _ _ e=>e) (fun h' u tk kp=>?_) hz;exact formatField_str (fun t' tk'=>⟨.str d.shown,H1,((I1.kept (t':=tk) kp).tok _).tok _,⟨_,rfl⟩,q⟩) hz
end
end L2
namespace L2
open PySem PySem.Spec PyProof.Rows
theorem Zom{X:Cx}{hs:List ExceptHandler}{t₁ t₂ : THS}(h1:PH X hs t₁)(h2:PH X hs t₂):PH X hs (fun D σ H e oe=>t₁ D σ H e oe\/t₂ D σ H e oe):=by
 intro pins s σ H D e oe T oT ts vs I fT hd k1 hdT k3 he h;rcases h with h|h
 ·exact h1 pins s σ H D e oe T oT ts vs I fT hd k1 hdT k3 he h
 ·exact h2 pins s σ H D e oe T oT ts vs I fT hd k1 hdT k3 he h
section
variable{X:Cx}
theorem Zk4:MtM X "str.lower" (fun x vs H Q=>∃z y:Str,x=.str z/\vs=[]/\Txt.lower z=y/\y.length<=100000/\Q (.str y) H):=by
 intro pins s σ H x vs v us Q I rx rv h;obtain⟨z,y,rfl,rfl,rfl,hz,q⟩:=h;obtain⟨t,rfl⟩:=rx;have hus:=rv.zero;subst hus;exact call_gives PySem.F.slot_str_lower (typeIs_str _ _ _) PySem.F.entry_str_lower (PySem.F.args_str_lower_1 _) (gives_str_lower z t (by
  have hz:(Txt.lower z).length<=100000:=hz;exact decide_eq_false (Nat.not_lt.mpr (Fg.Zj hz)))) ⟨Fg.Zj hz,.str _,H,I.tok _,⟨_,rfl⟩,q⟩
end
section
variable{X:Cx}{e:Expr}{es:List Expr}{te:TE}{ta:TA}{pos:Pos}
theorem ZbQ(he:PEi X e te):PSi X (.Return (some e) pos) (ZnO te):=by
 unfold PSi;exact ZL he.to
theorem ZlM{a b:Expr}{op:Operator}{r:R2}{t1 t2:TE}(ho:OpR X (binaryOp op) r)(ha:PEi X a t1)(hb:PEi X b t2):PEi X (.BinOp a op b pos) (tOp r t1 t2):=.of (Zw ho ha.to hb.to)
theorem Zev{x:Str}{T:String}{p:Pos}{r:List V->Hp->VK->Prop}(hc:ZbR X (.type T) r)(hg:Gl X x)(hm:X.mg x=none)(hv:bootBuiltins x=some (.type T))(ha:PAi X (e::es) ta)(hn:x ≠ "__name__" := by decide) (hdb:(x == ("__debug__" : Str))=false:=by decide)
  (he:notStar e=true:=by rfl) (hes:es.all notStar=true:=by rfl):PEi X (.Call (.Name x p) (e::es) [] pos) (tCB r ta):=.of (ZaG hc hg hm hv ha.to hn hdb (Zea es X.env he) (Zhm X.env pos es hes))
theorem Z0{st:Stmt}{ss:List Stmt}{t u:TS}(h:PSi X st t)(k:ZgY X ss u):ZgY X (st::ss) (Zoc t u):=by
 unfold PSi at h;unfold ZgY at k ⊢;exact Zh h k
theorem ZgQ{b:List Stmt}{D:Ends}{σ : St}{H:Hp}(s:List Stmt){t:TS}(h:ZgY X s t)(k:∀u,PSs X s u->u=t->∃t,PSs X b t/\t D σ H):∃t,PSs X b t/\t D σ H:=k t (by unfold ZgY at h;exact h) rfl
end
end L2
namespace L2
open PySem PySem.Spec PyProof.Rows PySem.W
section
variable{X:Cx}{C:Addr}{m:Str}{ps:List Str}{j k:Nat}{sp:Sp}{o:Expr}{ta:TE}{pos apos:Pos}{E:XKS}
theorem ZfW{pl:Sem Bool}(G:HasMX X.prog X.w X.K X.mg X.base C m ps j sp)(hT:Ze9 X E)(hr:Room k X.A)(he:PE X o ta)(c:Cls X.K C)(hk:j<=k:=by decide)
  (ht:eval (.Call (.Attribute o m apos) [] [] pos) X.env=(do
   let ov <- eval o X.env
   standAt apos.atName
   let (f,first) <- holding [ov] (getMethod ov m pl)
   callWith pos f first (backTo pos (starEach [] X.env)) (backToKw pos (keywordEach [] X.env))):=by rfl):PE X (.Call (.Attribute o m apos) [] [] pos) (Zlo C m sp E ta Zhg):=by
 obtain⟨f,fd,F,b,hm⟩:=G.ex;intro pins s σ H Q I h;refine PySem.W.methodCall_KW (pl:=pl) (thn (he pins s σ H _ I h) fun u s1 ⟨x,H1,I1,rx,a,dx,fs,ex,ea,l,q⟩=>?_) ht;subst ex;obtain rfl:u=Value.ref a:=rx;refine Zcv I1 ea c hm l ?_;refine PySem.W.callWith_K0 (first:=[.ref a]) I1.kIn hm.kp ?_
 exact Zgr (us:=[.ref a]) (vs:=[.ref a]) (F.room hk) hr b hT I1 (.cons rfl .nil) q
theorem ZkJ:MtM X "str.upper" (fun x vs H Q=>∃z y:Str,x=.str z/\vs=[]/\Txt.upper z=y/\y.length<=100000/\Q (.str y) H):=by
 intro pins s σ H x vs v us Q I rx rv h;obtain⟨z,y,rfl,rfl,rfl,hz,q⟩:=h;obtain⟨t,rfl⟩:=rx;have hus:=rv.zero;subst hus;exact call_gives PySem.F.slot_str_upper (typeIs_str _ _ _) PySem.F.entry_str_upper (PySem.F.args_str_upper_1 _) (gives_str_upper z t (by
  have hz:(Txt.upper z).length<=100000:=hz;exact decide_eq_false (Nat.not_lt.mpr (Fg.Zj hz)))) ⟨Fg.Zj hz,.str _,H,I.tok _,⟨_,rfl⟩,q⟩
theorem Zm9:(List.range 26).all (fun i=>decide (Unicode.upperOf (97+i)=[65+i]))=true:=by decide +kernel
theorem Zn3{c:Nat}(h1:97<=c)(h2:c<=122):Unicode.upperOf c=[c-32]:=by
 have:=List.all_eq_true.mp Zm9 (c-97) (List.mem_range.mpr (by lia));have:=of_decide_eq_true this;rw[show 97+(c-97)=c by lia,show 65+(c-97)=c-32 by lia] at this;exact this
theorem Zkd{α β : Type}(g : α -> β):∀(l:List α),l.mapIdx (fun _ c=>g c)=l.map g:=fun l=>by
 apply List.ext_getElem
 ·simp
 ·intro i h1 h2;simp
theorem Zh1{z:Str}(h:∀c∈z.cps.toList,97<=c/\c<=122):(Txt.upper z).cps.toList=z.cps.toList.map (· - 32):=by
 show(placed z fun _ c=>Unicode.upperOf c).toList=_;unfold placed;rw[Array.toList_flatten,Array.toList_mapIdx,Zkd (fun c=>(Unicode.upperOf c).toArray),List.map_map];have:∀l:List Nat,(∀c∈l,97<=c/\c<=122)->(l.map (Array.toList ∘ fun c=>(Unicode.upperOf c).toArray)).flatten=l.map (· - 32):=by
  intro l
  induction l with
  | nil=>intro _;rfl
  | cons c l ih =>
   intro h;have hc:=h c (List.mem_cons_self ..);rw[List.map_cons,List.flatten_cons,ih fun d hd=>h d (List.mem_cons_of_mem _ hd),List.map_cons];show(Unicode.upperOf c).toArray.toList++_=_;rw[Zn3 hc.1 hc.2];rfl
 exact this _ h
end
end L2
namespace L2
open PySem PySem.Spec PyProof.Rows
section
variable{X:Cx}
theorem Zap{b:List Stmt}{D:Ends}{σ : St}{H:Hp}(s:List Stmt){t:TS}(h:PSs X s t)(k:∀u,ZgY X s u->u=t->∃t,PSs X b t/\t D σ H):∃t,PSs X b t/\t D σ H:=k t (by unfold ZgY;exact h) rfl
theorem Zix{a b c x y z:Str}{j1 j2 j3 j4 j5 j6:Nat}{p1 p2 p3 p4 p5 p6 pos:Pos}:PEi X (.Dict [some (.Constant (.str a) j1 p1),some (.Constant (.str b) j2 p2),some (.Constant (.str c) j3 p3)] [.Constant (.str x) j4 p4,.Constant (.str y) j5 p5,.Constant (.str z) j6 p6] pos) (ZnK [(tC (.str a),tC (.str x)),(tC (.str b),tC (.str y)),(tC (.str c),tC (.str z))]) :=
 .of (ZmI (ZeZ Zo Zo (ZeZ Zo Zo (ZeZ Zo Zo Zmk))) rfl rfl (List.cons_ne_nil _ _) (by show 3<=15;decide))
end
end L2
namespace K23
open PySem L2 FgM Fg
def top(i:Nat):Stmt:=PySem.Challenge.pw_formgrove_k23_books_at_their_bounds.main.body.getD i (.Pass ⟨0,0,0,0⟩)
abbrev Z1:Stmt:=inClass (top 3) 0
abbrev Zan:Stmt:=inClass (top 4) 0
abbrev ZaH:Stmt:=inClass (top 5) 0
abbrev Zcp:Stmt:=top 8
abbrev ZbD:Stmt:=top 15
abbrev ZbC:Stmt:=top 16
abbrev Zbe:Stmt:=top 17
abbrev Zbd:Stmt:=top 18
abbrev Zao:Stmt:=inClass (top 19) 0
abbrev Za5:Stmt:=inClass (top 19) 1
abbrev ZaO:Stmt:=inClass (top 19) 2
abbrev Zai:Stmt:=inClass (top 19) 3
abbrev ZaD:Stmt:=inClass (top 19) 4
abbrev Z2:Stmt:=inClass (top 19) 5
abbrev Zah:Stmt:=inClass (top 19) 6
abbrev Z6:Stmt:=inClass (top 19) 7
abbrev Zag:Stmt:=inClass (top 19) 8
abbrev Z8:Stmt:=inClass (top 19) 9
abbrev Z7:Stmt:=inClass (top 19) 10
abbrev Zae:Stmt:=inClass (top 19) 11
abbrev Zdi:Stmt:=top 23
abbrev Zex:Stmt:=top 24
abbrev Zbb:Stmt:=top 25
abbrev Zbm:Stmt:=top 26
abbrev Zaj:Stmt:=top 27
abbrev Zal:Stmt:=top 28
abbrev ZbE:Stmt:=top 29
abbrev ZaC:Stmt:=top 30
abbrev ZaN:Stmt:=top 31
abbrev Zak:Stmt:=top 32
abbrev Zba:Stmt:=top 33
abbrev Zbr:Stmt:=top 35
abbrev Zco:Stmt:=top 36
abbrev Z4:Stmt:=top 37
abbrev Zy:Stmt:=top 38
abbrev ZaJ:Stmt:=top 39
abbrev Zav:Stmt:=top 40
abbrev ZG:Stmt:=top 41
abbrev Zaa:Stmt:=top 42
abbrev ZbW:Stmt:=top 43
abbrev Za7:Stmt:=top 44
abbrev Zcs:Stmt:=top 45
abbrev ZbV:Stmt:=top 46
theorem Zb7:FnScope ["self","name"] ["self","name"] (Zf Z1):=⟨rfl,rfl,rfl,by decide +kernel,rfl,by decide +kernel,by decide +kernel⟩
theorem Zc2:FnScope ["self","name"] ["self","name"] (Zf Zan):=⟨rfl,rfl,rfl,by decide +kernel,rfl,by decide +kernel,by decide +kernel⟩
theorem Zdz:FnScope ["self","names"] ["self","names"] (Zf ZaH):=⟨rfl,rfl,rfl,by decide +kernel,rfl,by decide +kernel,by decide +kernel⟩
theorem ZiL:FnScope ["text"] ["text"] (Zf Zcp):=⟨rfl,rfl,rfl,by decide +kernel,rfl,by decide +kernel,by decide +kernel⟩
theorem ZgL:FnScope ["expr"] ["expr"] (Zf ZbD):=⟨rfl,rfl,rfl,by decide +kernel,rfl,by decide +kernel,by decide +kernel⟩
theorem Zgx:FnScope ["expr"] ["expr"] (Zf ZbC):=⟨rfl,rfl,rfl,by decide +kernel,rfl,by decide +kernel,by decide +kernel⟩
theorem ZcY:FnScope ["expr","texts"] ["expr"] (Zf Zbe):=⟨rfl,rfl,rfl,by decide +kernel,rfl,by decide +kernel,by decide +kernel⟩
theorem ZcW:FnScope ["around","part","text"] ["around","part"] (Zf Zbd):=⟨rfl,rfl,rfl,by decide +kernel,rfl,by decide +kernel,by decide +kernel⟩
theorem Zdf:FnScope ["self","text"] ["self","text"] (Zf Zao):=⟨rfl,rfl,rfl,by decide +kernel,rfl,by decide +kernel,by decide +kernel⟩
theorem Zem:FnScope ["self","piece"] ["self","piece"] (Zf Za5):=⟨rfl,rfl,rfl,by decide +kernel,rfl,by decide +kernel,by decide +kernel⟩
theorem Zee:FnScope ["self","piece"] ["self","piece"] (Zf ZaO):=⟨rfl,rfl,rfl,by decide +kernel,rfl,by decide +kernel,by decide +kernel⟩
theorem ZcM:FnScope ["self","piece"] ["self","piece"] (Zf Zai):=⟨rfl,rfl,rfl,by decide +kernel,rfl,by decide +kernel,by decide +kernel⟩
theorem Zdv:FnScope ["self"] ["self"] (Zf ZaD):=⟨rfl,rfl,rfl,by decide +kernel,rfl,by decide +kernel,by decide +kernel⟩
theorem Zbl:FnScope ["self","first","last","begin"] ["self","first","last"] (Zf Z2):=⟨rfl,rfl,rfl,by decide +kernel,rfl,by decide +kernel,by decide +kernel⟩
theorem ZbG:FnScope ["self","name"] ["self"] (Zf Zah):=⟨rfl,rfl,rfl,by decide +kernel,rfl,by decide +kernel,by decide +kernel⟩
theorem ZaK:FnScope ["self","levels","parts"] ["self","levels"] (Zf Z6):=⟨rfl,rfl,rfl,by decide +kernel,rfl,by decide +kernel,by decide +kernel⟩
theorem ZbF:FnScope ["self","levels","parts"] ["self","levels"] (Zf Zag):=⟨rfl,rfl,rfl,by decide +kernel,rfl,by decide +kernel,by decide +kernel⟩
theorem Zau:FnScope ["self","levels","part","sort","mark"] ["self","levels"] (Zf Z8):=⟨rfl,rfl,rfl,by decide +kernel,rfl,by decide +kernel,by decide +kernel⟩
theorem ZaY:FnScope ["self","levels","part","tag"] ["self","levels"] (Zf Z7):=⟨rfl,rfl,rfl,by decide +kernel,rfl,by decide +kernel,by decide +kernel⟩
theorem Zbx:FnScope ["self","levels","inner"] ["self","levels"] (Zf Zae):=⟨rfl,rfl,rfl,by decide +kernel,rfl,by decide +kernel,by decide +kernel⟩
theorem ZkB:FnScope ["book"] ["book"] (Zf Zdi):=⟨rfl,rfl,rfl,by decide +kernel,rfl,by decide +kernel,by decide +kernel⟩
theorem ZiC:FnScope ["text","book"] ["text"] (Zf Zex):=⟨rfl,rfl,rfl,by decide +kernel,rfl,by decide +kernel,by decide +kernel⟩
theorem ZbY:FnScope ["text","source","pairs"] ["text"] (Zf Zbb):=⟨rfl,rfl,rfl,by decide +kernel,rfl,by decide +kernel,by decide +kernel⟩
theorem Zdu:FnScope ["source","name"] ["source"] (Zf Zbm):=⟨rfl,rfl,rfl,by decide +kernel,rfl,by decide +kernel,by decide +kernel⟩
theorem Za3:FnScope ["book","seen","name","expr"] ["book"] (Zf Zaj):=⟨rfl,rfl,rfl,by decide +kernel,rfl,by decide +kernel,by decide +kernel⟩
theorem ZaE:FnScope ["book","pairs","name","expr","used"] ["book"] (Zf Zal):=⟨rfl,rfl,rfl,by decide +kernel,rfl,by decide +kernel,by decide +kernel⟩
theorem ZcN:FnScope ["expr","found","part"] ["expr"] (Zf ZbE):=⟨rfl,rfl,rfl,by decide +kernel,rfl,by decide +kernel,by decide +kernel⟩
theorem Zbw:FnScope ["expr","found","part"] ["expr"] (Zf ZaC):=⟨rfl,rfl,rfl,by decide +kernel,rfl,by decide +kernel,by decide +kernel⟩
theorem ZaI:FnScope ["book","uses","left","going"] ["book"] (Zf ZaN):=⟨rfl,rfl,rfl,by decide +kernel,rfl,by decide +kernel,by decide +kernel⟩
theorem Zdm:FnScope ["uses","names"] ["uses","names"] (Zf Zak):=⟨rfl,rfl,rfl,by decide +kernel,rfl,by decide +kernel,by decide +kernel⟩
theorem ZbM:FnScope ["uses","names","path","name"] ["uses","names"] (Zf Zba):=⟨rfl,rfl,rfl,by decide +kernel,rfl,by decide +kernel,by decide +kernel⟩
theorem ZfF:FnScope ["_law_script","_law_k"] ["_law_script","_law_k"] (Zf Zbr):=⟨rfl,rfl,rfl,by decide +kernel,rfl,by decide +kernel,by decide +kernel⟩
theorem Zcg:FnScope ["_law_cell","_law_many_here","_law_letters","_law_word_here","_law_k","_law_number"] ["_law_cell","_law_many_here","_law_letters"] (Zf Zco):=⟨rfl,rfl,rfl,by decide +kernel,rfl,by decide +kernel,by decide +kernel⟩
theorem ZaW:FnScope ["_law_script","_law_cell","_law_amiss","_law_small","_law_left","_law_sizes","_law_k","_law_tags","_law_expr","_law_at"] ["_law_script","_law_cell","_law_amiss"] (Zf Z4):=⟨rfl,rfl,rfl,by decide +kernel,rfl,by decide +kernel,by decide +kernel⟩
theorem ZX:FnScope ["_law_made_here","_law_cell","_law_expr","_law_text","_law_tight","_law_marks","_law_way","_law_tag","_law_beside","_law_parts","_law_middle"] ["_law_made_here","_law_cell"] (Zf Zy):=⟨rfl,rfl,rfl,by decide +kernel,rfl,by decide +kernel,by decide +kernel⟩
theorem ZbH:FnScope ["_law_script","_law_cell","_law_amiss","_law_made_here","_law_k","_law_book"] ["_law_script","_law_cell","_law_amiss"] (Zf ZaJ):=⟨rfl,rfl,rfl,by decide +kernel,rfl,by decide +kernel,by decide +kernel⟩
theorem Zbi:FnScope ["_law_script","_law_cell","_law_amiss","_law_great","_law_pairs","_law_texts","_law_k","_law_name","_law_tag"] ["_law_script","_law_cell","_law_amiss"] (Zf Zav):=⟨rfl,rfl,rfl,by decide +kernel,rfl,by decide +kernel,by decide +kernel⟩
theorem Z5:FnScope ["_law_script","_law_cell","_law_amiss","_law_great","_law_many_here","_law_name","_law_tag","_law_way","_law_rest","_law_book","_law_first"] ["_law_script","_law_cell","_law_amiss"] (Zf ZG):=⟨rfl,rfl,rfl,by decide +kernel,rfl,by decide +kernel,by decide +kernel⟩
theorem Za2:FnScope ["_law_script","_law_cell","_law_opened","_law_closed","_law_many_here","_law_shut"] ["_law_script","_law_cell"] (Zf Zaa):=⟨rfl,rfl,rfl,by decide +kernel,rfl,by decide +kernel,by decide +kernel⟩
theorem ZeH:FnScope ["_law_told","_law_due","_law_k"] ["_law_told","_law_due"] (Zf ZbW):=⟨rfl,rfl,rfl,by decide +kernel,rfl,by decide +kernel,by decide +kernel⟩
theorem Zbn:FnScope ["_law_text","_law_told","_law_word_here","e"] ["_law_text"] (Zf Za7):=⟨rfl,rfl,rfl,by decide +kernel,rfl,by decide +kernel,by decide +kernel⟩
theorem ZdT:FnScope ["_law_script","_law_amiss","_law_cell","_law_way"] ["_law_script","_law_amiss"] (Zf Zcs):=⟨rfl,rfl,rfl,by decide +kernel,rfl,by decide +kernel,by decide +kernel⟩
theorem Zdr:FnScope ["_law_script","_law_amiss","_law_first","_law_second","_law_made_here","_law_good","_law_told","_law_word_here"] ["_law_script"] (Zf ZbV):=⟨rfl,rfl,rfl,by decide +kernel,rfl,by decide +kernel,by decide +kernel⟩
structure XC(K:PySem.W.Frag)(mg:Str->Option Value)(X_GroveError X_NoBook X_TwiceNamed X_NoName X_Ring:Addr):Prop where
 n_GroveError:mg "GroveError" = some (.ref X_GroveError)
 n_NoBook:mg "NoBook" = some (.ref X_NoBook)
 n_TwiceNamed:mg "TwiceNamed" = some (.ref X_TwiceNamed)
 n_NoName:mg "NoName" = some (.ref X_NoName)
 n_Ring:mg "Ring" = some (.ref X_Ring)
 bas:XBas K X_GroveError
 isG:PySem.W.isClsIn K X_GroveError=true
 tyG:PySem.W.typeIn K (.ref X_GroveError)=some (.type "type")
 c_GroveError:XCl K X_GroveError
 c_NoBook:XCl K X_NoBook
 c_TwiceNamed:XCl K X_TwiceNamed
 c_NoName:XCl K X_NoName
 c_Ring:XCl K X_Ring
 top_NoBook:XTop K X_NoBook X_GroveError
 ini_NoBook:PySem.W.findIn K (.ref X_NoBook) "__init__" = some (some (.builtin "ValueError.__init__"))
 mV_NoBook:PySem.W.mroIn K X_NoBook (.type "ValueError")=some true
 ne_NoBook:X_NoBook≠X_GroveError
 m_NoBook_GroveError:PySem.W.mroIn K X_NoBook (.ref X_GroveError)=some true
 m_NoBook_NoBook:PySem.W.mroIn K X_NoBook (.ref X_NoBook)=some true
 m_NoBook_TwiceNamed:PySem.W.mroIn K X_NoBook (.ref X_TwiceNamed)=some false
 m_NoBook_NoName:PySem.W.mroIn K X_NoBook (.ref X_NoName)=some false
 m_NoBook_Ring:PySem.W.mroIn K X_NoBook (.ref X_Ring)=some false
 top_TwiceNamed:XTop K X_TwiceNamed X_GroveError
 f_TwiceNamed_name:XFld K X_TwiceNamed "name"
 mV_TwiceNamed:PySem.W.mroIn K X_TwiceNamed (.type "ValueError")=some true
 ne_TwiceNamed:X_TwiceNamed≠X_GroveError
 m_TwiceNamed_GroveError:PySem.W.mroIn K X_TwiceNamed (.ref X_GroveError)=some true
 m_TwiceNamed_NoBook:PySem.W.mroIn K X_TwiceNamed (.ref X_NoBook)=some false
 m_TwiceNamed_TwiceNamed:PySem.W.mroIn K X_TwiceNamed (.ref X_TwiceNamed)=some true
 m_TwiceNamed_NoName:PySem.W.mroIn K X_TwiceNamed (.ref X_NoName)=some false
 m_TwiceNamed_Ring:PySem.W.mroIn K X_TwiceNamed (.ref X_Ring)=some false
 top_NoName:XTop K X_NoName X_GroveError
 f_NoName_name:XFld K X_NoName "name"
 mV_NoName:PySem.W.mroIn K X_NoName (.type "ValueError")=some true
 ne_NoName:X_NoName≠X_GroveError
 m_NoName_GroveError:PySem.W.mroIn K X_NoName (.ref X_GroveError)=some true
 m_NoName_NoBook:PySem.W.mroIn K X_NoName (.ref X_NoBook)=some false
 m_NoName_TwiceNamed:PySem.W.mroIn K X_NoName (.ref X_TwiceNamed)=some false
 m_NoName_NoName:PySem.W.mroIn K X_NoName (.ref X_NoName)=some true
 m_NoName_Ring:PySem.W.mroIn K X_NoName (.ref X_Ring)=some false
 top_Ring:XTop K X_Ring X_GroveError
 f_Ring_names:XFld K X_Ring "names"
 mV_Ring:PySem.W.mroIn K X_Ring (.type "ValueError")=some true
 ne_Ring:X_Ring≠X_GroveError
 m_Ring_GroveError:PySem.W.mroIn K X_Ring (.ref X_GroveError)=some true
 m_Ring_NoBook:PySem.W.mroIn K X_Ring (.ref X_NoBook)=some false
 m_Ring_TwiceNamed:PySem.W.mroIn K X_Ring (.ref X_TwiceNamed)=some false
 m_Ring_NoName:PySem.W.mroIn K X_Ring (.ref X_NoName)=some false
 m_Ring_Ring:PySem.W.mroIn K X_Ring (.ref X_Ring)=some true
abbrev ZbK:List Str:=["ValueError","all","any","dict","int","isinstance","len","list","max","range","str","tuple"]
section
variable{P:Program}{w:World}{K:PySem.W.Frag}{mg:Str->Option Value}{base:Heap}{f:Addr}{fd:FuncData}{X_GroveError X_NoBook X_TwiceNamed X_NoName X_Ring:Addr}
theorem ZjA(B:∀x∈ZbK,mg x=none)(Cc:∃t:Tok,mg "LONGEST_TAG" = some (.int 8 t)) (F:Fun K "is_tag" "is_tag" Zcp f fd):FnOk P w K mg base CX0 1 f fd ["text"] Zge:=by
 refine F.ok ZiL (fun vs H Q E h=>?_) (fun cdv A outer s H vs Q E hr h=>?_)
 ·obtain⟨z,rfl,_⟩:=h;rfl
 obtain⟨z,rfl,hz,q⟩:=h;obtain⟨t8,c_LONGEST_TAG⟩:=Cc;unfold Zm1 at q;refine⟨_,(Zi (ZL (Zjj (ZkM Zk0 Zk0 Zg (ZS ZaX rfl (B "len" (by decide)) PySem.boot_len (Za (pv 0) Zd)) (ZaA (v:=.int 8) rfl c_LONGEST_TAG ⟨_,rfl⟩)) (ZiV (ZS (Zkt rfl) rfl (B "all" (by decide)) Znt (Za (ZhW (pv 0) rfl (by decide) (by decide) rfl (by decide) rfl (by decide) (fun _=>rfl)) Zd)))))),?_⟩;refine⟨_,rfl,z,rfl,Zj (by lia),_,_,rfl,rfl,_,rfl,?_⟩;refine ZaU (fun c=>?_) (fun c=>?_)
 ·have c1:1<=z.length:=by
   have:=of_decide_eq_true c;lia
  rw[decide_eq_true c1,Bool.true_and] at q;refine⟨_,_,rfl,rfl,_,rfl,?_⟩;refine ZaU (fun c=>?_) (fun c=>?_)
  ·have c2:z.length<=8:=by
    have:=of_decide_eq_true c;lia
   rw[decide_eq_true c2,Bool.true_and] at q;refine⟨_,rfl,z,rfl,Zj (by lia),fun p hp=>⟨p,z.cps.toList.map azB,rfl,SqL.of ?_,?_⟩⟩
   ·rw[Zb,List.map_map];rfl
   ·have e:(z.cps.toList.map azB).all id=z.cps.toList.all azB:=by
     rw[List.all_map];rfl
    rw[e];exact q _ (Zk.new hp)
  ·have c2 : ¬ z.length<=8:=fun h=>c (decide_eq_true (by show((z.length:Nat):Int)<=8;lia));rw[decide_eq_false c2,Bool.false_and] at q;exact q H (Zk.refl H)
 ·have c1 : ¬ 1<=z.length:=fun h=>c (decide_eq_true (by show(1:Int)<=((z.length:Nat):Int);lia));rw[decide_eq_false c1,Bool.false_and,Bool.false_and] at q;exact⟨_,rfl,ZbO (q H (Zk.refl H))⟩
mutual
inductive Ex where
 | nil:Ex
 | tag:Str->Ex->Ex
 | name:Str->Ex
 | several:Bool->Exs->Ex
 | rep:Nat->Ex->Ex
inductive Exs where
 | nil:Exs
 | cons:Ex->Exs->Exs
end
def ZbI(m:Nat):Str:=if m=0 then "many" else if m=1 then "some" else "maybe"
def Zei(m:Nat):Str:=if m=0 then "*" else if m=1 then "+" else "?"
def ZeF(b:Bool):Str:=if b=true then "turn" else "or"
def Zg7(b:Bool):Str:=if b=true then " " else " | "
def kw:Ex->Str
 | .nil=>"nil"
 | .tag _ _=>"tag"
 | .name _=>"name"
 | .several b _=>ZeF b
 | .rep m _=>ZbI m
def Zck:Ex->Bool
 | .nil=>true
 | _=>false
def five:List Str:=["turn","or","many","some","maybe"]
def Zbk(b:Bool):List Str:=if b=true then ["turn","or"] else ["or"]
def brc(l:List Str)(k t:Str):Str:=if l.contains k=true then "{" ++ t ++ "}" else t
mutual
def tx:Ex->Str
 | .nil=>"{}"
 | .tag t i=>if Zck i=true then t else t ++ "(" ++ tx i ++ ")"
 | .name n=>n
 | .several b ps=>Txt.join (Zg7 b) (txs (Zbk b) ps)
 | .rep m p=>brc five (kw p) (tx p)++Zei m
def txs(l:List Str):Exs->List Str
 | .nil=>[]
 | .cons e r=>brc l (kw e) (tx e)::txs l r
end
mutual
def sz:Ex->Nat
 | .nil=>1
 | .tag _ i=>sz i+1
 | .name _=>1
 | .several _ ps=>szs ps+1
 | .rep _ p=>sz p+1
def szs:Exs->Nat
 | .nil=>0
 | .cons e r=>sz e+szs r
end
mutual
def dp:Ex->Nat
 | .nil=>0
 | .tag _ i=>dp i+1
 | .name _=>0
 | .several _ ps=>dps ps+1
 | .rep _ p=>dp p+1
def dps:Exs->Nat
 | .nil=>0
 | .cons e r=>max (dp e) (dps r)
end
mutual
def w8:Ex->Prop
 | .nil=>True
 | .tag t i=>t.length<=8/\w8 i
 | .name n=>n.length<=8
 | .several _ ps=>w8s ps
 | .rep _ p=>w8 p
def w8s:Exs->Prop
 | .nil=>True
 | .cons e r=>w8 e/\w8s r
end
def cnt:Exs->Nat
 | .nil=>0
 | .cons _ r=>cnt r+1
theorem Zcl(l:List Str)(k t:Str):(brc l k t).length<=t.length+2:=by
 unfold brc
 split
 ·rw[Zn,Zn];show 1+t.length+1<=_;lia
 ·lia
theorem ZdY(l:List Str):∀ps:Exs,(txs l ps).length=cnt ps
 | .nil=>rfl
 | .cons e r=>by simp only[txs,cnt,List.length_cons,ZdY l r]
mutual
theorem ZcB:∀e:Ex,w8 e->(tx e).length+6<=20*sz e
 | .nil,_=>by show 2+6<=20*1;lia
 | .tag t i,h=>by
  have h1:t.length<=8:=h.1;have:=ZcB i h.2;rw[tx,sz]
  split
  ·lia
  ·rw[Zn,Zn,Zn];show t.length+1+(tx i).length+1+6<=_;lia
 | .name n,h=>by
  have h1:n.length<=8:=h;show n.length+6<=20*1;lia
 | .several b ps,h=>by
  have h1:=Zgw (Zbk b) ps h;have h2:=ZeP (Zg7 b) (txs (Zbk b) ps);have h3:(Zg7 b).length<=3:=by cases b <;> decide
  rw[tx,sz];have h4:(txs (Zbk b) ps).length*(Zg7 b).length<=(txs (Zbk b) ps).length*3:=Nat.mul_le_mul_left _ h3;lia
 | .rep m p,h=>by
  have h1:=ZcB p h;have h2:=Zcl five (kw p) (tx p);have h3:(Zei m).length=1:=by unfold Zei;split;rfl;split <;> rfl
  rw[tx,sz,Zn,h3];lia
theorem Zgw(l:List Str):∀ps:Exs,w8s ps->((txs l ps).map (·.length)).sum+(txs l ps).length*3<=20*szs ps
 | .nil,_=>Nat.zero_le _
 | .cons e r,h=>by
  have h1:=ZcB e h.1;have h2:=Zgw l r h.2;have h3:=Zcl l (kw e) (tx e);simp only[txs,szs,List.map_cons,List.sum_cons,List.length_cons];lia
end
mutual
inductive RepE(H:Hp):Addr->Ex->Prop
 | nil {p:Addr}:H p=some (.tup [.str "nil"])->RepE H p .nil
 | tag {p q:Addr} {t:Str} {i:Ex}:H p=some (.tup [.str "tag",.str t,.ref q])->RepE H q i->RepE H p (.tag t i)
 | name {p:Addr} {n:Str}:H p=some (.tup [.str "name",.str n])->RepE H p (.name n)
 | several {p q:Addr} {b:Bool} {vs:List V} {ps:Exs}:H p=some (.tup [.str (ZeF b),.ref q])->H q=some (.tup vs)->RepEs H vs ps->RepE H p (.several b ps)
 | rep {p q:Addr} {m:Nat} {e:Ex}:H p=some (.tup [.str (ZbI m),.ref q])->RepE H q e->RepE H p (.rep m e)
inductive RepEs(H:Hp):List V->Exs->Prop
 | nil:RepEs H [] .nil
 | cons {p:Addr} {e:Ex} {vs:List V} {r:Exs}:RepE H p e->RepEs H vs r->RepEs H (.ref p::vs) (.cons e r)
end
mutual
theorem RepE.mono{H H':Hp}(k:TK H H'):∀{p:Addr}{e:Ex},RepE H p e->RepE H' p e
 | _,_,.nil h=>.nil (k _ _ h)
 | _,_,.tag h r=>.tag (k _ _ h) (RepE.mono k r)
 | _,_,.name h=>.name (k _ _ h)
 | _,_,.several h1 h2 r=>.several (k _ _ h1) (k _ _ h2) (RepEs.mono k r)
 | _,_,.rep h r=>.rep (k _ _ h) (RepE.mono k r)
theorem RepEs.mono{H H':Hp}(k:TK H H'):∀{vs:List V}{ps:Exs},RepEs H vs ps->RepEs H' vs ps
 | _,_,.nil=>.nil
 | _,_,.cons h r=>.cons (RepE.mono k h) (RepEs.mono k r)
end
theorem RepE.top{H:Hp}{p:Addr}{e:Ex}(h:RepE H p e):∃r,H p=some (.tup (.str (kw e)::r))/\r.isEmpty=Zck e:=by
 cases h with
 | nil h=>exact⟨_,h,rfl⟩
 | tag h _=>exact⟨_,h,rfl⟩
 | name h=>exact⟨_,h,rfl⟩
 | several h _ _=>exact⟨_,h,rfl⟩
 | rep h _=>exact⟨_,h,rfl⟩
theorem Zio(e:Ex):(decide (kw e= "nil")&&Zck e)=Zck e:=by
 cases e with
 | nil=>rfl
 | _=>simp[Zck]
theorem Zd0(k:Str)(l:List Str):inV (.str k) (l.map V.str)=l.contains k:=by
 induction l with
 | nil=>rfl
 | cons x l ih =>
  show(eqV (.str x) (.str k) || inV (.str k) (l.map V.str))=_;rw[ih,List.contains_cons]
  congr 1
  show(x == k)=(k == x);by_cases e:x=k
  ·subst e;rfl
  ·rw[beq_eq_false_iff_ne.mpr e,beq_eq_false_iff_ne.mpr (Ne.symm e)]
theorem at0{x:V}{r:List V}:atI (x::r) 0=some x:=ZbP (j:=0) rfl
def toL:Exs->List Ex
 | .nil=>[]
 | .cons e r=>e::toL r
theorem ZeU(l:List Str):∀ps:Exs,txs l ps=(toL ps).map fun e=>brc l (kw e) (tx e)
 | .nil=>rfl
 | .cons e r=>by rw[txs,ZeU l r];rfl
theorem Zdh:∀{ps:Exs}{e:Ex},e∈toL ps->dp e<=dps ps/\sz e<=szs ps/\(w8s ps->w8 e)
 | .cons a r,e,h=>by
  rcases List.mem_cons.mp h with rfl|h
  ·exact⟨Nat.le_max_left _ _,Nat.le_add_right _ _,fun h=>h.1⟩
  ·obtain⟨h1,h2,h3⟩:=Zdh h;exact⟨Nat.le_trans h1 (Nat.le_max_right _ _),Nat.le_trans h2 (Nat.le_add_left _ _),fun h=>h3 h.2⟩
theorem ZdP:∀ps:Exs,(toL ps).length=cnt ps
 | .nil=>rfl
 | .cons e r=>by simp only[toL,cnt,List.length_cons,ZdP r]
theorem Zm6:∀e:Ex,1<=sz e
 | .nil=>Nat.le_refl _
 | .tag _ i=>by rw[sz];lia
 | .name _=>Nat.le_refl _
 | .several _ ps=>by rw[sz];lia
 | .rep _ p=>by rw[sz];lia
theorem Zhl:∀ps:Exs,cnt ps<=szs ps
 | .nil=>Nat.le_refl _
 | .cons e r=>by
  have:=Zm6 e;have:=Zhl r;rw[cnt,szs];lia
def Aro(ar:Str)(l:List Str):Prop:=(∃b,ar=ZeF b/\l=Zbk b)\/∃m,ar=ZbI m/\l=five
structure Con20(K:PySem.W.Frag)(mg:Str->Option Value)(A_NIL A_MARKS A_BRACED:Addr):Prop where
 nil:mg "NIL" = some (.ref A_NIL)
 nilT:∀H,SqT K H A_NIL [.str "nil"]
 marks:mg "MARKS" = some (.ref A_MARKS)
 marksT:∃D,KTab K A_MARKS D/\∀m,D.lookup (ZbI m)=some (.str (Zei m))
 braced:mg "BRACED" = some (.ref A_BRACED)
 bracedT:∃D,KTab K A_BRACED D/\∀ar l,Aro ar l->∃C,D.lookup ar=some (.ref C)/\∀H,SqT K H C (l.map V.str)
def Upr(n:Str):Prop:=cs n ≠ []/\∀c∈cs n,65<=c/\c<=90
mutual
def wfE:Ex->Prop
 | .nil=>True
 | .tag t i=>(Zkl t/\t.length<=8)/\wfE i
 | .name n=>Upr n/\n.length<=8
 | .several _ ps=>2<=cnt ps/\Zm3 ps
 | .rep m p=>m<=2/\wfE p
def Zm3:Exs->Prop
 | .nil=>True
 | .cons e r=>wfE e/\Zm3 r
end
theorem ZdI:∀{ps:Exs}{e:Ex},Zm3 ps->e∈toL ps->wfE e
 | .cons a r,e,h,m=>by
  rcases List.mem_cons.mp m with rfl|m
  ·exact h.1
  ·exact ZdI h.2 m
def Hd(c:Nat):Prop:=c=123\/(97<=c/\c<=122)\/(65<=c/\c<=90)
def tL(l:List Str)(e:Ex):List Nat:=cs (brc l (kw e) (tx e))
theorem ZQ(x y:Str):cs (x++y)=cs x++cs y:=Zkf x y
theorem Zld{l:List Str}{e:Ex}(h:l.contains (kw e)=true):tL l e=123::(cs (tx e) ++ [125]):=by
 unfold tL brc;rw[if_pos h,ZQ,ZQ];rfl
theorem ZcA{l:List Str}{e:Ex}(h:l.contains (kw e)=false):tL l e=cs (tx e):=by
 unfold tL brc;rw[h,if_neg Bool.false_ne_true]
theorem Zd5(sep:Str)(y:Str):∀ys:List Str,jn sep (y::ys)=cs y++ys.flatMap fun z=>cs sep++cs z
 | []=>by simp[jn]
 | z::ys=>by
  rw[List.flatMap_cons,<- List.append_assoc,List.append_assoc (cs y)];show cs y++(cs sep++jn sep (z::ys))=_;rw[Zd5 sep z ys];simp only[List.append_assoc]
theorem Zcr(b:Bool)(e:Ex)(ps:Exs):cs (tx (.several b (.cons e ps)))=tL (Zbk b) e++(toL ps).flatMap fun p=>cs (Zg7 b)++tL (Zbk b) p:=by
 rw[tx,Zfc,txs,Zd5,ZeU,List.flatMap_map];rfl
mutual
theorem ZjG:∀e:Ex,wfE e->∃c r,cs (tx e)=c::r/\Hd c
 | .nil,_=>⟨123,[125],rfl,.inl rfl⟩
 | .tag t i,h=>by
  obtain⟨⟨⟨hn,hl⟩,_⟩,_⟩:=h;have hn:cs t ≠ []:=hn;obtain⟨c,r,e⟩:=List.exists_cons_of_ne_nil hn;have hc:97<=c/\c<=122:=hl c (by show c∈cs t;rw[e];exact List.mem_cons_self ..);rw[tx]
  split
  ·exact⟨c,r,e,.inr (.inl hc)⟩
  ·rw[ZQ,ZQ,ZQ,e];exact⟨c,_,rfl,.inr (.inl hc)⟩
 | .name n,h=>by
  obtain⟨⟨hn,hl⟩,_⟩:=h;obtain⟨c,r,e⟩:=List.exists_cons_of_ne_nil hn;exact⟨c,r,e,.inr (.inr (hl c (by rw[e];exact List.mem_cons_self ..)))⟩
 | .several b (.cons e ps),h=>by
  obtain⟨c,r,h1,h2⟩:=Ze5 (Zbk b) e h.2.1;rw[Zcr,h1];exact⟨c,_,rfl,h2⟩
 | .several b .nil,h=>absurd h.1 (by show ¬ 2<=0;decide)
 | .rep m p,h=>by
  obtain⟨c,r,h1,h2⟩:=Ze5 five p h.2;rw[tx,ZQ];show ∃c r,tL five p++_=_/\_;rw[h1];exact⟨c,_,rfl,h2⟩
theorem Ze5:∀(l:List Str)(e:Ex),wfE e->∃c r,tL l e=c::r/\Hd c:=fun l e h=>by
 cases hc:l.contains (kw e) with
 | true=>exact⟨123,_,Zld hc,.inl rfl⟩
 | false =>
  rw[ZcA hc];exact ZjG e h
end
def fE(r:List Nat):Prop:=r=[]\/∃c r',r=c::r'/\(c=59\/c=125\/c=41)
def fT(r:List Nat):Prop:=fE r\/∃r',r=32::124::32::r'
def fM(r:List Nat):Prop:=fT r\/∃c r',r=32::c::r'/\Hd c
def fS(r:List Nat):Prop:=fM r\/∃c r',r=c::r'/\(c=42\/c=43\/c=63)
theorem ZlO{r:List Nat}(h:fE r) : ¬ [32,124,32] <+: r /\ ¬ [32] <+: r:=by
 rcases h with rfl|⟨c,r',rfl,h⟩
 ·exact⟨fun⟨_,z⟩=>(by cases z),fun⟨_,z⟩=>(by cases z)⟩
 ·refine⟨fun⟨_,z⟩=>?_,fun⟨_,z⟩=>?_⟩ <;> (injection z with z _;lia)
theorem Zm8{r:List Nat}(h:fT r):[32,124,32] <+: r \/ ¬ [32] <+: r:=by
 rcases h with h|⟨r',rfl⟩
 ·exact .inr (ZlO h).2
 ·exact .inl ⟨r',rfl⟩
theorem ZiG{r:List Nat}(h:fM r):r=[]\/∃c r',r=c::r'/\(c=59\/c=125\/c=41\/c=32):=by
 rcases h with(h|⟨r',rfl⟩)|⟨c,r',rfl,_⟩
 ·rcases h with rfl|⟨c,r',rfl,h⟩
  ·exact .inl rfl
  ·exact .inr ⟨c,r',rfl,by lia⟩
 ·exact .inr ⟨32,_,rfl,by lia⟩
 ·exact .inr ⟨32,_,rfl,by lia⟩
theorem Zg0{r:List Nat}(h:fM r){m:Nat}(hm:m=42\/m=43\/m=63) : ¬ [m] <+: r:=fun⟨_,z⟩=>by
 rcases ZiG h with rfl|⟨c,r',rfl,h⟩
 ·cases z
 ·injection z with z _;lia
theorem Zgc{r:List Nat}(h:fS r){c:Nat}{r':List Nat}(e:r=c::r') : ¬ (97<=c/\c<=122) /\ ¬ (65<=c/\c<=90)/\c≠40:=by
 rcases h with h|⟨d,q,rfl,h⟩
 ·rcases ZiG h with rfl|⟨d,q,rfl,h⟩
  ·cases e
  ·injection e with e _;lia
 ·injection e with e _;lia
theorem ZnT{ps:List Ex}{r:List Nat}(hr:fE r):fT ((ps.flatMap fun p=>[32,124,32]++tL ["or"] p)++r):=by
 cases ps with
 | nil=>exact .inl hr
 | cons p ps=>exact .inr ⟨_,rfl⟩
theorem Zjb{ps:List Ex}{r:List Nat}(hr:fT r)(hw:∀p∈ps,wfE p):fM ((ps.flatMap fun p=>[32]++tL ["turn","or"] p)++r):=by
 cases ps with
 | nil=>exact .inl hr
 | cons p ps =>
  obtain⟨c,q,e,h⟩:=Ze5 ["turn","or"] p (hw p (List.mem_cons_self ..));refine .inr ⟨c,q++((ps.flatMap fun p=>[32]++tL ["turn","or"] p)++r),?_,h⟩;rw[List.flatMap_cons,e];simp
theorem ZjH{p:Ex}{ps:List Ex}{r:List Nat}(hw:wfE p) : ¬ [32,124,32] <+: (((p::ps).flatMap fun p=>[32]++tL ["turn","or"] p)++r) /\ [32] <+: (((p::ps).flatMap fun p=>[32]++tL ["turn","or"] p)++r):=by
 obtain⟨c,q,e,h⟩:=Ze5 ["turn","or"] p hw;rw[List.flatMap_cons,e];refine⟨fun⟨_,z⟩=>?_,⟨_,rfl⟩⟩;injection z with _ z;injection z with z _;unfold Hd at h;lia
theorem Zg2{e:Ex}{r:List Nat}(hw:wfE e):[123,125] <+: (tL five e++r)↔Zck e=true:=by
 constructor
 ·rintro⟨q,z⟩;cases hc:five.contains (kw e) with
  | true =>
   obtain⟨c,r',h1,h2⟩:=ZjG e hw;rw[Zld hc,h1] at z;injection z with _ z;injection z with z _;unfold Hd at h2;lia
  | false =>
   rw[ZcA hc] at z;cases e with
   | nil=>rfl
   | tag t i =>
    obtain⟨⟨⟨hn,hl⟩,_⟩,_⟩:=hw;obtain⟨c,r',e⟩:=List.exists_cons_of_ne_nil (show cs t ≠ [] from hn);have hcc:97<=c/\c<=122:=hl c (by show c∈cs t;rw[e];exact List.mem_cons_self ..);rw[tx] at z
    split at z
    ·rw[e] at z;injection z with z _;lia
    ·rw[ZQ,ZQ,ZQ,e] at z;injection z with z _;lia
   | name n =>
    obtain⟨⟨hn,hl⟩,_⟩:=hw;obtain⟨c,r',e⟩:=List.exists_cons_of_ne_nil hn;have hcc:=hl c (by rw[e];exact List.mem_cons_self ..);rw[tx,e] at z;injection z with z _;lia
   | several b ps =>
    have hc:five.contains (ZeF b)=false:=hc;cases b <;> exact absurd hc (by decide)
   | rep m p =>
    exfalso
    revert hc
    show ¬ five.contains (ZbI m)=false;unfold ZbI
    split
    ·decide
    ·split <;> decide
 ·intro h;cases e with
  | nil=>exact⟨r,rfl⟩
  | _=>cases h
theorem ZhH{e:Ex}{r:List Nat}(hw:wfE e)(hn:Zck e=false):[123] <+: (tL five e++r)↔five.contains (kw e)=true:=by
 constructor
 ·rintro⟨q,z⟩;cases hc:five.contains (kw e) with
  | true=>rfl
  | false =>
   exfalso;rw[ZcA hc] at z;cases e with
   | nil=>cases hn
   | tag t i =>
    obtain⟨⟨⟨hn,hl⟩,_⟩,_⟩:=hw;obtain⟨c,r',e⟩:=List.exists_cons_of_ne_nil (show cs t ≠ [] from hn);have hcc:97<=c/\c<=122:=hl c (by show c∈cs t;rw[e];exact List.mem_cons_self ..);rw[tx] at z
    split at z
    ·rw[e] at z;injection z with z _;lia
    ·rw[ZQ,ZQ,ZQ,e] at z;injection z with z _;lia
   | name n =>
    obtain⟨⟨hn,hl⟩,_⟩:=hw;obtain⟨c,r',e⟩:=List.exists_cons_of_ne_nil hn;have hcc:=hl c (by rw[e];exact List.mem_cons_self ..);rw[tx,e] at z;injection z with z _;lia
   | several b ps =>
    have hc:five.contains (ZeF b)=false:=hc;cases b <;> exact absurd hc (by decide)
   | rep m p =>
    revert hc
    show ¬ five.contains (ZbI m)=false;unfold ZbI
    split
    ·decide
    ·split <;> decide
 ·intro h;rw[Zld h];exact⟨_,rfl⟩
def ofL:List Ex->Exs
 | []=>.nil
 | e::r=>.cons e (ofL r)
theorem Zlm:∀ps:Exs,ofL (toL ps)=ps
 | .nil=>rfl
 | .cons e r=>congrArg (Exs.cons e) (Zlm r)
theorem Zhk:∀es:List Ex,toL (ofL es)=es
 | []=>rfl
 | e::r=>congrArg (e :: ·) (Zhk r)
theorem ZhA{α : Type}{l:List α}{a x : α}{i:Nat}(h:(l ++ [a])[i]?= some x):(i<l.length/\l[i]?= some x)\/(i=l.length/\x=a):=by
 by_cases e:i<l.length
 ·rw[List.getElem?_append_left e] at h;exact .inl ⟨e,h⟩
 ·rw[List.getElem?_append_right (by lia)] at h;obtain⟨h1,h2⟩:=List.getElem?_eq_some_iff.mp h;have:i-l.length=0:=by simpa using h1
  refine .inr ⟨by lia,?_⟩;rw[<- h2];simp[this]
def ZdF(c:Nat):Bool:=decide (97<=c)&&decide (c<=122)
def isUp(c:Nat):Bool:=decide (65<=c)&&decide (c<=90)
def stO(z:List Nat):Str:=⟨z.toArray⟩
theorem Znz(z:List Nat):cs (stO z)=z:=by unfold cs stO;exact List.toList_toArray
theorem Zha(s:Str):stO (cs s)=s:=Zb5 (Znz _)
theorem Zas(s:Str):(cs s).length=s.length:=Array.length_toList
abbrev Rdr:=List Nat->Option (Ex×List Nat)
def ZbU(f:Rdr)(c:Nat)(t:List Nat):Option (Ex×List Nat) :=
 match f t with
 | none=>none
 | some x=>if [c] <+: x.2 then some (x.1,x.2.drop 1) else none
def Zc7(t:List Nat):Option (Str×List Nat):=if 1<=(t.takeWhile isUp).length/\(t.takeWhile isUp).length<=8 then some (stO (t.takeWhile isUp),t.drop (t.takeWhile isUp).length) else none
def ZeA(f:Rdr)(t:List Nat):Option (Ex×List Nat):=if [40] <+: t then ZbU f 41 (t.drop 1) else some (.nil,t)
def Zby(f:Rdr)(t:List Nat):Option (Ex×List Nat) :=
 if [123,125] <+: t then some (.nil,t.drop 2)
 else if [123] <+: t then ZbU f 125 (t.drop 1)
 else if t.takeWhile ZdF=[] then(Zc7 t).map fun x=>(.name x.1,x.2)
 else if(t.takeWhile ZdF).length<=8 then(ZeA f (t.drop (t.takeWhile ZdF).length)).map fun x=>(.tag (stO (t.takeWhile ZdF)) x.1,x.2)
 else none
def pMk(x:Ex×List Nat):Ex×List Nat:=if [42] <+: x.2 then(.rep 0 x.1,x.2.drop 1) else if [43] <+: x.2 then(.rep 1 x.1,x.2.drop 1) else if [63] <+: x.2 then(.rep 2 x.1,x.2.drop 1) else x
def Zbq(f:Rdr)(t:List Nat):Option (Ex×List Nat):=(Zby f t).map pMk
def pTs(f:Rdr):Nat->List Ex->List Nat->Option (List Ex×List Nat)
 | 0,acc,t=>some (acc,t)
 | k+1,acc,t=>if ¬ [32,124,32] <+: t /\ [32] <+: t then(match Zbq f (t.drop 1) with|none=>none|some x=>pTs f k (acc ++ [x.1]) x.2) else some (acc,t)
def mkS(b:Bool):List Ex->Ex
 | [e]=>e
 | es=>.several b (ofL es)
def ZaZ(f:Rdr)(t:List Nat):Option (Ex×List Nat) :=
 match Zbq f t with
 | none=>none
 | some x=>(pTs f x.2.length [x.1] x.2).map fun y=>(mkS true y.1,y.2)
def pOs(f:Rdr):Nat->List Ex->List Nat->Option (List Ex×List Nat)
 | 0,acc,t=>some (acc,t)
 | k+1,acc,t=>if [32,124,32] <+: t then(match ZaZ f (t.drop 3) with|none=>none|some x=>pOs f k (acc ++ [x.1]) x.2) else some (acc,t)
def ZbJ(f:Rdr)(t:List Nat):Option (Ex×List Nat) :=
 match ZaZ f t with
 | none=>none
 | some x=>(pOs f x.2.length [x.1] x.2).map fun y=>(mkS false y.1,y.2)
def pX:Nat->Rdr
 | 0=>fun _=>none
 | L+1=>ZbJ (pX L)
def pPair(t:List Nat):Option ((Str×Ex)×List Nat) :=
 match Zc7 t with
 | none=>none
 | some x=>if [32,61,32] <+: x.2 then(pX 12 (x.2.drop 3)).map fun y=>((x.1,y.1),y.2) else none
def pPs:Nat->List (Str×Ex)->List Nat->Option (List (Str×Ex)×List Nat)
 | 0,acc,t=>some (acc,t)
 | k+1,acc,t=>if [59,32] <+: t then(match pPair (t.drop 2) with|none=>none|some x=>pPs k (acc ++ [x.1]) x.2) else some (acc,t)
def Zcx(t:List Nat):Option (List (Str×Ex)×List Nat) :=
 match pPair t with
 | none=>none
 | some x=>pPs x.2.length [x.1] x.2
theorem Zbv(t:List Nat)(n:Nat):t.drop n <:+ t:=List.drop_suffix n t
def Shr(f:Rdr):Prop := ∀t x,f t=some x->x.2 <:+ t
theorem Zin{f:Rdr}(h:Shr f){c:Nat}{t:List Nat}{x}(e:ZbU f c t=some x):x.2 <:+ t:=by
 unfold ZbU at e
 split at e
 ·cases e
 ·rename_i y hy
  split at e
  ·cases e;exact(Zbv _ _).trans (h _ _ hy)
  ·cases e
theorem ZiO{t:List Nat}{x}(e:Zc7 t=some x):x.2 <:+ t:=by
 unfold Zc7 at e
 split at e
 ·cases e;exact Zbv _ _
 ·cases e
theorem Znv{f:Rdr}(h:Shr f):Shr (ZeA f):=fun t x e=>by
 unfold ZeA at e
 split at e
 ·exact(Zin h e).trans (Zbv _ _)
 ·cases e;exact List.suffix_refl _
theorem ZmG{f:Rdr}(h:Shr f):Shr (Zby f):=fun t x e=>by
 unfold Zby at e
 split at e
 ·cases e;exact Zbv _ _
 ·split at e
  ·exact(Zin h e).trans (Zbv _ _)
  ·split at e
   ·obtain⟨y,hy,rfl⟩:=Option.map_eq_some_iff.mp e;exact ZiO hy
   ·split at e
    ·obtain⟨y,hy,rfl⟩:=Option.map_eq_some_iff.mp e;exact(Znv h _ _ hy).trans (Zbv _ _)
    ·cases e
theorem ZoJ(x:Ex×List Nat):(pMk x).2 <:+ x.2:=by
 unfold pMk
 split
 ·exact Zbv _ _
 ·split
  ·exact Zbv _ _
  ·split
   ·exact Zbv _ _
   ·exact List.suffix_refl _
theorem ZgB{f:Rdr}(h:Shr f):Shr (Zbq f):=fun t x e=>by
 obtain⟨y,hy,rfl⟩:=Option.map_eq_some_iff.mp e;exact(ZoJ y).trans (ZmG h _ _ hy)
theorem Znj{f:Rdr}(h:Shr f):∀(k:Nat)(acc:List Ex)(t:List Nat)(x),pTs f k acc t=some x->x.2 <:+ t
 | 0,acc,t,x,e=>by
  cases e;exact List.suffix_refl _
 | k+1,acc,t,x,e=>by
  unfold pTs at e
  split at e
  ·split at e
   ·cases e
   ·rename_i y hy
    exact(Znj h k _ _ _ e).trans ((ZgB h _ _ hy).trans (Zbv _ _))
  ·cases e;exact List.suffix_refl _
theorem ZgK{f:Rdr}(h:Shr f):Shr (ZaZ f):=fun t x e=>by
 unfold ZaZ at e
 split at e
 ·cases e
 ·rename_i y hy
  obtain⟨z,hz,rfl⟩:=Option.map_eq_some_iff.mp e;exact(Znj h _ _ _ _ hz).trans (ZgB h _ _ hy)
theorem Zna{f:Rdr}(h:Shr f):∀(k:Nat)(acc:List Ex)(t:List Nat)(x),pOs f k acc t=some x->x.2 <:+ t
 | 0,acc,t,x,e=>by
  cases e;exact List.suffix_refl _
 | k+1,acc,t,x,e=>by
  unfold pOs at e
  split at e
  ·split at e
   ·cases e
   ·rename_i y hy
    exact(Zna h k _ _ _ e).trans ((ZgK h _ _ hy).trans (Zbv _ _))
  ·cases e;exact List.suffix_refl _
theorem Zml{f:Rdr}(h:Shr f):Shr (ZbJ f):=fun t x e=>by
 unfold ZbJ at e
 split at e
 ·cases e
 ·rename_i y hy
  obtain⟨z,hz,rfl⟩:=Option.map_eq_some_iff.mp e;exact(Zna h _ _ _ _ hz).trans (ZgK h _ _ hy)
theorem ZkV:∀L:Nat,Shr (pX L)
 | 0=>fun _ _ e=>by cases e
 | L+1=>Zml (ZkV L)
def Les(f g:Rdr):Prop := ∀t x,f t=some x->g t=some x
theorem Zki{f g:Rdr}(h:Les f g)(c:Nat):Les (ZbU f c) (ZbU g c):=fun t x e=>by
 unfold ZbU at e ⊢
 split at e
 ·cases e
 ·rename_i y hy
  rw[h _ _ hy];exact e
theorem Znh{f g:Rdr}(h:Les f g):Les (ZeA f) (ZeA g):=fun t x e=>by
 unfold ZeA at e ⊢
 split at e
 ·rename_i c
  rw[if_pos c];exact Zki h _ _ _ e
 ·rename_i c
  rw[if_neg c];exact e
theorem Zmj{f g:Rdr}(h:Les f g):Les (Zby f) (Zby g):=fun t x e=>by
 unfold Zby at e ⊢
 split at e
 ·rename_i c
  rw[if_pos c];exact e
 ·rename_i c
  rw[if_neg c]
  split at e
  ·rename_i c
   rw[if_pos c];exact Zki h _ _ _ e
  ·rename_i c
   rw[if_neg c]
   split at e
   ·rename_i c
    rw[if_pos c];exact e
   ·rename_i c
    rw[if_neg c]
    split at e
    ·rename_i c
     rw[if_pos c];obtain⟨y,hy,rfl⟩:=Option.map_eq_some_iff.mp e;rw[Znh h _ _ hy];rfl
    ·cases e
theorem ZjR{f g:Rdr}(h:Les f g):Les (Zbq f) (Zbq g):=fun t x e=>by
 obtain⟨y,hy,rfl⟩:=Option.map_eq_some_iff.mp e;unfold Zbq;rw[Zmj h _ _ hy];rfl
theorem ZnA{f g:Rdr}(h:Les f g):∀(k:Nat)(acc:List Ex)(t:List Nat)(x),pTs f k acc t=some x->pTs g k acc t=some x
 | 0,_,_,_,e=>e
 | k+1,acc,t,x,e=>by
  unfold pTs at e ⊢
  split at e
  ·rename_i c
   rw[if_pos c]
   split at e
   ·cases e
   ·rename_i y hy
    rw[ZjR h _ _ hy];exact ZnA h k _ _ _ e
  ·rename_i c
   rw[if_neg c];exact e
theorem ZiD{f g:Rdr}(h:Les f g):Les (ZaZ f) (ZaZ g):=fun t x e=>by
 unfold ZaZ at e ⊢
 split at e
 ·cases e
 ·rename_i y hy
  obtain⟨z,hz,rfl⟩:=Option.map_eq_some_iff.mp e;rw[ZjR h _ _ hy];show Option.map _ (pTs g _ _ _)=_;rw[ZnA h _ _ _ _ hz];rfl
theorem ZnH{f g:Rdr}(h:Les f g):∀(k:Nat)(acc:List Ex)(t:List Nat)(x),pOs f k acc t=some x->pOs g k acc t=some x
 | 0,_,_,_,e=>e
 | k+1,acc,t,x,e=>by
  unfold pOs at e ⊢
  split at e
  ·rename_i c
   rw[if_pos c]
   split at e
   ·cases e
   ·rename_i y hy
    rw[ZiD h _ _ hy];exact ZnH h k _ _ _ e
  ·rename_i c
   rw[if_neg c];exact e
theorem Zl4{f g:Rdr}(h:Les f g):Les (ZbJ f) (ZbJ g):=fun t x e=>by
 unfold ZbJ at e ⊢
 split at e
 ·cases e
 ·rename_i y hy
  obtain⟨z,hz,rfl⟩:=Option.map_eq_some_iff.mp e;rw[ZiD h _ _ hy];show Option.map _ (pOs g _ _ _)=_;rw[ZnH h _ _ _ _ hz];rfl
theorem Znl:∀L:Nat,Les (pX L) (pX (L+1))
 | 0=>fun _ _ e=>by cases e
 | L+1=>Zl4 (Znl L)
theorem Zoy{L M:Nat}(h:L<=M):Les (pX L) (pX M):=by
 induction h with
 | refl=>exact fun _ _ e=>e
 | step _ ih=>exact fun t x e=>Znl _ t x (ih t x e)
structure SrC(K:PySem.W.Frag)(C:Addr):Prop where
 cls:Cls K C
 nt:Zdd K C "text"
 na:Zdd K C "at"
def srF(T:Str)(n:Nat):List (Str×V):=[("text",.str T),("at",.int (n:Int))]
def Zcq(C:Addr)(H:Hp)(a dx:Addr)(T:Str)(n:Nat):Prop:=H a=some (.ins C dx (srF T n))
def rsT(T:Str)(n:Nat):List Nat:=(cs T).drop n
def Za1(a:Addr)(H H':Hp):Prop := ∀b o,b≠a->H b=some o->H' b=some o
theorem Za1.refl{a:Addr}{H:Hp}:Za1 a H H:=fun _ _ _ h=>h
theorem Za1.trans{a:Addr}{H H1 H2:Hp}(x:Za1 a H H1)(y:Za1 a H1 H2):Za1 a H H2:=fun b o h1 h=>y b o h1 (x b o h1 h)
theorem Za1.same{a:Addr}{H H1:Hp}(x:Zk H H1):Za1 a H H1:=fun b o _ h=>x b o h
theorem Za1.up{a:Addr}{H:Hp}{o:HO}:Za1 a H (upd H a o):=fun b o' h1 h=>by rw[Zu h1];exact h
def ZgP(C:Addr):Sp:=fun vs H Q _=>∃(a dx:Addr)(T:Str),vs=[.ref a,.str T]/\H a=some (.ins C dx [])/\∀H',Za1 a H H'->Zcq C H' a dx T 0->Q .non H'
def ZhG(C:Addr):Sp:=fun vs H Q _=>∃(a dx:Addr)(T:Str)(n:Nat)(p:Str),vs=[.ref a,.str p]/\Zcq C H a dx T n/\n<=T.length/\Q (.bl (decide (cs p <+: rsT T n))) H
def ZbN(C:Addr):Sp:=fun vs H Q _=>∃(a dx:Addr)(T:Str)(n:Nat)(p:Str),vs=[.ref a,.str p]/\Zcq C H a dx T n/\n<=T.length/\p.length<=1000/\(¬ cs p <+: rsT T n->Q (.bl false) H)/\(cs p <+: rsT T n->∀H',Za1 a H H'->Zcq C H' a dx T (n+p.length)->Q (.bl true) H')
def Zfw(C XB:Addr):Sp:=fun vs H Q E=>∃(a dx:Addr)(T:Str)(n:Nat)(p:Str),vs=[.ref a,.str p]/\Zcq C H a dx T n/\n<=T.length/\p.length<=1000/\(reprText p).length<=1000/\(cs p <+: rsT T n->∀H',Za1 a H H'->Zcq C H' a dx T (n+p.length)->Q .non H')/\(¬ cs p <+: rsT T n->∀H',Za1 a H H'->E (.ref XB) none H')
def ZhL(C:Addr):Sp:=fun vs H Q _=>∃(a dx:Addr)(T:Str)(n:Nat),vs=[.ref a]/\Zcq C H a dx T n/\T.length<=90000/\Q (.bl (decide (n=T.length))) H
variable{C:Addr}
theorem ZcU(B:∀x∈ZbK,mg x=none)(c:SrC K C)(F:Fun K "__init__" "Source.__init__" Zao f fd):FnOk P w K mg base CX0 1 f fd ["self","text"] (ZgP C):=by
 refine F.ok Zdf (fun vs H Q E h=>?_) (fun cdv A outer s H vs Q E hr h=>?_)
 ·obtain⟨a,dx,T,rfl,_⟩:=h;rfl
 obtain⟨a,dx,T,rfl,ha,q⟩:=h;refine⟨_,(Zh (ZlL (pv 0) (pv 1) rfl)
  (Zi (ZlL (pv 0) Zg rfl))),?_⟩
 refine⟨_,rfl,_,rfl,a,C,dx,[],rfl,ha,c.cls,c.nt,by decide,?_⟩;refine⟨_,rfl,a,C,dx,_,rfl,Zb,c.cls,c.na,(show 1<1000 by decide),?_⟩;exact q _ (Za1.up.trans Za1.up) Zb
theorem Zer(B:∀x∈ZbK,mg x=none)(c:SrC K C)(F:Fun K "sees" "Source.sees" Za5 f fd):FnOk P w K mg base CX0 1 f fd ["self","piece"] (ZhG C):=by
 refine F.ok Zem (fun vs H Q E h=>?_) (fun cdv A outer s H vs Q E hr h=>?_)
 ·obtain⟨a,dx,T,n,p,rfl,_⟩:=h;rfl
 obtain⟨a,dx,T,n,p,rfl,ha,hn,q⟩:=h;refine⟨_,(Zi (ZL (ZbT PySem.F.plainAttrs_str PySem.F.slot_str_startswith PySem.F.type_str_startswith Zke (ZcR (pv 0) rfl) (Za (pv 1) (Za (ZcR (pv 0) rfl) Zd))))),?_⟩;refine⟨_,rfl,a,C,dx,_,_,rfl,ha,c.cls,c.nt,rfl,rfl,_,rfl,_,rfl,a,C,dx,_,_,rfl,ha,c.cls,c.na,rfl,T,p,n,rfl,rfl,hn,q⟩
theorem Zeg(B:∀x∈ZbK,mg x=none)(c_Source:SrC K C)(g_Source_sees:HasM P w K mg base C "sees" ["self","piece"] 1 (ZhG C)) (F:Fun K "skips" "Source.skips" ZaO f fd):FnOk P w K mg base CX0 2 f fd ["self","piece"] (ZbN C):=by
 refine F.ok Zee (fun vs H Q E h=>?_) (fun cdv A outer s H vs Q E hr h=>?_)
 ·obtain⟨a,dx,T,n,p,rfl,_⟩:=h;rfl
 obtain⟨a,dx,T,n,p,rfl,ha,hn,hp,q1,q2⟩:=h;have c:=c_Source;refine⟨_,(Zh (Zad (Zb4 (ZW (Zbp g_Source_sees hr (pv 0) c_Source.cls (Za (pv 1) Zd)) (fun _=>rfl)))
   (Zi (ZL ZdD))
   Zx)
  (Zh (ZfK (pv 0) (ZS ZaX rfl (B "len" (by decide)) PySem.boot_len (Za (pv 1) Zd)) ZlE)
  (Zi (ZL ZdD)))),?_⟩
 refine⟨_,rfl,a,dx,_,rfl,ha,rfl,_,rfl,a,dx,T,n,p,rfl,ha,hn,_,rfl,?_⟩;by_cases e:cs p <+: rsT T n
 ·rw[decide_eq_true e];refine ZbO ?_;refine⟨_,rfl,a,C,dx,_,_,rfl,ha,c.cls,c.na,rfl,_,rfl,p,rfl,Zj (by lia),_,_,rfl,rfl,dx,_,ha,(show 2<1000 by decide),?_⟩;exact q2 e _ Za1.up Zb
 ·rw[decide_eq_false e];exact Zcn (q1 e)
theorem Zce{a y:Addr}{H H1:Hp}{o:HO}(b:Za1 a H H1)(hy:H1 y=none):Za1 a H (upd H1 y o):=fun b' o' hb h=>by
 have:=b b' o' hb h;rw[Zu fun z=>by rw[z,hy] at this;cases this];exact this
theorem ZcI(B:∀x∈ZbK,mg x=none)(c_Source:SrC K C)(xc:XC K mg X_GroveError X_NoBook X_TwiceNamed X_NoName X_Ring)(g_Source_skips:HasM P w K mg base C "skips" ["self","piece"] 2 (ZbN C)) (F:Fun K "must_skip" "Source.must_skip" Zai f fd):FnOk P w K mg base (CXE P w) 3 f fd ["self","piece"] (Zfw C X_NoBook):=by
 refine F.okX ZcM (fun vs H Q E h=>?_) (fun cdv A outer s H vs Q E hr h=>?_)
 ·obtain⟨a,dx,T,n,p,rfl,_⟩:=h;rfl
 obtain⟨a,dx,T,n,p,rfl,ha,hn,hp,hp2,q1,q2⟩:=h;refine⟨_,(Zi (Zad (Zb4 (ZW (Zbp g_Source_skips hr (pv 0) c_Source.cls (Za (pv 1) Zd)) (fun _=>rfl)))
   (Zi (Zbj xc.top_NoBook xc.ini_NoBook xc.n_NoBook Zz hr rfl (Za (ZbS (Zbt (Ziz (pv 1)) (Zbt Zo ZeG))) Zd)))
   Zx)),?_⟩
 refine⟨_,rfl,a,dx,_,rfl,ha,rfl,_,rfl,a,dx,T,n,p,rfl,ha,hn,hp,fun z=>⟨_,rfl,Zcn ?_⟩,fun z H' b h'=>⟨_,rfl,ZbO ?_⟩⟩
 ·have l0:(Str.empty++reprText p).length<=1000:=by rw[Zn];show 0+_<=_;lia
  have l1:((Str.empty++reprText p) ++ " is missing").length<=2000:=by rw[Zn];show _+11<=_;lia
  refine⟨_,rfl,p,rfl,Zj (by lia),_,rfl,Zj (by lia),_,rfl,Zj (by lia),Zj (by lia),by show 1<=1000;decide,fun y hy=>?_⟩;exact q2 z _ (Zce Za1.refl hy)
 ·exact q1 z H' b h'
theorem ZdC(B:∀x∈ZbK,mg x=none)(c:SrC K C)(F:Fun K "at_end" "Source.at_end" ZaD f fd):FnOk P w K mg base CX0 1 f fd ["self"] (ZhL C):=by
 refine F.ok Zdv (fun vs H Q E h=>?_) (fun cdv A outer s H vs Q E hr h=>?_)
 ·obtain⟨a,dx,T,n,rfl,_⟩:=h;rfl
 obtain⟨a,dx,T,n,rfl,ha,hT,q⟩:=h;refine⟨_,(Zi (ZL (Zbo ZaV (ZcR (pv 0) rfl) (ZS ZaX rfl (B "len" (by decide)) PySem.boot_len (Za (ZcR (pv 0) rfl) Zd)) (ZM _)))),?_⟩;refine⟨_,rfl,a,C,dx,_,_,rfl,ha,c.cls,c.na,rfl,_,rfl,a,C,dx,_,_,rfl,ha,c.cls,c.nt,rfl,T,rfl,Zj (by lia),rfl,?_⟩;have e:decide (V.int (n:Int)=V.int ((T.length:Nat):Int))=decide (n=T.length):=by
  by_cases h:n=T.length
  ·rw[h,decide_eq_true rfl,decide_eq_true rfl]
  ·rw[decide_eq_false h];exact decide_eq_false fun z=>h (by injection z with z;lia)
 show Q (.bl (decide (V.int (n:Int)=V.int ((T.length:Nat):Int)))) H;rw[e];exact q
theorem Zms{P:Nat->Bool}:∀{l:List Nat}{i:Nat},(∀c∈l.take i,P c=true)->(∀c,l[i]?= some c->P c=false)->l.takeWhile P=l.take i
 | [],i,_,_=>by simp
 | x::l,0,_,h=>by
  rw[List.takeWhile_cons,h x rfl];rfl
 | x::l,i+1,h1,h2=>by
  have hx:P x=true:=h1 x (List.mem_cons_self ..);rw[List.takeWhile_cons,if_pos hx,Zms (i:=i) (fun c hc=>h1 c (List.mem_cons_of_mem _ hc)) (fun c hc=>h2 c hc)];rfl
def ZcZ(C:Addr):Sp:=fun vs H Q _=>∃(a dx:Addr)(T:Str)(n:Nat)(lo hi:Nat),vs=[.ref a,.str ⟨#[lo]⟩,.str ⟨#[hi]⟩]/\Zcq C H a dx T n/\n<=T.length/\T.length<=90000 /\
 ∀(z:Str)(H':Hp),cs z=(rsT T n).takeWhile (fun c=>decide (lo<=c)&&decide (c<=hi))->Za1 a H H'->Zcq C H' a dx T (n+z.length)->Q (.str z) H'
set_option maxHeartbeats 1000000 in
theorem Zb8(B:∀x∈ZbK,mg x=none)(c_Source:SrC K C)(g_Source_at_end:HasM P w K mg base C "at_end" ["self"] 1 (ZhL C)) (F:Fun K "take_letters" "Source.take_letters" Z2 f fd):FnOk P w K mg base CX0 2 f fd ["self","first","last"] (ZcZ C):=by
 refine F.ok Zbl (fun vs H Q E h=>?_) (fun cdv A outer s H vs Q E hr h=>?_)
 ·obtain⟨a,dx,T,n,lo,hi,rfl,_⟩:=h;rfl
 obtain⟨a,dx,T,n,lo,hi,rfl,ha,hn,hT,q⟩:=h;have c:=c_Source;have hl:(cs T).length=T.length:=Array.length_toList;refine⟨_,(Zh (ZD (i:=3) Zbl.nd rfl (Or.inl rfl) (ZcR (pv 0) rfl))
  (Zh (ZbL PassesOwn.never (PW.pt (Zf7 (Zb4 (ZW (Zhb g_Source_at_end hr (pv 0) c_Source.cls) (fun _=>rfl))) (ZdL (Zhd ZfT ZfT (pv 1) (Z9 Zjr (ZcR (pv 0) rfl) (ZcR (pv 0) rfl) (fun _ _=>rfl)) (pv 2)))))
   (Zi (ZfK (pv 0) Zg ZlE)))
  (Zi (ZL (ZdE Zjd (ZcR (pv 0) rfl) (ZdQ (pv 3)) (ZdQ (ZcR (pv 0) rfl))))))),?_⟩
 refine⟨_,rfl,a,C,dx,_,_,rfl,ha,c.cls,c.na,rfl,?_⟩;have done:∀(i:Nat)(H1:Hp),Za1 a H H1->Zcq C H1 a dx T (n+i)->n+i<=T.length->(∀d∈(rsT T n).take i,(decide (lo<=d)&&decide (d<=hi))=true)->(∀d,(rsT T n)[i]?= some d->(decide (lo<=d)&&decide (d<=hi))=false) ->
   ZnO (tSl (fun x lo hi H Q=>∃z,x=V.str z/\z.length<=sizeLine/\Q (V.str (StrLaws.sliceText z lo hi)) H) (Zob K (Zjm 0) "text") (Zmw (Zjm 3)) (Zmw (Zob K (Zjm 0) "at"))) { nx:=fun _ H'=>Q .non H',rt:=Q } [some (.ref a),some (.str ⟨#[lo]⟩),some (.str ⟨#[hi]⟩),some (.int (n:Int))] H1:=fun i H1 b1 h1 hle hp hq=>by
  refine⟨_,rfl,a,C,dx,_,_,rfl,h1,c.cls,c.nt,rfl,_,rfl,_,rfl,_,rfl,a,C,dx,_,_,rfl,h1,c.cls,c.na,rfl,((n+i:Nat):Int),rfl,T,rfl,Zj (by lia),?_⟩;have e:StrLaws.sliceText T (some (n:Int)) (some ((n+i:Nat):Int))=⟨((rsT T n).take i).toArray⟩:=by
   rw[StrLaws.sliceText_nat T (by lia) hle,Nat.add_sub_cancel_left];rfl
  rw[e];have ez:cs (⟨((rsT T n).take i).toArray⟩:Str)=(rsT T n).take i:=by unfold cs;exact List.toList_toArray
  have lz:(⟨((rsT T n).take i).toArray⟩:Str).length=i:=by
   have:(cs (⟨((rsT T n).take i).toArray⟩:Str)).length=(⟨((rsT T n).take i).toArray⟩:Str).length:=Array.length_toList;rw[<- this,ez,List.length_take];unfold rsT;rw[List.length_drop,hl];lia
  exact q _ H1 (ez.trans (Zms hp hq).symm) b1 (by rw[lz];exact h1)
 refine⟨fun m σ H1=>∃i:Nat,m=T.length-(n+i) /\ σ =[some (.ref a),some (.str ⟨#[lo]⟩),some (.str ⟨#[hi]⟩),some (.int (n:Int))]/\Za1 a H H1/\Zcq C H1 a dx T (n+i)/\n+i<=T.length/\∀d∈(rsT T n).take i,(decide (lo<=d)&&decide (d<=hi))=true,⟨_,0,rfl,rfl,Za1.refl,ha,hn,fun _ h=>nomatch h⟩,?_⟩
 rintro m σ H1 ⟨i,rfl,rfl,b1,h1,hle,hp⟩;refine⟨_,rfl,a,dx,_,rfl,h1,rfl,a,dx,T,n+i,rfl,h1,hT,_,rfl,?_⟩;by_cases e:n+i=T.length
 ·rw[decide_eq_true e];refine ZbO (ZbO ?_);refine done i H1 b1 h1 hle hp fun d hd=>?_;have:=(List.getElem?_eq_some_iff.mp hd).1;unfold rsT at this;rw[List.length_drop,hl] at this;lia
 ·rw[decide_eq_false e];have hlt:n+i<(cs T).length:=by lia
  have hc0:(cs T)[n+i]?= some (cs T)[n+i]:=List.getElem?_eq_getElem hlt;obtain⟨d,hd⟩:∃d,(cs T)[n+i]=d:=⟨_,rfl⟩;rw[hd] at hc0;have hd0:(rsT T n)[i]?= some d:=by unfold rsT;rw[List.getElem?_drop];exact hc0
  refine Zcn ?_;refine⟨_,rfl,_,rfl,a,C,dx,_,_,rfl,h1,c.cls,c.nt,rfl,_,rfl,a,C,dx,_,_,rfl,h1,c.cls,c.na,rfl,T,((n+i:Nat):Int),d,rfl,rfl,Zj (by lia),ZbP hc0,_,_,rfl,rfl,_,rfl,?_⟩;have e1:=Zlw lo d;have e2:=Zlw d hi;show if(!decide (([d]:List Nat) < [lo]))=true then _ else _
  rw[e1];by_cases l1:lo<=d
  ·rw[decide_eq_true l1];refine Zcn ⟨_,rfl,_,_,rfl,rfl,_,rfl,?_⟩;show if(!decide (([hi]:List Nat) < [d]))=true then _ else _
   rw[e2];by_cases l2:d<=hi
   ·rw[decide_eq_true l2];refine Zcn ⟨fun σ' H'=>∃m',m'<T.length-(n+i)/\∃i:Nat,m'=T.length-(n+i) /\ σ'=[some (.ref a),some (.str ⟨#[lo]⟩),some (.str ⟨#[hi]⟩),some (.int (n:Int))]/\Za1 a H H'/\Zcq C H' a dx T (n+i)/\n+i<=T.length/\∀d∈(rsT T n).take i,(decide (lo<=d)&&decide (d<=hi))=true,fun _ _ h=>h,?_⟩;refine⟨_,rfl,a,C,dx,_,_,rfl,h1,c.cls,c.na,rfl,_,_,rfl,rfl,dx,_,h1,(show 2<1000 by decide),?_⟩;refine⟨_,by show T.length-(n+(i+1))<_;lia,i+1,rfl,rfl,b1.trans Za1.up,Zb,by lia,fun x hx=>?_⟩;rw[Zh3 hd0] at hx;rcases List.mem_append.mp hx with hx|hx
    ·exact hp x hx
    ·rw[List.mem_singleton.mp hx,decide_eq_true l1,decide_eq_true l2];rfl
   ·rw[decide_eq_false l2];refine ZbO (done i H1 b1 h1 hle hp fun x hx=>?_);rw[hd0] at hx;injection hx with hx;rw[<- hx,decide_eq_false l2,Bool.and_false]
  ·rw[decide_eq_false l1];refine ZbO ⟨_,rfl,ZbO (done i H1 b1 h1 hle hp fun x hx=>?_)⟩;rw[hd0] at hx;injection hx with hx;rw[<- hx,decide_eq_false l1,Bool.false_and]
theorem Zhn{P:Nat->Bool}{l r:List Nat}(h1:∀c∈l,P c=true)(h2:∀c r',r=c::r'->P c=false):(l++r).takeWhile P=l:=by
 have e:(l++r).take l.length=l:=by simp
 refine(Zms (i:=l.length) (fun c hc=>h1 c (by rw[e] at hc;exact hc)) fun c hc=>?_).trans e;rw[List.getElem?_append_right (Nat.le_refl _),Nat.sub_self] at hc;cases r with
 | nil=>cases hc
 | cons x r' =>
  injection hc with hc;rw[<- hc];exact h2 x r' rfl
def Zff(C XB:Addr):Sp:=fun vs H Q E=>∃(a dx:Addr)(T:Str)(n:Nat),vs=[.ref a]/\Zcq C H a dx T n/\n<=T.length/\T.length<=400 /\
 (∀x,Zc7 (rsT T n)=some x->∀H' n',Za1 a H H'->Zcq C H' a dx T n'->n'<=T.length->rsT T n'=x.2->Q (.str x.1) H')/\(Zc7 (rsT T n)=none->∀H',Za1 a H H'->E (.ref XB) none H')
theorem Zg9{z:Str}(h:z.length<=400)(hc:∀c∈cs z,c<=122):(reprText z).length<=5000:=by
 have lr:=PySem.StrLaws.reprText_len z (fun c hx=>Nat.lt_of_le_of_lt (hc c hx) (by decide));lia
theorem ZiU{p:Nat->Bool}:∀{l:List Nat}{c:Nat},c∈l.takeWhile p->p c=true
 | x::l,c,h=>by
  rw[List.takeWhile_cons] at h
  split at h
  ·rename_i hx
   rcases List.mem_cons.mp h with rfl|h
   ·exact hx
   ·exact ZiU h
  ·cases h
theorem ZoG{c:Nat}(h:isUp c=true):65<=c/\c<=90:=by
 unfold isUp at h;rw[Bool.and_eq_true] at h;exact⟨of_decide_eq_true h.1,of_decide_eq_true h.2⟩
theorem ZoL{c:Nat}(h:ZdF c=true):97<=c/\c<=122:=by
 unfold ZdF at h;rw[Bool.and_eq_true] at h;exact⟨of_decide_eq_true h.1,of_decide_eq_true h.2⟩
theorem Zbu{T:Str}{n:Nat}(k:Nat):rsT T (n+k)=(rsT T n).drop k:=by
 unfold rsT;rw[List.drop_drop]
theorem ZnY(p:Nat->Bool)(l:List Nat):(l.takeWhile p).length<=l.length:=(List.takeWhile_prefix p).length_le
theorem ZcK(B:∀x∈ZbK,mg x=none)(Cc1:∃t:Tok,mg "LONGEST_NAME" = some (.int 8 t)) (c_Source:SrC K C) (xc:XC K mg X_GroveError X_NoBook X_TwiceNamed X_NoName X_Ring) (g_Source_take_letters:HasM P w K mg base C "take_letters" ["self","first","last"] 2 (ZcZ C)) (F:Fun K "take_name" "Source.take_name" Zah f fd):FnOk P w K mg base (CXE P w) 3 f fd ["self"] (Zff C X_NoBook):=by
 refine F.okX ZbG (fun vs H Q E h=>?_) (fun cdv A outer s H vs Q E hr h=>?_)
 ·obtain⟨a,dx,T,n,rfl,_⟩:=h;rfl
 obtain⟨a,dx,T,n,rfl,ha,hn,hT,q1,q2⟩:=h;obtain⟨t1,c_LONGEST_NAME⟩:=Cc1;refine⟨_,(Zh (ZD (i:=1) ZbG.nd rfl (Or.inl rfl) (Zbp g_Source_take_letters hr (pv 0) c_Source.cls (Za Zo (Za Zo Zd))))
  (Zh (Zad (Zb4 (Zhd Zk0 Zk0 Zg (ZS ZaX rfl (B "len" (by decide)) PySem.boot_len (Za (pv 1) Zd)) (ZaA (v:=.int 8) rfl c_LONGEST_NAME ⟨_,rfl⟩)))
   (Zi (Zbj xc.top_NoBook xc.ini_NoBook xc.n_NoBook Zz hr rfl (Za (ZbS (Zbt (Ziz (pv 1)) (Zbt Zo ZeG))) Zd)))
   Zx)
  (Zi (ZL (pv 1))))),?_⟩
 refine⟨_,rfl,a,dx,_,rfl,ha,rfl,a,dx,T,n,65,90,rfl,ha,hn,by lia,fun z H' ez b1 h1=>?_⟩;have ez:cs z=(rsT T n).takeWhile isUp:=ez;have hzl:(cs z).length=z.length:=Array.length_toList;have hrl:(rsT T n).length=T.length-n:=by unfold rsT;rw[List.length_drop,Zas]
 have hle:=ZnY isUp (rsT T n);rw[<- ez] at hle;have hN:Zc7 (rsT T n)=if 1<=z.length/\z.length<=8 then some (z,(rsT T n).drop z.length) else none:=by
  unfold Zc7;rw[<- ez,hzl,Zha]
 have hR:=Zg9 (z:=z) (by lia) fun c hc=>by
  rw[ez] at hc;have:=(ZoG (ZiU hc)).2;lia
 have l0:(Str.empty++reprText z).length<=5000:=by rw[Zn];show 0+_<=_;lia
 have l1:((Str.empty++reprText z) ++ " is no name").length<=6000:=by rw[Zn];show _+11<=_;lia
 refine⟨_,rfl,z,rfl,Zj (by lia),_,_,rfl,rfl,_,rfl,ZaU (fun c1=>?_) (fun c1=>?_)⟩
 ·refine⟨_,_,rfl,rfl,_,rfl,?_⟩;have c1:(1:Int)<=(z.length:Int):=of_decide_eq_true c1;show if(!(decide (((z.length:Nat):Int)<=8)))=true then _ else _
  by_cases h8:z.length<=8
  ·rw[decide_eq_true (by lia)];rw[if_pos ⟨by lia,h8⟩] at hN;exact ZbO ⟨_,rfl,q1 _ hN H' _ b1 h1 (by lia) (Zbu _)⟩
  ·rw[decide_eq_false (by lia)];rw[if_neg fun c=>h8 c.2] at hN;refine Zcn ⟨_,rfl,z,rfl,Zj (by lia),_,rfl,Zj (by lia),_,rfl,Zj (by lia),Zj (by lia),by show 1<=1000;decide,fun y hy=>q2 hN _ (Zce b1 hy)⟩
 ·have c1 : ¬ (1:Int)<=(z.length:Int):=fun c=>c1 (decide_eq_true c);rw[if_neg fun c=>c1 (by lia)] at hN;refine⟨_,rfl,Zcn ⟨_,rfl,z,rfl,Zj (by lia),_,rfl,Zj (by lia),_,rfl,Zj (by lia),Zj (by lia),by show 1<=1000;decide,fun y hy=>q2 hN _ (Zce b1 hy)⟩⟩
mutual
inductive RepK(K:PySem.W.Frag)(H:Hp):Addr->Ex->Prop
 | nil {p:Addr}:SqT K H p [.str "nil"]->RepK K H p .nil
 | tag {p q:Addr} {t:Str} {i:Ex}:SqT K H p [.str "tag",.str t,.ref q]->RepK K H q i->RepK K H p (.tag t i)
 | name {p:Addr} {n:Str}:SqT K H p [.str "name",.str n]->RepK K H p (.name n)
 | several {p q:Addr} {b:Bool} {vs:List V} {ps:Exs}:SqT K H p [.str (ZeF b),.ref q]->SqT K H q vs->RepKs K H vs ps->RepK K H p (.several b ps)
 | rep {p q:Addr} {m:Nat} {e:Ex}:SqT K H p [.str (ZbI m),.ref q]->RepK K H q e->RepK K H p (.rep m e)
inductive RepKs(K:PySem.W.Frag)(H:Hp):List V->Exs->Prop
 | nil:RepKs K H [] .nil
 | cons {p:Addr} {e:Ex} {vs:List V} {r:Exs}:RepK K H p e->RepKs K H vs r->RepKs K H (.ref p::vs) (.cons e r)
end
def TF(K:PySem.W.Frag)(H H':Hp):Prop := ∀p xs,SqT K H p xs->SqT K H' p xs
mutual
theorem RepK.mono{K:PySem.W.Frag}{H H':Hp}(k:TF K H H'):∀{p:Addr}{e:Ex},RepK K H p e->RepK K H' p e
 | _,_,.nil h=>.nil (k _ _ h)
 | _,_,.tag h r=>.tag (k _ _ h) (RepK.mono k r)
 | _,_,.name h=>.name (k _ _ h)
 | _,_,.several h1 h2 r=>.several (k _ _ h1) (k _ _ h2) (RepKs.mono k r)
 | _,_,.rep h r=>.rep (k _ _ h) (RepK.mono k r)
theorem RepKs.mono{K:PySem.W.Frag}{H H':Hp}(k:TF K H H'):∀{vs:List V}{ps:Exs},RepKs K H vs ps->RepKs K H' vs ps
 | _,_,.nil=>.nil
 | _,_,.cons h r=>.cons (RepK.mono k h) (RepKs.mono k r)
end
theorem TF.refl{K:PySem.W.Frag}{H:Hp}:TF K H H:=fun _ _ h=>h
theorem TF.trans{K:PySem.W.Frag}{H H1 H2:Hp}(x:TF K H H1)(y:TF K H1 H2):TF K H H2:=fun p xs h=>y p xs (x p xs h)
theorem TF.bar{K:PySem.W.Frag}{H H':Hp}{a C dx:Addr}{fs:List (Str×V)}(b:Za1 a H H')(ha:H a=some (.ins C dx fs)):TF K H H':=fun p xs h=>by
 rcases h with(h|⟨o,h⟩)|h
 ·refine .inl (.inl (b p _ (fun e=>?_) h));rw[e,ha] at h;cases h
 ·refine .inl (.inr ⟨o,b p _ (fun e=>?_) h⟩);rw[e,ha] at h;cases h
 ·exact .inr h
theorem TF.same{K:PySem.W.Frag}{H H':Hp}(s:Zk H H'):TF K H H':=fun p xs h=>by
 rcases h with(h|⟨o,h⟩)|h
 ·exact .inl (.inl (s _ _ h))
 ·exact .inl (.inr ⟨o,s _ _ h⟩)
 ·exact .inr h
def Zfu(K:PySem.W.Frag)(C XB:Addr)(p:Rdr)(L:Nat):Sp:=fun vs H Q E=>∃(a dx:Addr)(T:Str)(n:Nat),vs=[.ref a,.int (L:Int)]/\Zcq C H a dx T n/\n<=T.length/\T.length<=400 /\
 (∀x,p (rsT T n)=some x->∀(q:Addr)(n':Nat)(H':Hp),Za1 a H H'->Zcq C H' a dx T n'->n'<=T.length->rsT T n'=x.2->RepK K H' q x.1->Q (.ref q) H') /\
 (p (rsT T n)=none->∀H',Za1 a H H'->E (.ref XB) none H')
def inL(i:Ex):List Nat:=if Zck i=true then [] else 40::(cs (tx i) ++ [41])
theorem ZcC{T p:Str}{n:Nat}(h:cs p <+: rsT T n)(hn:n<=T.length):n+p.length<=T.length:=by
 obtain⟨r,e⟩:=h;have:=congrArg List.length e;unfold rsT at this;rw[List.length_append,List.length_drop,Zas,Zas] at this;lia
theorem Zfo{p:Str}(h:p.length<=20)(hc:∀c∈cs p,c<=126):(reprText p).length<=1000:=by
 have lr:=PySem.StrLaws.reprText_len p (fun c hx=>Nat.lt_of_le_of_lt (hc c hx) (by decide));lia
variable{A_NIL:Addr}
set_option maxHeartbeats 1000000 in
theorem Zcz(L:Nat)(B:∀x∈ZbK,mg x=none)(c_NIL:mg "NIL" = some (.ref A_NIL)) (nilT:∀H,SqT K H A_NIL [.str "nil"]) (c_Source:SrC K C) (xc:XC K mg X_GroveError X_NoBook X_TwiceNamed X_NoName X_Ring) (g_Source_skips:HasM P w K mg base C "skips" ["self","piece"] 2 (ZbN C)) (g_Source_take_expr:HasMX P w K mg base C "take_expr" ["self","levels"] (5*L+4) (Zfu K C X_NoBook (pX L) L)) (g_Source_must_skip:HasMX P w K mg base C "must_skip" ["self","piece"] 3 (Zfw C X_NoBook)) (F:Fun K "take_inner" "Source.take_inner" Zae f fd):FnOk P w K mg base (CXE P w) (5*L+5) f fd ["self","levels"] (Zfu K C X_NoBook (ZeA (pX L)) (L+1)):=by
 refine F.okX Zbx (fun vs H Q E h=>?_) (fun cdv A outer s H vs Q E hr h=>?_)
 ·obtain⟨a,dx,T,n,rfl,_⟩:=h;rfl
 obtain⟨a,dx,T,n,rfl,ha,hn,hT,q1,q2⟩:=h;refine⟨_,(Zh (Zad (Zb4 (ZW (Zbp g_Source_skips hr (pv 0) c_Source.cls (Za Zo Zd) (by lia)) (fun _=>rfl)))
   (Zi (ZL (ZaA (v:=.ref A_NIL) rfl c_NIL rfl)))
   Zx)
  (Zh (ZD (i:=2) Zbx.nd rfl (Or.inl rfl) (ZaS g_Source_take_expr Zz hr (pv 0) c_Source.cls (Za (Zw Zhw (pv 1) Zg) Zd) (by lia)))
  (Zh (Zaw (ZaS g_Source_must_skip Zz hr (pv 0) c_Source.cls (Za Zo Zd) (by lia)))
  (Zi (ZL (pv 2)))))),?_⟩
 refine⟨_,rfl,a,dx,_,rfl,ha,rfl,a,dx,T,n,"(",rfl,ha,hn,(by decide),fun z=>?_,fun z H1 b1 h1=>?_⟩
 ·refine⟨_,rfl,Zcn ?_⟩;have hp:ZeA (pX L) (rsT T n)=some (.nil,rsT T n):=if_neg z;exact q1 _ hp A_NIL n H Za1.refl ha hn rfl (.nil (nilT H))
 ·refine⟨_,rfl,ZbO ?_⟩;have hp:ZeA (pX L) (rsT T n)=ZbU (pX L) 41 ((rsT T n).drop 1):=if_pos z;have n1:=ZcC z hn;have n1:n+1<=T.length:=n1;have h1:Zcq C H1 a dx T (n+1):=h1;rw[<- Zbu] at hp;refine⟨_,rfl,a,dx,_,rfl,h1,rfl,_,rfl,_,_,rfl,rfl,a,dx,T,n+1,?_,h1,n1,hT,fun x hx p n2 H2 b2 h2 l2 e2 rp=>?_,fun hx H2 b2=>?_⟩
  ·show [V.ref a,V.int (((L+1:Nat):Int)-1)]=_;rw[show(((L+1:Nat):Int)-1)=(L:Int) by lia]
  ·have hp:ZeA (pX L) (rsT T n)=if [41] <+: x.2 then some (x.1,x.2.drop 1) else none:=by
    rw[hp];unfold ZbU;rw[hx]
   refine⟨_,rfl,a,dx,_,rfl,h2,rfl,a,dx,T,n2,")",rfl,h2,l2,(by decide),Zfo (by decide) (by decide),fun z3 H3 b3 h3=>?_,fun z3 H3 b3=>?_⟩
   ·have z3':[41] <+: x.2:=by rw[<- e2];exact z3
    rw[if_pos z3'] at hp;refine⟨_,rfl,q1 _ hp p (n2+1) H3 ((b1.trans b2).trans b3) h3 (ZcC z3 l2) ?_ (rp.mono (TF.bar b3 h2))⟩;rw[Zbu,e2]
   ·have z3' : ¬ [41] <+: x.2:=by rw[<- e2];exact z3
    rw[if_neg z3'] at hp;exact q2 hp H3 ((b1.trans b2).trans b3)
  ·refine q2 ?_ H2 (b1.trans b2);rw[hp];unfold ZbU;rw[hx]
set_option maxHeartbeats 2000000 in
theorem Zcc(L:Nat)(B:∀x∈ZbK,mg x=none)(c_NIL:mg "NIL" = some (.ref A_NIL)) (nilT:∀H,SqT K H A_NIL [.str "nil"]) (c_Source:SrC K C) (xc:XC K mg X_GroveError X_NoBook X_TwiceNamed X_NoName X_Ring) (g_Source_skips:HasM P w K mg base C "skips" ["self","piece"] 2 (ZbN C)) (g_Source_take_expr:HasMX P w K mg base C "take_expr" ["self","levels"] (5*L+4) (Zfu K C X_NoBook (pX L) L)) (g_Source_must_skip:HasMX P w K mg base C "must_skip" ["self","piece"] 3 (Zfw C X_NoBook)) (g_Source_take_letters:HasM P w K mg base C "take_letters" ["self","first","last"] 2 (ZcZ C)) (g_Source_take_name:HasMX P w K mg base C "take_name" ["self"] 3 (Zff C X_NoBook)) (g_is_tag:Has P w K mg base "is_tag" ["text"] 1 Zge) (g_Source_take_inner:HasMX P w K mg base C "take_inner" ["self","levels"] (5*L+5) (Zfu K C X_NoBook (ZeA (pX L)) (L+1))) (F:Fun K "take_single" "Source.take_single" Z7 f fd):FnOk P w K mg base (CXE P w) (5*L+6) f fd ["self","levels"] (Zfu K C X_NoBook (Zby (pX L)) (L+1)):=by
 refine F.okX ZaY (fun vs H Q E h=>?_) (fun cdv A outer s H vs Q E hr h=>?_)
 ·obtain⟨a,dx,T,n,rfl,_⟩:=h;rfl
 obtain⟨a,dx,T,n,rfl,ha,hn,hT,q1,q2⟩:=h;refine⟨_,(Zh (Zad (ZW (Zbp g_Source_skips hr (pv 0) c_Source.cls (Za Zo Zd) (by lia)) (fun _=>rfl))
   (Zi (ZL (ZaA (v:=.ref A_NIL) rfl c_NIL rfl)))
   Zx)
  (Zh (Zad (ZW (Zbp g_Source_skips hr (pv 0) c_Source.cls (Za Zo Zd) (by lia)) (fun _=>rfl))
   (Zh (ZD (i:=2) ZaY.nd rfl (Or.inl rfl) (ZaS g_Source_take_expr Zz hr (pv 0) c_Source.cls (Za (Zw Zhw (pv 1) Zg) Zd) (by lia)))
    (Zh (Zaw (ZaS g_Source_must_skip Zz hr (pv 0) c_Source.cls (Za Zo Zd) (by lia)))
    (Zi (ZL (pv 2)))))
   Zx)
  (Zh (ZD (i:=3) ZaY.nd rfl (Or.inl rfl) (Zbp g_Source_take_letters hr (pv 0) c_Source.cls (Za Zo (Za Zo Zd)) (by lia)))
  (Zh (Zad (ZC ZaV (pv 3) Zo (ZM _))
   (Zi (ZL (Zbs (Za Zo (Za (ZfW g_Source_take_name Zz hr (pv 0) c_Source.cls (by lia)) Zd)))))
   Zx)
  (Zh (Zad (Zb4 (ZW (ZR g_is_tag hr rfl (Za (pv 3) Zd) (by lia)) (fun _=>rfl)))
   (Zi (Zbj xc.top_NoBook xc.ini_NoBook xc.n_NoBook Zz hr rfl (Za (ZbS (Zbt (Ziz (pv 3)) (Zbt Zo ZeG))) Zd)))
   Zx)
  (Zi (ZL (Zbs (Za Zo (Za (pv 3) (Za (ZaS g_Source_take_inner Zz hr (pv 0) c_Source.cls (Za (pv 1) Zd) (by lia)) Zd))))))))))),?_⟩
 refine⟨_,rfl,a,dx,_,rfl,ha,rfl,a,dx,T,n,"{}",rfl,ha,hn,(by decide),fun z=>?_,fun z H1 b1 h1=>?_⟩;rotate_left
 ·have hp:Zby (pX L) (rsT T n)=some (.nil,(rsT T n).drop 2):=if_pos z;refine⟨_,rfl,Zcn ?_⟩;exact q1 _ hp A_NIL (n+2) H1 b1 h1 (ZcC z hn) (Zbu _) (.nil (nilT H1))
 refine⟨_,rfl,ZbO ?_⟩;refine⟨_,rfl,a,dx,_,rfl,ha,rfl,a,dx,T,n,"{",rfl,ha,hn,(by decide),fun z2=>?_,fun z2 H1 b1 h1=>?_⟩;rotate_left
 ·refine⟨_,rfl,Zcn ?_⟩;have hp:Zby (pX L) (rsT T n)=ZbU (pX L) 125 ((rsT T n).drop 1):=(if_neg z).trans (if_pos z2);have n1:n+1<=T.length:=ZcC z2 hn;have h1:Zcq C H1 a dx T (n+1):=h1;rw[<- Zbu] at hp;refine⟨_,rfl,a,dx,_,rfl,h1,rfl,_,rfl,_,_,rfl,rfl,a,dx,T,n+1,?_,h1,n1,hT,fun x hx p n2 H2 b2 h2 l2 e2 rp=>?_,fun hx H2 b2=>?_⟩
  ·show [V.ref a,V.int (((L+1:Nat):Int)-1)]=_;rw[show(((L+1:Nat):Int)-1)=(L:Int) by lia]
  ·have hp:Zby (pX L) (rsT T n)=if [125] <+: x.2 then some (x.1,x.2.drop 1) else none:=by
    rw[hp];unfold ZbU;rw[hx]
   refine⟨_,rfl,a,dx,_,rfl,h2,rfl,a,dx,T,n2,"}",rfl,h2,l2,(by decide),Zfo (by decide) (by decide),fun z3 H3 b3 h3=>?_,fun z3 H3 b3=>?_⟩
   ·have z3':[125] <+: x.2:=by rw[<- e2];exact z3
    rw[if_pos z3'] at hp;refine⟨_,rfl,q1 _ hp p (n2+1) H3 ((b1.trans b2).trans b3) h3 (ZcC z3 l2) ?_ (rp.mono (TF.bar b3 h2))⟩;rw[Zbu,e2]
   ·have z3' : ¬ [125] <+: x.2:=by rw[<- e2];exact z3
    rw[if_neg z3'] at hp;exact q2 hp H3 ((b1.trans b2).trans b3)
  ·refine q2 ?_ H2 (b1.trans b2);rw[hp];unfold ZbU;rw[hx]
 refine⟨_,rfl,ZbO ?_⟩;have hp:Zby (pX L) (rsT T n)=if(rsT T n).takeWhile ZdF=[] then(Zc7 (rsT T n)).map fun x=>(.name x.1,x.2) else if((rsT T n).takeWhile ZdF).length<=8 then(ZeA (pX L) ((rsT T n).drop ((rsT T n).takeWhile ZdF).length)).map fun x=>(.tag (stO ((rsT T n).takeWhile ZdF)) x.1,x.2) else none:=(if_neg z).trans (if_neg z2)
 refine⟨_,rfl,a,dx,_,rfl,ha,rfl,a,dx,T,n,97,122,rfl,ha,hn,(by lia),fun t0 H1 et b1 h1=>?_⟩;have et:cs t0=(rsT T n).takeWhile ZdF:=et;have hrl:(rsT T n).length=T.length-n:=by unfold rsT;rw[List.length_drop,Zas]
 have hle:=ZnY ZdF (rsT T n);rw[<- et,Zas,<- Zbu,Zha] at hp;rw[<- et,Zas] at hle;refine⟨_,rfl,rfl,_,rfl,ZaU (fun z3=>?_) (fun z3=>?_)⟩
 ·have z3:V.str t0=V.str "" := of_decide_eq_true z3;injection z3 with z3;subst z3;rw[if_pos (show cs (Str.ofString "")=[] from rfl)] at hp;have h1:Zcq C H1 a dx T n:=h1;refine⟨_,rfl,a,dx,_,rfl,h1,rfl,a,dx,T,n,rfl,h1,hn,hT,fun x hx H2 n2 b2 h2 l2 e2=>?_,fun hx H2 b2=>?_⟩
  ·rw[hx] at hp;refine⟨(by show(2:Nat)<=sizeLine;decide),fun p hp'=>?_⟩;have s3:=Zk.new (o:=.tup [.str "name",.str x.1]) hp';exact q1 _ hp p n2 _ ((b1.trans b2).trans (Za1.same s3)) (s3 _ _ h2) l2 e2 (.name (SqT.of Zb))
  ·rw[hx] at hp;exact q2 hp H2 (b1.trans b2)
 have hne:cs t0 ≠ []:=fun e=>z3 (decide_eq_true (by rw[show t0=Str.ofString "" from Zb5 e]));rw[if_neg hne] at hp;have hl:Zkl t0:=⟨hne,fun c hc=>ZoL (ZiU (by rw[<- et];exact hc))⟩;refine⟨_,rfl,t0,rfl,by lia,fun H2 s2=>⟨_,rfl,?_⟩⟩;have h2:Zcq C H2 a dx T (n+t0.length):=s2 _ _ h1;by_cases h8:t0.length<=8
 ·rw[Zie hl h8];rw[if_pos h8] at hp;refine ZbO ?_;refine⟨_,rfl,_,rfl,a,dx,_,rfl,h2,rfl,_,rfl,a,dx,T,n+t0.length,rfl,h2,by lia,hT,fun x hx p n3 H3 b3 h3 l3 e3 rp=>?_,fun hx H3 b3=>?_⟩
  ·rw[hx] at hp;refine⟨(by show(3:Nat)<=sizeLine;decide),fun pp hp'=>?_⟩;have s4:=Zk.new (o:=.tup [.str "tag",.str t0,.ref p]) hp';exact q1 _ hp pp n3 _ (((b1.trans (Za1.same s2)).trans b3).trans (Za1.same s4)) (s4 _ _ h3) l3 e3 (.tag (SqT.of Zb) (rp.mono (TF.same s4)))
  ·rw[hx] at hp;exact q2 hp H3 ((b1.trans (Za1.same s2)).trans b3)
 ·have hb:Zm1 t0=false:=by
   unfold Zm1;rw[decide_eq_false h8,Bool.and_false,Bool.false_and]
  rw[hb];rw[if_neg h8] at hp;have hR:=Zg9 (z:=t0) (by lia) fun c hc=>(hl.2 c hc).2;have l0:(Str.empty++reprText t0).length<=5000:=by rw[Zn];show 0+_<=_;lia
  have l1:((Str.empty++reprText t0) ++ " is no tag").length<=6000:=by rw[Zn];show _+10<=_;lia
  refine Zcn ⟨_,rfl,t0,rfl,Zj (by lia),_,rfl,Zj (by lia),_,rfl,Zj (by lia),Zj (by lia),by show 1<=1000;decide,fun y hy=>q2 hp _ (Zce (b1.trans (Za1.same s2)) hy)⟩
def mks:List (Str×V):=[("many",.str "*"),("some",.str "+"),("maybe",.str "?")]
theorem ZmM{i:Nat}{k:Str}{v:V}(h:mks[i]?= some (k,v)):i<3/\k=ZbI i/\v=.str (Zei i):=by
 match i,h with
 | 0,h=>cases h;exact⟨by decide,rfl,rfl⟩
 | 1,h=>cases h;exact⟨by decide,rfl,rfl⟩
 | 2,h=>cases h;exact⟨by decide,rfl,rfl⟩
 | i+3,h=>cases h
theorem Zd6{i:Nat}(h:i<3):∃c,cs (Zei i)=[c]/\(c=42\/c=43\/c=63)/\(Zei i).length=1:=by
 match i,h with
 | 0,_=>exact⟨42,rfl,.inl rfl,rfl⟩
 | 1,_=>exact⟨43,rfl,.inr (.inl rfl),rfl⟩
 | 2,_=>exact⟨63,rfl,.inr (.inr rfl),rfl⟩
theorem Zok{x:Ex×List Nat}{i:Nat}(h3:i<3)(hb:∀j,j<i -> ¬ cs (Zei j) <+: x.2)(h:cs (Zei i) <+: x.2):pMk x=(.rep i x.1,x.2.drop 1):=by
 unfold pMk
 match i,h3 with
 | 0,_=>exact if_pos h
 | 1,_=>exact(if_neg (hb 0 (by lia))).trans (if_pos h)
 | 2,_=>exact(if_neg (hb 0 (by lia))).trans ((if_neg (hb 1 (by lia))).trans (if_pos h))
theorem Zmi{x:Ex×List Nat}(hb:∀j,j<3 -> ¬ cs (Zei j) <+: x.2):pMk x=x:=(if_neg (hb 0 (by lia))).trans ((if_neg (hb 1 (by lia))).trans (if_neg (hb 2 (by lia))))
variable{A_MARKS:Addr}
set_option maxHeartbeats 2000000 in
theorem Zci(L:Nat)(B:∀x∈ZbK,mg x=none)(c_MARKS:mg "MARKS" = some (.ref A_MARKS)) (marksD:KTab K A_MARKS mks) (marksS:(A_MARKS == sysModules)=false) (c_Source:SrC K C) (xc:XC K mg X_GroveError X_NoBook X_TwiceNamed X_NoName X_Ring) (g_Source_take_single:HasMX P w K mg base C "take_single" ["self","levels"] (5*L+6) (Zfu K C X_NoBook (Zby (pX L)) (L+1))) (g_Source_skips:HasM P w K mg base C "skips" ["self","piece"] 2 (ZbN C)) (F:Fun K "take_marked" "Source.take_marked" Z8 f fd):FnOk P w K mg base (CXE P w) (5*L+7) f fd ["self","levels"] (Zfu K C X_NoBook (Zbq (pX L)) (L+1)):=by
 refine F.okX Zau (fun vs H Q E h=>?_) (fun cdv A outer s H vs Q E hr h=>?_)
 ·obtain⟨a,dx,T,n,rfl,_⟩:=h;rfl
 obtain⟨a,dx,T,n,rfl,ha,hn,hT,q1,q2⟩:=h;refine⟨_,(Zh (ZD (i:=2) Zau.nd rfl (Or.inl rfl) (ZaS g_Source_take_single Zz hr (pv 0) c_Source.cls (Za (pv 1) Zd) (by lia)))
  (Zh (Zch PassesOwn.leaving rfl (ZkX (ZaA (v:=.ref A_MARKS) rfl c_MARKS rfl)) (ZdW rfl (Zar (ZV (i:=3) Zau.nd rfl (Or.inl rfl)) (Zar (ZV (i:=4) Zau.nd rfl (Or.inl rfl)) Zb0)))
   (Zi (Zad (ZW (Zbp g_Source_skips hr (pv 0) c_Source.cls (Za (pv 4) Zd) (by lia)) (fun _=>rfl))
     (Zi (ZL (Zbs (Za (pv 3) (Za (pv 2) Zd)))))
     Zx)))
  (Zi (ZL (pv 2))))),?_⟩
 refine⟨_,rfl,a,dx,_,rfl,ha,rfl,_,rfl,a,dx,T,n,rfl,ha,hn,hT,fun x hx pp n1 H1 b1 h1 l1 e1 rp=>?_,fun hx H1 b1=>q2 (by unfold Zbq;rw[hx];rfl) H1 b1⟩;have hp:Zbq (pX L) (rsT T n)=some (pMk x):=by unfold Zbq;rw[hx];rfl
 refine⟨A_MARKS,mks,rfl,marksD,marksS,Zka (fun i σ H2=>∃v3 v4:Option V,σ =[some (.ref a),some (.int ((L+1:Nat):Int)),some (.ref pp),v3,v4]/\Zk H1 H2/\∀j,j<i -> ¬ cs (Zei j) <+: x.2) ⟨none,none,rfl,Zk.refl _,fun _ h=>absurd h (Nat.not_lt_zero _)⟩ ?_ ?_⟩
 ·rintro i k v u σ H2 hg ⟨v3,v4,rfl,s2,him⟩ hu;obtain⟨i3,rfl,rfl⟩:=ZmM hg;have s3:=Zk.new (o:=.tup [.str (ZbI i),.str (Zei i)]) hu;have s13:=s2.trans s3;have h3:Zcq C _ a dx T n1:=s13 _ _ h1;refine⟨u,_,rfl,SqT.of Zb,rfl,_,_,rfl,_,_,rfl,rfl,?_⟩;refine⟨_,rfl,a,dx,_,rfl,h3,rfl,_,rfl,a,dx,T,_,Zei i,rfl,h3,l1,by rw[(Zd6 i3).choose_spec.2.2];decide,fun z=>⟨_,rfl,ZbO ⟨_,_,rfl,s13,fun j hj=>?_⟩⟩,fun z H4 b4 h4=>⟨_,rfl,Zcn ?_⟩⟩
  ·by_cases h:j=i
   ·rw[h,<- e1];exact z
   ·exact him j (by lia)
  ·have z':cs (Zei i) <+: x.2:=by rw[<- e1];exact z
   rw[Zok i3 him z'] at hp;refine⟨_,rfl,_,rfl,(by show(2:Nat)<=sizeLine;decide),fun p5 hp5=>?_⟩;have s5:=Zk.new (o:=.tup [.str (ZbI i),.ref pp]) hp5;have lc:=(Zd6 i3).choose_spec.2.2;have l4:=ZcC z l1;rw[lc] at h4 l4;exact q1 _ hp p5 (n1+1) _ (((b1.trans (Za1.same s13)).trans b4).trans (Za1.same s5)) (s5 _ _ h4) l4 (by rw[Zbu,e1]) (.rep (SqT.of Zb) ((rp.mono ((TF.same s13).trans (TF.bar b4 h3))).mono (TF.same s5)))
 ·rintro σ H2 ⟨v3,v4,rfl,s2,him⟩;rw[Zmi him] at hp;exact⟨_,rfl,q1 _ hp pp n1 H2 (b1.trans (Za1.same s2)) (s2 _ _ h1) l1 e1 (rp.mono (TF.same s2))⟩
theorem RepKs.of{K:PySem.W.Frag}{H:Hp}:∀{ps:Exs}{vs:List V},Paired (fun(v:V)(e:Ex)=>∃p,v=.ref p/\RepK K H p e) vs (toL ps)->RepKs K H vs ps
 | .nil,_,h=>by cases h;exact .nil
 | .cons e r,_,h=>by
  cases h with
  | cons x t =>
   obtain⟨p,rfl,y⟩:=x;exact .cons y (RepKs.of t)
theorem PR.keep{K:PySem.W.Frag}{H H':Hp}(k:TF K H H'){vs:List V}{es:List Ex}(h:Paired (fun(v:V)(e:Ex)=>∃p,v=.ref p/\RepK K H p e) vs es):Paired (fun(v:V)(e:Ex)=>∃p,v=.ref p/\RepK K H' p e) vs es:=by
 induction h with
 | nil=>exact .nil
 | cons x t ih =>
  obtain⟨p,e,y⟩:=x;exact .cons ⟨p,e,y.mono k⟩ ih
theorem PR.len{K:PySem.W.Frag}{H:Hp}{vs:List V}{es:List Ex}(h:Paired (fun(v:V)(e:Ex)=>∃p,v=.ref p/\RepK K H p e) vs es):vs.length=es.length:=by
 induction h with
 | nil=>rfl
 | cons _ _ ih=>rw[List.length_cons,List.length_cons,ih]
theorem Zkg{l:List Str}:∀es:List Ex,es.length<=(es.flatMap fun p=>[32]++tL l p).length
 | []=>Nat.zero_le _
 | e::es=>by
  have:=Zkg (l:=l) es;rw[List.flatMap_cons,List.length_append,List.length_append,List.length_cons];show _<=1+_+_;lia
theorem Za1.new{a pl:Addr}{H H1 H2:Hp}{o:HO}(b1:Za1 a H H1)(n1:H1 pl=none)(na:pl≠a)(b2:Za1 a H H2):Za1 a H (upd H2 pl o):=fun b u hb e=>by
 have:b≠pl:=fun z=>by
  have:=b1 b u hb e;rw[z,n1] at this;cases this
 rw[Zu this];exact b2 b u hb e
theorem TF.lst{K:PySem.W.Frag}{H:Hp}{pl:Addr}{vs ws:List V}(h:H pl=some (.lst vs)):TF K H (upd H pl (.lst ws)):=fun p xs k=>by
 rcases k with(k|⟨o,k⟩)|k
 ·refine .inl (.inl ?_);rw[Zu fun z=>by rw[z,h] at k;cases k];exact k
 ·refine .inl (.inr ⟨o,?_⟩);rw[Zu fun z=>by rw[z,h] at k;cases k];exact k
 ·exact .inr k
theorem PR.snoc{K:PySem.W.Frag}{H:Hp}{vs:List V}{es:List Ex}{p:Addr}{e:Ex}(h:Paired (fun(v:V)(e:Ex)=>∃p,v=.ref p/\RepK K H p e) vs es)(r:RepK K H p e):Paired (fun(v:V)(e:Ex)=>∃p,v=.ref p/\RepK K H p e) (vs ++ [.ref p]) (es ++ [e]):=by
 induction h with
 | nil=>exact .cons ⟨p,rfl,r⟩ .nil
 | cons x t ih=>exact .cons x ih
theorem Zhq{l:List Str}:∀es:List Ex,es.length<=(es.flatMap fun p=>[32,124,32]++tL l p).length
 | []=>Nat.zero_le _
 | e::es=>by
  have:=Zhq (l:=l) es;rw[List.flatMap_cons,List.length_append,List.length_append,List.length_cons];show _<=3+_+_;lia
theorem ZlJ{b:Bool}:∀{es:List Ex},es.length≠1->mkS b es=.several b (ofL es)
 | [],_=>rfl
 | [_],h=>absurd rfl h
 | _::_::_,_=>rfl
theorem ZcD{T:Str}{n:Nat}:(rsT T n).length=T.length-n:=by unfold rsT;rw[List.length_drop,Zas]
theorem Zfk{f:Rdr}{k:Nat}{acc:List Ex}{t:List Nat}(h : ¬ (¬ [32,124,32] <+: t /\ [32] <+: t)):pTs f k acc t=some (acc,t):=by
 cases k with
 | zero=>rfl
 | succ k=>exact if_neg h
theorem Zlz{f:Rdr}{k:Nat}{acc:List Ex}{t:List Nat}(h : ¬ [32,124,32] <+: t /\ [32] <+: t):pTs f (k+1) acc t=(match Zbq f (t.drop 1) with|none=>none|some x=>pTs f k (acc ++ [x.1]) x.2):=if_pos h
theorem ZkP{f:Rdr}{k:Nat}{acc:List Ex}{t:List Nat}(h : ¬ [32,124,32] <+: t):pOs f k acc t=some (acc,t):=by
 cases k with
 | zero=>rfl
 | succ k=>exact if_neg h
theorem Zll{f:Rdr}{k:Nat}{acc:List Ex}{t:List Nat}(h:[32,124,32] <+: t):pOs f (k+1) acc t=(match ZaZ f (t.drop 3) with|none=>none|some x=>pOs f k (acc ++ [x.1]) x.2):=if_pos h
theorem ZeD{a:Addr}{H H1 H2 H3:Hp}(x:Za1 a H H1)(y:Za1 a H1 H2)(z:Za1 a H2 H3):Za1 a H H3:=(x.trans y).trans z
set_option maxHeartbeats 2000000 in
theorem ZcH(L:Nat)(B:∀x∈ZbK,mg x=none)(c_Source:SrC K C)(xc:XC K mg X_GroveError X_NoBook X_TwiceNamed X_NoName X_Ring)(g_Source_take_marked:HasMX P w K mg base C "take_marked" ["self","levels"] (5*L+7) (Zfu K C X_NoBook (Zbq (pX L)) (L+1))) (g_Source_sees:HasM P w K mg base C "sees" ["self","piece"] 1 (ZhG C)) (g_Source_skips:HasM P w K mg base C "skips" ["self","piece"] 2 (ZbN C)) (F:Fun K "take_turn" "Source.take_turn" Zag f fd):FnOk P w K mg base (CXE P w) (5*L+8) f fd ["self","levels"] (Zfu K C X_NoBook (ZaZ (pX L)) (L+1)):=by
 refine F.okX ZbF (fun vs H Q E h=>?_) (fun cdv A outer s H vs Q E hr h=>?_)
 ·obtain⟨a,dx,T,n,rfl,_⟩:=h;rfl
 obtain⟨a,dx,T,n,rfl,ha,hn,hT,q1,q2⟩:=h;refine⟨_,(Zh (ZD (i:=2) ZbF.nd rfl (Or.inl rfl) (Zb6 (Za (ZaS g_Source_take_marked Zz hr (pv 0) c_Source.cls (Za (pv 1) Zd) (by lia)) Zd)))
  (Zh (ZbL PassesOwn.leaving (PW.pt (Zf7 (Zb4 (ZW (Zbp g_Source_sees hr (pv 0) c_Source.cls (Za Zo Zd) (by lia)) (fun _=>rfl))) (ZdL (ZW (Zbp g_Source_skips hr (pv 0) c_Source.cls (Za Zo Zd) (by lia)) (fun _=>rfl)))))
   (Zi (Zaw (ZbT PySem.F.plainAttrs_list PySem.F.slot_list_append PySem.F.type_list_append ZaM (pv 2) (Za (ZaS g_Source_take_marked Zz hr (pv 0) c_Source.cls (Za (pv 1) Zd) (by lia)) Zd)))))
  (Zi (ZL (Zdb (ZC ZaV (ZS Zac rfl (B "len" (by decide)) PySem.boot_len (Za (pv 2) Zd)) Zg (ZM _)) (Z9 Zaz (pv 2) Zg (fun _ _=>rfl)) (Zbs (Za Zo (Za (ZaG Zbf rfl (B "tuple" (by decide)) ZbZ (Za (pv 2) Zd)) Zd)))))))),?_⟩
 refine⟨_,rfl,a,dx,_,rfl,ha,rfl,_,rfl,a,dx,T,n,rfl,ha,hn,hT,fun x hx pp n1 H1 b1 h1 l1 e1 rp=>?_,fun hx H1 b1=>q2 (by unfold ZaZ;rw[hx]) H1 b1⟩;obtain⟨A,hA⟩:∃A,pTs (pX L) x.2.length [x.1] x.2=A:=⟨_,rfl⟩;have hTn:ZaZ (pX L) (rsT T n)=A.map fun y=>(mkS true y.1,y.2):=by
  unfold ZaZ;rw[hx];show Option.map _ (pTs (pX L) x.2.length [x.1] x.2)=_;rw[hA]
 refine⟨(by show(1:Nat)<=sizeLine;decide),fun pl hpl=>?_⟩;have npa:pl≠a:=fun z=>by rw[z,show H1 a=some _ from h1] at hpl;cases hpl
 have s2:=Zk.new (o:=.lst [V.ref pp]) hpl;have fin:∀(H2:Hp)(m2:Nat)(vs:List V)(dn:List Ex),Za1 a H H2->Zcq C H2 a dx T m2->m2<=T.length->H2 pl=some (.lst vs)->Paired (fun(v:V)(e:Ex)=>∃p,v=.ref p/\RepK K H2 p e) vs dn->A=some (dn,rsT T m2)->ZnO (tIf (ZkC (tOp rEq (tCB (fun xs H_1 Q=>∃p ys,xs=[V.ref p]/\(SqL K H_1 p ys\/SqT K H_1 p ys)/\Q (V.int (ys.length:Nat)) H_1) (Zc0 (Zjm 2) Zhg)) (tC (V.int 1)))) (tOp (Zn6 K) (Zjm 2) (tC (V.int 0))) (Zn7 (Zc0 (tC (V.str "turn")) (Zc0 (tCB (fun xs H_1 Q=>∃p ys,xs=[V.ref p]/\((SqL K H_1 p ys/\∀(l:Addr),H_1 l=none->Q (V.ref l) (upd H_1 l (HO.tup ys)))\/SqT K H_1 p ys/\Q (V.ref p) H_1)) (Zc0 (Zjm 2) Zhg)) Zhg)))) { nx:=fun _ H'=>Q .non H',rt:=Q } [some (.ref a),some (.int ((L+1:Nat):Int)),some (.ref pl)] H2:=fun H2 m2 vs dn b2 h2 hm2 hv hP hA2=>by
  have hlen:=PR.len hP;have hT2:ZaZ (pX L) (rsT T n)=some (mkS true dn,rsT T m2):=by rw[hTn,hA2];rfl
  refine⟨_,rfl,pl,_,rfl,.inl (SqL.of hv),rfl,_,rfl,ZaU (fun z=>?_) (fun z=>?_)⟩
  ·have z:V.int (vs.length:Int)=V.int 1:=of_decide_eq_true z;injection z with z;cases hP with
   | nil=>exact absurd z (by decide)
   | cons x t =>
    obtain⟨p,rfl,y⟩:=x;cases t with
    | cons _ _=>rw[List.length_cons,List.length_cons] at z;lia
    | nil=>exact⟨_,rfl,pl,_,0,_,rfl,rfl,SqL.of hv,at0,q1 _ hT2 p m2 H2 b2 h2 hm2 rfl y⟩
  ·have he:dn.length≠1:=fun k=>z (decide_eq_true (by rw[hlen,k];rfl));rw[ZlJ he] at hT2;refine⟨_,rfl,pl,_,rfl,.inl ⟨SqL.of hv,fun l1 g1=>?_⟩⟩;have s3:=Zk.new (o:=.tup vs) g1;refine⟨(by show(2:Nat)<=sizeLine;decide),fun l2 g2=>?_⟩;have s4:=Zk.new (o:=.tup [.str "turn",.ref l1]) g2;refine q1 _ hT2 l2 m2 _ (b2.trans (Za1.same (s3.trans s4))) ((s3.trans s4) _ _ h2) hm2 rfl (.several (b:=true) (SqT.of Zb) (SqT.of (s4 _ _ Zb)) (RepKs.of ?_));rw[Zhk];exact PR.keep (TF.same (s3.trans s4)) hP
 have hsz:=ZcD (T:=T) (n:=n1);refine⟨fun m σ H2=>∃(dn:List Ex)(vs:List V)(m2:Nat),σ =[some (.ref a),some (.int ((L+1:Nat):Int)),some (.ref pl)]/\Za1 a H H2/\Zcq C H2 a dx T m2/\m2<=T.length/\H2 pl=some (.lst vs)/\Paired (fun(v:V)(e:Ex)=>∃p,v=.ref p/\RepK K H2 p e) vs dn/\pTs (pX L) m dn (rsT T m2)=A/\(rsT T m2).length<=m/\vs.length+m<=401,⟨x.2.length,[x.1],[.ref pp],n1,rfl,b1.trans (Za1.same s2),s2 _ _ h1,l1,Zb,.cons ⟨pp,rfl,rp.mono (TF.same s2)⟩ .nil,by rw[e1];exact hA,by rw[e1];exact Nat.le_refl _,by rw[<- e1];show 1+_<=_;lia⟩,?_⟩;rintro m σ H2 ⟨dn,vs,m2,rfl,b2,h2,hm2,hv,hP,hA2,hk,hle⟩;refine⟨_,rfl,a,dx,_,rfl,h2,rfl,a,dx,T,m2," | ",rfl,h2,hm2,_,rfl,?_⟩;by_cases hbar:cs (Str.ofString " | ") <+: rsT T m2
 ·rw[decide_eq_true hbar];rw[Zfk fun c=>c.1 hbar] at hA2;exact ZbO (ZbO (fin H2 m2 vs dn b2 h2 hm2 hv hP hA2.symm))
 rw[decide_eq_false hbar];refine Zcn ⟨_,rfl,a,dx,_,rfl,h2,rfl,a,dx,T,m2," ",rfl,h2,hm2,(by decide),fun z=>⟨_,rfl,ZbO (fin H2 m2 vs dn b2 h2 hm2 hv hP (by rw[Zfk fun c=>z c.2] at hA2;exact hA2.symm))⟩,fun z H3 b3 h3=>⟨_,rfl,Zcn ?_⟩⟩;have n3:m2+1<=T.length:=ZcC z hm2;have hsz2:=ZcD (T:=T) (n:=m2);obtain⟨k,rfl⟩:∃k,m=k+1:=⟨m-1,by lia⟩;rw[Zlz ⟨hbar,z⟩,<- Zbu] at hA2;have h3:Zcq C H3 a dx T (m2+1):=h3;have hv3:H3 pl=some (.lst vs):=b3 pl _ npa hv;refine⟨fun σ' H'=>∃m',m'<k+1/\∃(dn:List Ex)(vs:List V)(m2:Nat),σ'=[some (.ref a),some (.int ((L+1:Nat):Int)),some (.ref pl)]/\Za1 a H H'/\Zcq C H' a dx T m2/\m2<=T.length/\H' pl=some (.lst vs)/\Paired (fun(v:V)(e:Ex)=>∃p,v=.ref p/\RepK K H' p e) vs dn/\pTs (pX L) m' dn (rsT T m2)=A/\(rsT T m2).length<=m'/\vs.length+m'<=401,fun _ _ h=>h,?_⟩;refine⟨_,rfl,.inl ⟨rfl,_,SqL.of hv3⟩,_,rfl,a,dx,_,rfl,h3,rfl,_,rfl,a,dx,T,m2+1,rfl,h3,n3,hT,fun y hy p4 n4 H4 b4 h4 l4 e4 rp4=>?_,fun hy H4 b4=>q2 (by rw[hTn,<- hA2,hy];rfl) H4 (ZeD b2 b3 b4)⟩;rw[hy] at hA2;have hv4:H4 pl=some (.lst vs):=b4 pl _ npa hv3;refine⟨pl,vs,_,rfl,rfl,hv4,Z3 (by lia),?_⟩;have b24:=(b2.trans b3).trans b4;have hsf:=(ZgB (ZkV L) _ _ hy).length_le;have hsz3:=ZcD (T:=T) (n:=m2+1);refine⟨k,Nat.lt_succ_self _,dn ++ [y.1],_,n4,rfl,Za1.new b1 hpl npa b24,?_,l4,Zb,?_,by rw[e4];exact hA2,by rw[e4];lia,by rw[List.length_append];show _+1+_<=_;lia⟩
 ·show upd H4 pl _ a=_;rw[Zu npa.symm];exact h4
 ·exact PR.snoc (PR.keep ((TF.bar (b3.trans b4) h2).trans (TF.lst hv4)) hP) (rp4.mono (TF.lst hv4))
theorem Zcy(B:∀x∈ZbK,mg x=none)(c_Source:SrC K C)(xc:XC K mg X_GroveError X_NoBook X_TwiceNamed X_NoName X_Ring)(g_Source_take_turn:HasMX P w K mg base C "take_turn" ["self","levels"] 3 (fun _ _ _ _=>False)) (g_Source_skips:HasM P w K mg base C "skips" ["self","piece"] 2 (ZbN C)) (F:Fun K "take_expr" "Source.take_expr" Z6 f fd):FnOk P w K mg base (CXE P w) 4 f fd ["self","levels"] (Zfu K C X_NoBook (pX 0) 0):=by
 refine F.okX ZaK (fun vs H Q E h=>?_) (fun cdv A outer s H vs Q E hr h=>?_)
 ·obtain⟨a,dx,T,n,rfl,_⟩:=h;rfl
 obtain⟨a,dx,T,n,rfl,ha,hn,hT,q1,q2⟩:=h;refine⟨_,(Zh (Zad (ZC ZaV (pv 1) Zg (ZM _))
   (Zi (Zbj xc.top_NoBook xc.ini_NoBook xc.n_NoBook Zz hr rfl (Za Zo Zd)))
   Zx)
  (Zh (ZD (i:=2) ZaK.nd rfl (Or.inl rfl) (Zb6 (Za (ZaS g_Source_take_turn Zz hr (pv 0) c_Source.cls (Za (pv 1) Zd) (by lia)) Zd)))
  (Zh (ZbL PassesOwn.leaving (ZW (Zbp g_Source_skips hr (pv 0) c_Source.cls (Za Zo Zd) (by lia)) (fun _=>rfl))
   (Zi (Zaw (ZbT PySem.F.plainAttrs_list PySem.F.slot_list_append PySem.F.type_list_append ZaM (pv 2) (Za (ZaS g_Source_take_turn Zz hr (pv 0) c_Source.cls (Za (pv 1) Zd) (by lia)) Zd)))))
  (Zi (ZL (Zdb (ZC ZaV (ZS Zac rfl (B "len" (by decide)) PySem.boot_len (Za (pv 2) Zd)) Zg (ZM _)) (Z9 Zaz (pv 2) Zg (fun _ _=>rfl)) (Zbs (Za Zo (Za (ZaG Zbf rfl (B "tuple" (by decide)) ZbZ (Za (pv 2) Zd)) Zd))))))))),?_⟩
 refine⟨_,rfl,rfl,_,rfl,ZaU (fun _=>?_) (fun z=>absurd (decide_eq_true rfl) z)⟩;refine⟨by show 1<=1000;decide,fun y hy=>q2 rfl _ (Zce Za1.refl hy)⟩
set_option maxHeartbeats 2000000 in
theorem ZcO(L:Nat)(B:∀x∈ZbK,mg x=none)(c_Source:SrC K C)(xc:XC K mg X_GroveError X_NoBook X_TwiceNamed X_NoName X_Ring)(g_Source_take_turn:HasMX P w K mg base C "take_turn" ["self","levels"] (5*L+8) (Zfu K C X_NoBook (ZaZ (pX L)) (L+1))) (g_Source_skips:HasM P w K mg base C "skips" ["self","piece"] 2 (ZbN C)) (F:Fun K "take_expr" "Source.take_expr" Z6 f fd):FnOk P w K mg base (CXE P w) (5*L+9) f fd ["self","levels"] (Zfu K C X_NoBook (pX (L+1)) (L+1)):=by
 refine F.okX ZaK (fun vs H Q E h=>?_) (fun cdv A outer s H vs Q E hr h=>?_)
 ·obtain⟨a,dx,T,n,rfl,_⟩:=h;rfl
 obtain⟨a,dx,T,n,rfl,ha,hn,hT,q1,q2⟩:=h;refine⟨_,(Zh (Zad (ZC ZaV (pv 1) Zg (ZM _))
   (Zi (Zbj xc.top_NoBook xc.ini_NoBook xc.n_NoBook Zz hr rfl (Za Zo Zd)))
   Zx)
  (Zh (ZD (i:=2) ZaK.nd rfl (Or.inl rfl) (Zb6 (Za (ZaS g_Source_take_turn Zz hr (pv 0) c_Source.cls (Za (pv 1) Zd) (by lia)) Zd)))
  (Zh (ZbL PassesOwn.leaving (ZW (Zbp g_Source_skips hr (pv 0) c_Source.cls (Za Zo Zd) (by lia)) (fun _=>rfl))
   (Zi (Zaw (ZbT PySem.F.plainAttrs_list PySem.F.slot_list_append PySem.F.type_list_append ZaM (pv 2) (Za (ZaS g_Source_take_turn Zz hr (pv 0) c_Source.cls (Za (pv 1) Zd) (by lia)) Zd)))))
  (Zi (ZL (Zdb (ZC ZaV (ZS Zac rfl (B "len" (by decide)) PySem.boot_len (Za (pv 2) Zd)) Zg (ZM _)) (Z9 Zaz (pv 2) Zg (fun _ _=>rfl)) (Zbs (Za Zo (Za (ZaG Zbf rfl (B "tuple" (by decide)) ZbZ (Za (pv 2) Zd)) Zd))))))))),?_⟩
 have q1:∀x,ZbJ (pX L) (rsT T n)=some x->_:=q1;have q2:ZbJ (pX L) (rsT T n)=none->_:=q2;refine⟨_,rfl,rfl,_,rfl,ZaU (fun z=>?_) (fun _=>?_)⟩
 ·have z:V.int ((L+1:Nat):Int)=V.int 0:=of_decide_eq_true z;injection z with z;lia
 refine⟨_,rfl,a,dx,_,rfl,ha,rfl,_,rfl,a,dx,T,n,rfl,ha,hn,hT,fun x hx pp n1 H1 b1 h1 l1 e1 rp=>?_,fun hx H1 b1=>q2 (by unfold ZbJ;rw[hx]) H1 b1⟩;obtain⟨A,hA⟩:∃A,pOs (pX L) x.2.length [x.1] x.2=A:=⟨_,rfl⟩;have hTn:ZbJ (pX L) (rsT T n)=A.map fun y=>(mkS false y.1,y.2):=by
  unfold ZbJ;rw[hx];show Option.map _ (pOs (pX L) x.2.length [x.1] x.2)=_;rw[hA]
 refine⟨(by show(1:Nat)<=sizeLine;decide),fun pl hpl=>?_⟩;have npa:pl≠a:=fun z=>by rw[z,show H1 a=some _ from h1] at hpl;cases hpl
 have s2:=Zk.new (o:=.lst [V.ref pp]) hpl;have fin:∀(H2:Hp)(m2:Nat)(vs:List V)(dn:List Ex),Za1 a H H2->Zcq C H2 a dx T m2->m2<=T.length->H2 pl=some (.lst vs)->Paired (fun(v:V)(e:Ex)=>∃p,v=.ref p/\RepK K H2 p e) vs dn->A=some (dn,rsT T m2)->ZnO (tIf (ZkC (tOp rEq (tCB (fun xs H_1 Q=>∃p ys,xs=[V.ref p]/\(SqL K H_1 p ys\/SqT K H_1 p ys)/\Q (V.int (ys.length:Nat)) H_1) (Zc0 (Zjm 2) Zhg)) (tC (V.int 1)))) (tOp (Zn6 K) (Zjm 2) (tC (V.int 0))) (Zn7 (Zc0 (tC (V.str "or")) (Zc0 (tCB (fun xs H_1 Q=>∃p ys,xs=[V.ref p]/\((SqL K H_1 p ys/\∀(l:Addr),H_1 l=none->Q (V.ref l) (upd H_1 l (HO.tup ys)))\/SqT K H_1 p ys/\Q (V.ref p) H_1)) (Zc0 (Zjm 2) Zhg)) Zhg)))) { nx:=fun _ H'=>Q .non H',rt:=Q } [some (.ref a),some (.int ((L+1:Nat):Int)),some (.ref pl)] H2:=fun H2 m2 vs dn b2 h2 hm2 hv hP hA2=>by
  have hlen:=PR.len hP;have hT2:ZbJ (pX L) (rsT T n)=some (mkS false dn,rsT T m2):=by rw[hTn,hA2];rfl
  refine⟨_,rfl,pl,_,rfl,.inl (SqL.of hv),rfl,_,rfl,ZaU (fun z=>?_) (fun z=>?_)⟩
  ·have z:V.int (vs.length:Int)=V.int 1:=of_decide_eq_true z;injection z with z;cases hP with
   | nil=>exact absurd z (by decide)
   | cons x t =>
    obtain⟨p,rfl,y⟩:=x;cases t with
    | cons _ _=>rw[List.length_cons,List.length_cons] at z;lia
    | nil=>exact⟨_,rfl,pl,_,0,_,rfl,rfl,SqL.of hv,at0,q1 _ hT2 p m2 H2 b2 h2 hm2 rfl y⟩
  ·have he:dn.length≠1:=fun k=>z (decide_eq_true (by rw[hlen,k];rfl));rw[ZlJ he] at hT2;refine⟨_,rfl,pl,_,rfl,.inl ⟨SqL.of hv,fun l1 g1=>?_⟩⟩;have s3:=Zk.new (o:=.tup vs) g1;refine⟨(by show(2:Nat)<=sizeLine;decide),fun l2 g2=>?_⟩;have s4:=Zk.new (o:=.tup [.str "or",.ref l1]) g2;refine q1 _ hT2 l2 m2 _ (b2.trans (Za1.same (s3.trans s4))) ((s3.trans s4) _ _ h2) hm2 rfl (.several (b:=false) (SqT.of Zb) (SqT.of (s4 _ _ Zb)) (RepKs.of ?_));rw[Zhk];exact PR.keep (TF.same (s3.trans s4)) hP
 have hsz:=ZcD (T:=T) (n:=n1);refine⟨fun m σ H2=>∃(dn:List Ex)(vs:List V)(m2:Nat),σ =[some (.ref a),some (.int ((L+1:Nat):Int)),some (.ref pl)]/\Za1 a H H2/\Zcq C H2 a dx T m2/\m2<=T.length/\H2 pl=some (.lst vs)/\Paired (fun(v:V)(e:Ex)=>∃p,v=.ref p/\RepK K H2 p e) vs dn/\pOs (pX L) m dn (rsT T m2)=A/\(rsT T m2).length<=m/\vs.length+m<=401,⟨x.2.length,[x.1],[.ref pp],n1,rfl,b1.trans (Za1.same s2),s2 _ _ h1,l1,Zb,.cons ⟨pp,rfl,rp.mono (TF.same s2)⟩ .nil,by rw[e1];exact hA,by rw[e1];exact Nat.le_refl _,by rw[<- e1];show 1+_<=_;lia⟩,?_⟩;rintro m σ H2 ⟨dn,vs,m2,rfl,b2,h2,hm2,hv,hP,hA2,hk,hle⟩;refine⟨_,rfl,a,dx,_,rfl,h2,rfl,a,dx,T,m2," | ",rfl,h2,hm2,(by decide),fun z=>⟨_,rfl,ZbO (fin H2 m2 vs dn b2 h2 hm2 hv hP (by rw[ZkP z] at hA2;exact hA2.symm))⟩,fun z H3 b3 h3=>⟨_,rfl,Zcn ?_⟩⟩;have n3:m2+3<=T.length:=ZcC z hm2;have hsz2:=ZcD (T:=T) (n:=m2);obtain⟨k,rfl⟩:∃k,m=k+1:=⟨m-1,by lia⟩;rw[Zll z,<- Zbu] at hA2;have h3:Zcq C H3 a dx T (m2+3):=h3;have hv3:H3 pl=some (.lst vs):=b3 pl _ npa hv;refine⟨fun σ' H'=>∃m',m'<k+1/\∃(dn:List Ex)(vs:List V)(m2:Nat),σ'=[some (.ref a),some (.int ((L+1:Nat):Int)),some (.ref pl)]/\Za1 a H H'/\Zcq C H' a dx T m2/\m2<=T.length/\H' pl=some (.lst vs)/\Paired (fun(v:V)(e:Ex)=>∃p,v=.ref p/\RepK K H' p e) vs dn/\pOs (pX L) m' dn (rsT T m2)=A/\(rsT T m2).length<=m'/\vs.length+m'<=401,fun _ _ h=>h,?_⟩;refine⟨_,rfl,.inl ⟨rfl,_,SqL.of hv3⟩,_,rfl,a,dx,_,rfl,h3,rfl,_,rfl,a,dx,T,m2+3,rfl,h3,n3,hT,fun y hy p4 n4 H4 b4 h4 l4 e4 rp4=>?_,fun hy H4 b4=>q2 (by rw[hTn,<- hA2,hy];rfl) H4 (ZeD b2 b3 b4)⟩;rw[hy] at hA2;have hv4:H4 pl=some (.lst vs):=b4 pl _ npa hv3;refine⟨pl,vs,_,rfl,rfl,hv4,Z3 (by lia),?_⟩;have b24:=(b2.trans b3).trans b4;have hsf:=(ZgK (ZkV L) _ _ hy).length_le;have hsz3:=ZcD (T:=T) (n:=m2+3);refine⟨k,Nat.lt_succ_self _,dn ++ [y.1],_,n4,rfl,Za1.new b1 hpl npa b24,?_,l4,Zb,?_,by rw[e4];exact hA2,by rw[e4];lia,by rw[List.length_append];show _+1+_<=_;lia⟩
 ·show upd H4 pl _ a=_;rw[Zu npa.symm];exact h4
 ·exact PR.snoc (PR.keep ((TF.bar (b3.trans b4) h2).trans (TF.lst hv4)) hP) (rp4.mono (TF.lst hv4))
theorem ZgO{c:Nat}(h:97<=c/\c<=122):ZdF c=true:=by
 unfold ZdF;rw[decide_eq_true h.1,decide_eq_true h.2];rfl
theorem Ze6{c:Nat}(h : ¬ (97<=c/\c<=122)):ZdF c=false:=by
 unfold ZdF;by_cases l1:97<=c
 ·rw[decide_eq_false (fun l2:c<=122=>h ⟨l1,l2⟩),Bool.and_false]
 ·rw[decide_eq_false l1,Bool.false_and]
theorem ZjO{c:Nat}(h:65<=c/\c<=90):isUp c=true:=by
 unfold isUp;rw[decide_eq_true h.1,decide_eq_true h.2];rfl
theorem Zhu{c:Nat}(h : ¬ (65<=c/\c<=90)):isUp c=false:=by
 unfold isUp;by_cases l1:65<=c
 ·rw[decide_eq_false (fun l2:c<=90=>h ⟨l1,l2⟩),Bool.and_false]
 ·rw[decide_eq_false l1,Bool.false_and]
theorem ZeT{m:Str}{r:List Nat}(hu:Upr m)(h8:m.length<=8)(hr:∀c r',r=c::r' -> ¬ (65<=c/\c<=90)):Zc7 (cs m++r)=some (m,r):=by
 have e:(cs m++r).takeWhile isUp=cs m:=Zhn (fun c hc=>ZjO (hu.2 c hc)) fun c r' e=>Zhu (hr c r' e);unfold Zc7;rw[e,if_pos ⟨List.length_pos_iff.mpr hu.1,by rw[Zas];exact h8⟩,Zha,List.drop_left]
theorem Zj4{f:Rdr}{e:Ex}{c:Nat}{t r:List Nat}(h:f (t++c::r)=some (e,c::r)):ZbU f c (t++c::r)=some (e,r):=by
 unfold ZbU;rw[h];exact if_pos ⟨r,rfl⟩
def RdE(f:Rdr)(L:Nat):Prop := ∀e r,wfE e->dp e<L->fE r->f (cs (tx e)++r)=some (e,r)
def brq(l:List Str)(e:Ex):Nat:=if l.contains (kw e)=true then 1 else 0
theorem ZnG{f:Rdr}{L:Nat}(hf:RdE f L){i:Ex}{r:List Nat}(hw:wfE i)(hd:Zck i=false->dp i<L)(hr:fS r):ZeA f (inL i++r)=some (i,r):=by
 unfold inL;by_cases hn:Zck i=true
 ·rw[if_pos hn];unfold ZeA;rw[if_neg fun⟨q,z⟩=>(Zgc hr z.symm).2.2 rfl];cases i with
  | nil=>rfl
  | _=>cases hn
 ·rw[if_neg hn];have hn:Zck i=false:=by
   cases h:Zck i with
   | true=>exact absurd h hn
   | false=>rfl
  unfold ZeA;rw[if_pos ⟨_,rfl⟩];show ZbU f 41 ((cs (tx i) ++ [41])++r)=_;rw[List.append_assoc];exact Zj4 (hf i (41::r) hw (hd hn) (.inr ⟨41,r,rfl,.inr (.inr rfl)⟩))
theorem Zjc{f:Rdr}{L:Nat}(hf:RdE f L){e:Ex}{r:List Nat}(hw:wfE e)(hd:dp e+brq five e<L+1)(hr:fS r):Zby f (tL five e++r)=some (e,r):=by
 unfold Zby;cases hn:Zck e with
 | true =>
  rw[if_pos ((Zg2 hw).mpr hn)];cases e with
  | nil=>rfl
  | _=>cases hn
 | false =>
  rw[if_neg fun z=>by rw[(Zg2 hw).mp z] at hn;cases hn];cases hc:five.contains (kw e) with
  | true =>
   rw[if_pos ((ZhH hw hn).mpr hc),Zld hc];show ZbU f 125 ((cs (tx e) ++ [125])++r)=_;rw[List.append_assoc];unfold brq at hd;rw[if_pos hc] at hd;exact Zj4 (hf e (125::r) hw (by lia) (.inr ⟨125,r,rfl,.inr (.inl rfl)⟩))
  | false =>
   have hc2 : ¬ [123] <+: (tL five e++r):=fun z=>by rw[(ZhH hw hn).mp z] at hc;cases hc
   rw[if_neg hc2,ZcA hc];cases e with
   | nil=>cases hn
   | tag t i =>
    have et:cs (tx (.tag t i))=cs t++inL i:=by
     rw[tx];unfold inL
     split
     ·rw[List.append_nil]
     ·rw[ZQ,ZQ,ZQ,List.append_assoc,List.append_assoc];rfl
    obtain⟨⟨⟨hn0,hl⟩,h8⟩,hwi⟩:=hw;have e1:(cs t++(inL i++r)).takeWhile ZdF=cs t:=Zhn (fun c hc=>ZgO (hl c hc)) fun c r' e=>Ze6 (by
     unfold inL at e
     split at e
     ·exact(Zgc hr e).1
     ·injection e with e _;lia)
    rw[et,List.append_assoc,e1,if_neg (show ¬ cs t=[] from hn0),if_pos (by rw[Zas];exact h8),List.drop_left,ZnG hf hwi (fun _=>by have:dp i+1+_<L+1:=hd;lia) hr,Zha];rfl
   | name n =>
    obtain⟨hu,h8⟩:=hw;obtain⟨c,r',ec⟩:=List.exists_cons_of_ne_nil hu.1;have hcc:=hu.2 c (by rw[ec];exact List.mem_cons_self ..);have e1:(cs (tx (.name n))++r).takeWhile ZdF=[]:=by
     show(cs n++r).takeWhile ZdF=[];rw[ec];show List.takeWhile ZdF (c::(r'++r))=[];rw[List.takeWhile_cons,Ze6 (by lia)];rfl
    rw[e1,if_pos rfl];show Option.map _ (Zc7 (cs n++r))=_;rw[ZeT hu h8 fun c r' e=>(Zgc hr e).2.1];rfl
   | several b ps =>
    have hc:five.contains (ZeF b)=false:=hc;cases b <;> exact absurd hc (by decide)
   | rep m p =>
    exfalso
    revert hc
    show ¬ five.contains (ZbI m)=false;unfold ZbI
    split
    ·decide
    ·split <;> decide
theorem ZoO{e:Ex}{r:List Nat}(hr:fM r):pMk (e,r)=(e,r):=by
 unfold pMk;rw[if_neg (Zg0 hr (.inl rfl)),if_neg (Zg0 hr (.inr (.inl rfl))),if_neg (Zg0 hr (.inr (.inr rfl)))]
theorem Zol{e:Ex}{m:Nat}{r:List Nat}(hm:m<=2):pMk (e,cs (Zei m)++r)=(.rep m e,r):=by
 match m,hm with
 | 0,_=>exact if_pos ⟨r,rfl⟩
 | 1,_=>exact(if_neg fun⟨_,z⟩=>by injection z with z _;exact absurd z (by decide)).trans (if_pos ⟨r,rfl⟩)
 | 2,_=>exact(if_neg fun⟨_,z⟩=>by injection z with z _;exact absurd z (by decide)).trans ((if_neg fun⟨_,z⟩=>by injection z with z _;exact absurd z (by decide)).trans (if_pos ⟨r,rfl⟩))
theorem Zgn{f:Rdr}{L:Nat}(hf:RdE f L){e:Ex}{r:List Nat}(hw:wfE e)(hd:dp e+brq ["turn","or"] e<L+1) (hr:fM r):Zbq f (tL ["turn","or"] e++r)=some (e,r):=by
 unfold Zbq;have plain:tL ["turn","or"] e=tL five e->brq five e=brq ["turn","or"] e->Option.map pMk (Zby f (tL ["turn","or"] e++r))=some (e,r):=fun h1 h2=>by
  rw[h1,Zjc hf hw (by rw[h2];exact hd) (.inl hr)];exact congrArg some (ZoO hr)
 cases e with
 | nil=>exact plain rfl rfl
 | tag t i=>exact plain rfl rfl
 | name n=>exact plain rfl rfl
 | several b ps=>cases b <;> exact plain rfl rfl
 | rep m p =>
  have hk:(["turn","or"]:List Str).contains (kw (.rep m p))=false:=by
   show(["turn","or"]:List Str).contains (ZbI m)=false;unfold ZbI
   split
   ·decide
   ·split <;> decide
  obtain⟨c,ec,hc,_⟩:=Zd6 (i:=m) (by have:=hw.1;lia);rw[ZcA hk,show cs (tx (.rep m p))=tL five p++cs (Zei m) from by rw[tx,ZQ];rfl,List.append_assoc];have hd':dp p+1+brq ["turn","or"] (.rep m p)<L+1:=hd;rw[Zjc hf hw.2 (by unfold brq;split <;> lia) (.inr ⟨c,r,by rw[ec];rfl,hc⟩)]
  exact congrArg some (Zol hw.1)
theorem Zmt{f:Rdr}{L:Nat}(hf:RdE f L){r:List Nat}(hr:fT r):∀(ps:List Ex)(k:Nat)(acc:List Ex),(∀p∈ps,wfE p/\dp p+brq ["turn","or"] p<L+1)->ps.length<=k->pTs f k acc ((ps.flatMap fun p=>[32]++tL ["turn","or"] p)++r)=some (acc++ps,r)
 | [],k,acc,_,_=>by
  rw[List.append_nil];show pTs f k acc r=_;cases k with
  | zero=>rfl
  | succ k =>
   unfold pTs;rw[if_neg fun z=>by
    rcases Zm8 hr with h|h
    ·exact z.1 h
    ·exact h z.2]
 | p::ps,0,_,_,h=>absurd h (by rw[List.length_cons];lia)
 | p::ps,k+1,acc,h,hk=>by
  have hp:=h p (List.mem_cons_self ..);unfold pTs;rw[if_pos (ZjH hp.1)];rw[List.flatMap_cons,List.append_assoc];show(match Zbq f (tL ["turn","or"] p++((ps.flatMap fun p=>[32]++tL ["turn","or"] p)++r)) with|none=>none|some x=>pTs f k (acc ++ [x.1]) x.2)=_
  rw[Zgn hf hp.1 hp.2 (Zjb hr fun q hq=>(h q (List.mem_cons_of_mem _ hq)).1)];show pTs f k (acc ++ [p]) _=_;rw[Zmt hf hr ps k (acc ++ [p]) (fun q hq=>h q (List.mem_cons_of_mem _ hq)) (by rw[List.length_cons] at hk;lia),List.append_assoc];rfl
theorem Zlj{b:Bool}:∀{ps:Exs},2<=cnt ps->mkS b (toL ps)=.several b ps
 | .cons a (.cons c r),_=>by
  show Ex.several b (ofL (toL (.cons a (.cons c r))))=_;rw[Zlm]
 | .cons a .nil,h=>absurd h (by show ¬ 2<=1;decide)
 | .nil,h=>absurd h (by show ¬ 2<=0;decide)
theorem ZgJ{f:Rdr}{L:Nat}(hf:RdE f L){e:Ex}{r:List Nat}(hw:wfE e)(hd:dp e+brq ["or"] e<L+1) (hr:fT r):ZaZ f (tL ["or"] e++r)=some (e,r):=by
 have plain:tL ["or"] e=tL ["turn","or"] e->brq ["turn","or"] e=brq ["or"] e->ZaZ f (tL ["or"] e++r)=some (e,r):=fun h1 h2=>by
  unfold ZaZ;rw[h1,Zgn hf hw (by rw[h2];exact hd) (.inl hr)];have:=Zmt hf hr [] r.length [e] (fun _ h=>nomatch h) (Nat.zero_le _)
  show Option.map _ (pTs f r.length [e] r)=_;rw[show pTs f r.length [e] r=some ([e],r) from this];rfl
 have hrep:∀m,(["or"]:List Str).contains (ZbI m)=false/\(["turn","or"]:List Str).contains (ZbI m)=false:=fun m=>by
  unfold ZbI
  split
  ·exact⟨by decide,by decide⟩
  ·split <;> exact⟨by decide,by decide⟩
 cases e with
 | nil=>exact plain rfl rfl
 | tag t i=>exact plain rfl rfl
 | name n=>exact plain rfl rfl
 | rep m p=>exact plain ((ZcA (e:=.rep m p) (hrep m).1).trans (ZcA (e:=.rep m p) (hrep m).2).symm) (by unfold brq;rw[show kw (.rep m p)=ZbI m from rfl,(hrep m).1,(hrep m).2])
 | several b ps =>
  cases b with
  | false=>exact plain rfl rfl
  | true =>
   cases ps with
   | nil=>exact absurd hw.1 (by show ¬ 2<=0;decide)
   | cons e1 ps =>
    have hbr:∀p∈toL (.cons e1 ps),wfE p/\dp p+brq ["turn","or"] p<L+1:=fun p hp=>by
     have h1:=(Zdh hp).1;have h2:dps (.cons e1 ps)+1+_<L+1:=hd;refine⟨ZdI hw.2 hp,?_⟩;unfold brq
     split <;> lia
    rw[ZcA (e:=.several true (.cons e1 ps)) (l:=["or"]) rfl,Zcr,List.append_assoc];unfold ZaZ;have h1:=hbr e1 (List.mem_cons_self ..);have hps:∀p∈toL ps,wfE p/\dp p+brq ["turn","or"] p<L+1:=fun p hp=>hbr p (List.mem_cons_of_mem _ hp);show(match Zbq f (tL ["turn","or"] e1++(((toL ps).flatMap fun p=>[32]++tL ["turn","or"] p)++r)) with|none=>none|some x=>Option.map (fun y:List Ex×List Nat=>(mkS true y.1,y.2)) (pTs f x.2.length [x.1] x.2))=_
    rw[Zgn hf h1.1 h1.2 (Zjb hr fun q hq=>(hps q hq).1)];show Option.map _ (pTs f _ [e1] _)=_;rw[Zmt hf hr (toL ps) _ [e1] hps (by rw[List.length_append];have:=Zkg (l:=["turn","or"]) (toL ps);lia)];exact congrArg (fun z=>some (z,r)) (Zlj (ps:=.cons e1 ps) hw.1)
theorem Zl0{f:Rdr}{L:Nat}(hf:RdE f L){r:List Nat}(hr:fE r):∀(ps:List Ex)(k:Nat)(acc:List Ex),(∀p∈ps,wfE p/\dp p+brq ["or"] p<L+1)->ps.length<=k->pOs f k acc ((ps.flatMap fun p=>[32,124,32]++tL ["or"] p)++r)=some (acc++ps,r)
 | [],k,acc,_,_=>by
  rw[List.append_nil];show pOs f k acc r=_;cases k with
  | zero=>rfl
  | succ k =>
   unfold pOs;rw[if_neg (ZlO hr).1]
 | p::ps,0,_,_,h=>absurd h (by rw[List.length_cons];lia)
 | p::ps,k+1,acc,h,hk=>by
  have hp:=h p (List.mem_cons_self ..);unfold pOs;rw[List.flatMap_cons,List.append_assoc,if_pos ⟨_,rfl⟩];show(match ZaZ f (tL ["or"] p++((ps.flatMap fun p=>[32,124,32]++tL ["or"] p)++r)) with|none=>none|some x=>pOs f k (acc ++ [x.1]) x.2)=_
  rw[ZgJ hf hp.1 hp.2 (ZnT hr)];show pOs f k (acc ++ [p]) _=_;rw[Zl0 hf hr ps k (acc ++ [p]) (fun q hq=>h q (List.mem_cons_of_mem _ hq)) (by rw[List.length_cons] at hk;lia),List.append_assoc];rfl
theorem ZmR{f:Rdr}{L:Nat}(hf:RdE f L):RdE (ZbJ f) (L+1):=fun e r hw hd hr=>by
 have plain:cs (tx e)=tL ["or"] e->brq ["or"] e=0->ZbJ f (cs (tx e)++r)=some (e,r):=fun h1 h2=>by
  unfold ZbJ;rw[h1,ZgJ hf hw (by rw[h2];exact hd) (.inl hr)];have:=Zl0 hf hr [] r.length [e] (fun _ h=>nomatch h) (Nat.zero_le _)
  show Option.map _ (pOs f r.length [e] r)=_;rw[show pOs f r.length [e] r=some ([e],r) from this];rfl
 have hrep:∀m,(["or"]:List Str).contains (ZbI m)=false:=fun m=>by
  unfold ZbI
  split
  ·decide
  ·split <;> decide
 cases e with
 | nil=>exact plain rfl rfl
 | tag t i=>exact plain rfl rfl
 | name n=>exact plain rfl rfl
 | rep m p=>exact plain (ZcA (e:=.rep m p) (hrep m)).symm (by unfold brq;rw[show kw (.rep m p)=ZbI m from rfl,hrep m];rfl)
 | several b ps =>
  cases b with
  | true=>exact plain rfl rfl
  | false =>
   cases ps with
   | nil=>exact absurd hw.1 (by show ¬ 2<=0;decide)
   | cons e1 ps =>
    have hbr:∀p∈toL (.cons e1 ps),wfE p/\dp p+brq ["or"] p<L+1:=fun p hp=>by
     have h1:=(Zdh hp).1;have h2:dps (.cons e1 ps)+1<L+1:=hd;refine⟨ZdI hw.2 hp,?_⟩;unfold brq
     split <;> lia
    rw[Zcr,List.append_assoc];unfold ZbJ;have h1:=hbr e1 (List.mem_cons_self ..);have hps:∀p∈toL ps,wfE p/\dp p+brq ["or"] p<L+1:=fun p hp=>hbr p (List.mem_cons_of_mem _ hp);show(match ZaZ f (tL ["or"] e1++(((toL ps).flatMap fun p=>[32,124,32]++tL ["or"] p)++r)) with|none=>none|some x=>Option.map (fun y:List Ex×List Nat=>(mkS false y.1,y.2)) (pOs f x.2.length [x.1] x.2))=_
    rw[ZgJ hf h1.1 h1.2 (ZnT hr)];show Option.map _ (pOs f _ [e1] _)=_;rw[Zl0 hf hr (toL ps) _ [e1] hps (by rw[List.length_append];have:=Zhq (l:=["or"]) (toL ps);lia)];exact congrArg (fun z=>some (z,r)) (Zlj (ps:=.cons e1 ps) hw.1)
theorem ZlY:∀L:Nat,RdE (pX L) L
 | 0=>fun _ _ _ hd _=>absurd hd (Nat.not_lt_zero _)
 | L+1=>ZmR (ZlY L)
theorem Zoj{L:Nat}{e:Ex}{r:List Nat}(hw:wfE e)(hr:fE r):pX L (cs (tx e)++r)=some (e,r)\/pX L (cs (tx e)++r)=none:=by
 cases h:pX L (cs (tx e)++r) with
 | none=>exact .inr rfl
 | some x =>
  have h1:=Zoy (Nat.le_max_left L (dp e+1)) _ _ h;have h2:=ZlY (max L (dp e+1)) e r hw (by have:=Nat.le_max_right L (dp e+1);lia) hr;rw[h2] at h1;exact .inl (congrArg some (Option.some.inj h1).symm)
def Zbz(m:Str)(e:Ex):List Nat:=cs m++([32,61,32]++tL [] e)
def ZiA(K:PySem.W.Frag)(C XB:Addr):Sp:=fun vs H Q E=>∃(a dx:Addr)(T:Str)(n:Nat),vs=[.ref a]/\Zcq C H a dx T n/\n<=T.length/\T.length<=400 /\
 (∀x,pPair (rsT T n)=some x->∀(p q:Addr)(n':Nat)(H':Hp),Za1 a H H'->Zcq C H' a dx T n'->n'<=T.length->rsT T n'=x.2->H' p=some (.tup [.str x.1.1,.ref q])->RepK K H' q x.1.2->Q (.ref p) H') /\
 (pPair (rsT T n)=none->∀H',Za1 a H H'->E (.ref XB) none H')
set_option maxHeartbeats 1000000 in
theorem ZfP(B:∀x∈ZbK,mg x=none)(Cc1:∃t:Tok,mg "DEEPEST" = some (.int 12 t)) (c_Source:SrC K C) (xc:XC K mg X_GroveError X_NoBook X_TwiceNamed X_NoName X_Ring) (g_Source_take_name:HasMX P w K mg base C "take_name" ["self"] 3 (Zff C X_NoBook)) (g_Source_must_skip:HasMX P w K mg base C "must_skip" ["self","piece"] 3 (Zfw C X_NoBook)) (g_Source_take_expr:HasMX P w K mg base C "take_expr" ["self","levels"] 64 (Zfu K C X_NoBook (pX 12) 12)) (F:Fun K "take_pair" "take_pair" Zbm f fd):FnOk P w K mg base (CXE P w) 65 f fd ["source"] (ZiA K C X_NoBook):=by
 refine F.okX Zdu (fun vs H Q E h=>?_) (fun cdv A outer s H vs Q E hr h=>?_)
 ·obtain⟨a,dx,T,n,rfl,_⟩:=h;rfl
 obtain⟨a,dx,T,n,rfl,ha,hn,hT,q1,q2⟩:=h;obtain⟨t1,c_DEEPEST⟩:=Cc1;refine⟨_,(Zh (ZD (i:=1) Zdu.nd rfl (Or.inl rfl) (ZfW g_Source_take_name Zz hr (pv 0) c_Source.cls))
  (Zh (Zaw (ZaS g_Source_must_skip Zz hr (pv 0) c_Source.cls (Za Zo Zd)))
  (Zi (ZL (Zbs (Za (pv 1) (Za (ZaS g_Source_take_expr Zz hr (pv 0) c_Source.cls (Za (ZaA (v:=.int 12) rfl c_DEEPEST ⟨_,rfl⟩) Zd)) Zd))))))),?_⟩
 refine⟨_,rfl,a,dx,_,rfl,ha,rfl,a,dx,T,n,rfl,ha,hn,hT,fun x hx H1 n1 b1 h1 l1 e1=>?_,fun hx H1 b1=>q2 (by unfold pPair;rw[hx]) H1 b1⟩;have hp:pPair (rsT T n)=if [32,61,32] <+: x.2 then(pX 12 (x.2.drop 3)).map fun y=>((x.1,y.1),y.2) else none:=by
  unfold pPair;rw[hx]
 rw[<- e1,<- Zbu] at hp;refine⟨_,rfl,a,dx,_,rfl,h1,rfl,a,dx,T,n1," = ",rfl,h1,l1,(by decide),Zfo (by decide) (by decide),fun z H2 b2 h2=>?_,fun z H2 b2=>q2 (by rw[hp];exact if_neg z) H2 (b1.trans b2)⟩;have h2:Zcq C H2 a dx T (n1+3):=h2;rw[show(if [32,61,32] <+: rsT T n1 then(pX 12 (rsT T (n1+3))).map (fun y=>((x.1,y.1),y.2)) else none)=(pX 12 (rsT T (n1+3))).map (fun y=>((x.1,y.1),y.2)) from if_pos z] at hp
 refine⟨_,rfl,_,rfl,a,dx,_,rfl,h2,rfl,a,dx,T,n1+3,rfl,h2,ZcC z l1,hT,fun y hy p n3 H3 b3 h3 l3 e3 rp=>?_,fun hy H3 b3=>q2 (by rw[hp,hy];rfl) H3 ((b1.trans b2).trans b3)⟩;rw[hy] at hp;refine⟨(by show(2:Nat)<=sizeLine;decide),fun pp hp'=>?_⟩;have s4:=Zk.new (o:=.tup [.str x.1,.ref p]) hp';exact q1 _ hp pp p n3 _ (((b1.trans b2).trans b3).trans (Za1.same s4)) (s4 _ _ h3) l3 e3 Zb (rp.mono (TF.same s4))
theorem Zoa{A_NIL A_MARKS A_BRACED B1 B2 B3 B4 B5:Addr}{d0 d1 d2 d3 d4 d5:Option Addr}{n0 n1 n2 n3 n4 n5:Nat}{s0 s1 s2 s3 s4 s5 slM slB:Array (Option Value)}{eM eB:Nat}{hM0 hM1 hM2 hB0 hB1 hB2 hB3 hB4:Int}
  {a1 b1 b2 c1 e1 e2 e3 e4 e5 f1 f2 f3 f4 f5 g1 g2 g3 g4 g5 kM0 kM1 kM2 uM0 uM1 uM2 kB0 kB1 kB2 kB3 kB4:Tok}
  (y1:mg "NIL" = some (.ref A_NIL)) (y2:mg "MARKS" = some (.ref A_MARKS)) (y3:mg "BRACED" = some (.ref A_BRACED))
  (lM:K.lookup A_MARKS=some ⟨.type "dict",none,.dict #[{ hash:=hM0,key:=.str "many" kM0,val:=.str "*" uM0 },{ hash:=hM1,key:=.str "some" kM1,val:=.str "+" uM1 },{ hash:=hM2,key:=.str "maybe" kM2,val:=.str "?" uM2 }] eM,slM⟩)
  (lB:K.lookup A_BRACED=some ⟨.type "dict",none,.dict #[{ hash:=hB0,key:=.str "turn" kB0,val:=.ref B1 },{ hash:=hB1,key:=.str "or" kB1,val:=.ref B2 },{ hash:=hB2,key:=.str "many" kB2,val:=.ref B3 },{ hash:=hB3,key:=.str "some" kB3,val:=.ref B4 },{ hash:=hB4,key:=.str "maybe" kB4,val:=.ref B5 }] eB,slB⟩)
  (l0:K.lookup A_NIL=some ⟨.type "tuple",d0,.seq #[.str "nil" a1] n0,s0⟩) (l1:K.lookup B1=some ⟨.type "tuple",d1,.seq #[.str "turn" b1,.str "or" b2] n1,s1⟩) (l2:K.lookup B2=some ⟨.type "tuple",d2,.seq #[.str "or" c1] n2,s2⟩)
  (l3:K.lookup B3=some ⟨.type "tuple",d3,.seq #[.str "turn" e1,.str "or" e2,.str "many" e3,.str "some" e4,.str "maybe" e5] n3,s3⟩) (l4:K.lookup B4=some ⟨.type "tuple",d4,.seq #[.str "turn" f1,.str "or" f2,.str "many" f3,.str "some" f4,.str "maybe" f5] n4,s4⟩)
  (l5:K.lookup B5=some ⟨.type "tuple",d5,.seq #[.str "turn" g1,.str "or" g2,.str "many" g3,.str "some" g4,.str "maybe" g5] n5,s5⟩):Con20 K mg A_NIL A_MARKS A_BRACED where
 nil:=y1
 nilT:=fun H=>.inr ⟨_,_,_,l0,rfl,rfl,(by show 1<=sizeLine;decide),.cons ⟨_,rfl⟩ .nil⟩
 marks:=y2
 marksT:=⟨[("many",.str "*"),("some",.str "+"),("maybe",.str "?")],⟨_,_,_,lM,.cons rfl ⟨_,rfl⟩ (.cons rfl ⟨_,rfl⟩ (.cons rfl ⟨_,rfl⟩ .nil))⟩,fun m=>by
  unfold ZbI Zei
  split
  ·rfl
  ·split <;> rfl⟩
 braced:=y3
 bracedT:=⟨[("turn",.ref B1),("or",.ref B2),("many",.ref B3),("some",.ref B4),("maybe",.ref B5)],⟨_,_,_,lB,.cons rfl rfl (.cons rfl rfl (.cons rfl rfl (.cons rfl rfl (.cons rfl rfl .nil))))⟩,fun ar l h=>by
  rcases h with⟨b,rfl,rfl⟩|⟨m,rfl,rfl⟩
  ·cases b with
   | true=>exact⟨B1,rfl,fun H=>.inr ⟨_,_,_,l1,rfl,rfl,(by show 2<=sizeLine;decide),.cons ⟨_,rfl⟩ (.cons ⟨_,rfl⟩ .nil)⟩⟩
   | false=>exact⟨B2,rfl,fun H=>.inr ⟨_,_,_,l2,rfl,rfl,(by show 1<=sizeLine;decide),.cons ⟨_,rfl⟩ .nil⟩⟩
  ·unfold ZbI
   split
   ·exact⟨B3,rfl,fun H=>.inr ⟨_,_,_,l3,rfl,rfl,(by show 5<=sizeLine;decide),.cons ⟨_,rfl⟩ (.cons ⟨_,rfl⟩ (.cons ⟨_,rfl⟩ (.cons ⟨_,rfl⟩ (.cons ⟨_,rfl⟩ .nil))))⟩⟩
   ·split
    ·exact⟨B4,rfl,fun H=>.inr ⟨_,_,_,l4,rfl,rfl,(by show 5<=sizeLine;decide),.cons ⟨_,rfl⟩ (.cons ⟨_,rfl⟩ (.cons ⟨_,rfl⟩ (.cons ⟨_,rfl⟩ (.cons ⟨_,rfl⟩ .nil))))⟩⟩
    ·exact⟨B5,rfl,fun H=>.inr ⟨_,_,_,l5,rfl,rfl,(by show 5<=sizeLine;decide),.cons ⟨_,rfl⟩ (.cons ⟨_,rfl⟩ (.cons ⟨_,rfl⟩ (.cons ⟨_,rfl⟩ (.cons ⟨_,rfl⟩ .nil))))⟩⟩⟩
theorem RepK.top{K:PySem.W.Frag}{H:Hp}{p:Addr}{e:Ex}(h:RepK K H p e):∃r,SqT K H p (.str (kw e)::r)/\r.isEmpty=Zck e:=by
 cases h with
 | nil h=>exact⟨_,h,rfl⟩
 | tag h _=>exact⟨_,h,rfl⟩
 | name h=>exact⟨_,h,rfl⟩
 | several h _ _=>exact⟨_,h,rfl⟩
 | rep h _=>exact⟨_,h,rfl⟩
theorem RepKs.length{K:PySem.W.Frag}{H:Hp}:∀{vs:List V}{ps:Exs},RepKs K H vs ps->vs.length=cnt ps
 | _,_,.nil=>rfl
 | _,_,.cons _ r=>by simp only[List.length_cons,cnt,RepKs.length r]
theorem RepKs.get{K:PySem.W.Frag}{H:Hp}:∀{vs:List V}{ps:Exs}{i:Nat}{x:V},RepKs K H vs ps->vs[i]?= some x->∃p e,x=.ref p/\(toL ps)[i]?= some e/\RepK K H p e
 | _,_,i,_,.nil,h=>by simp at h
 | _,_,0,_,.cons h _,e=>by cases e;exact⟨_,_,rfl,rfl,h⟩
 | _,_,i+1,x,.cons _ r,e=>RepKs.get (i:=i) (x:=x) r (by simpa using e)
def ptE:Ex->Exs
 | .nil=>.nil
 | .tag _ i=>.cons i .nil
 | .name _=>.nil
 | .several _ ps=>ps
 | .rep _ p=>.cons p .nil
def ZbB(K:PySem.W.Frag):Sp:=fun vs H Q _=>∃p e,vs=[.ref p]/\RepK K H p e/\∀r vs' H',Zk H H'->SqT K H' r vs'->RepKs K H' vs' (ptE e)->Q (.ref r) H'
def ZcE(K:PySem.W.Frag)(d:Nat):Sp:=fun vs H Q _=>∃p e,vs=[.ref p]/\RepK K H p e/\dp e<d/\sz e<=500/\w8 e/\∀H',Zk H H'->Q (.str (tx e)) H'
def Zgs(K:PySem.W.Frag)(d:Nat):Sp:=fun vs H Q _=>∃ar l p e,vs=[.str ar,.ref p]/\Aro ar l/\RepK K H p e/\dp e<d/\sz e<=500/\w8 e/\∀H',Zk H H'->Q (.str (brc l (kw e) (tx e))) H'
theorem Zgk(B:∀x∈ZbK,mg x=none)(F:Fun K "parts_of" "parts_of" ZbD f fd):FnOk P w K mg base CX0 1 f fd ["expr"] (ZbB K):=by
 refine F.ok ZgL (fun vs H Q E h=>?_) (fun cdv A outer s H vs Q E hr h=>?_)
 ·obtain⟨p,e,rfl,_⟩:=h;rfl
 obtain⟨p,e,rfl,hR,q⟩:=h;refine⟨_,(Zh (Zad (ZC Zcm (Z9 Zaf (pv 0) Zg (fun _ _=>rfl)) (Zbs (Za Zo (Za Zo Zd))) (by with_unfolding_all rfl))
   (Zi (ZL (Zbs Zd)))
   Zx)
  (Zh (Zad (ZC ZaV (Z9 Zaf (pv 0) Zg (fun _ _=>rfl)) Zo (ZM _))
   (Zi (ZL (Zbs (Za (Z9 Zaf (pv 0) Zg (fun _ _=>rfl)) Zd))))
   Zx)
  (Zh (Zad (ZC Zcm (Z9 Zaf (pv 0) Zg (fun _ _=>rfl)) (Zbs (Za Zo (Za Zo Zd))) (by with_unfolding_all rfl))
   (Zi (ZL (Z9 Zaf (pv 0) Zg (fun _ _=>rfl))))
   Zx)
  (Zi (ZL (Zbs (Za (Z9 Zaf (pv 0) Zg (fun _ _=>rfl)) Zd))))))),?_⟩
 cases hR with
 | nil h =>
  refine⟨_,rfl,p,_,0,_,rfl,rfl,h,rfl,(by show 2<=sizeLine;decide),fun t ht=>⟨t,_,rfl,.inr (SqT.of Zb),rfl,rfl,_,rfl,ZaU (fun _=>?_) (fun z=>absurd (by decide) z)⟩⟩;have s1:Zk H (upd H t (.tup [.str "nil",.str "name"])):=Zk.new ht;exact⟨(by show 0<=sizeLine;decide),fun t2 ht2=>q t2 _ _ (s1.upd_new (s1.free ht2)) (SqT.of Zb) .nil⟩
 | name h =>
  refine⟨_,rfl,p,_,0,_,rfl,rfl,h,rfl,(by show 2<=sizeLine;decide),fun t ht=>⟨t,_,rfl,.inr (SqT.of Zb),rfl,rfl,_,rfl,ZaU (fun _=>?_) (fun z=>absurd (by decide) z)⟩⟩;have s1:Zk H (upd H t (.tup [.str "nil",.str "name"])):=Zk.new ht;exact⟨(by show 0<=sizeLine;decide),fun t2 ht2=>q t2 _ _ (s1.upd_new (s1.free ht2)) (SqT.of Zb) .nil⟩
 | @tag _ qa tg i h1 r =>
  refine⟨_,rfl,p,_,0,_,rfl,rfl,h1,rfl,(by show 2<=sizeLine;decide),fun t ht=>⟨t,_,rfl,.inr (SqT.of Zb),rfl,rfl,_,rfl,ZaU (fun z=>absurd z (by decide)) (fun _=>?_)⟩⟩;have s1:Zk H (upd H t (.tup [.str "nil",.str "name"])):=Zk.new ht;have h1':=TF.same (K:=K) s1 _ _ h1;refine⟨_,rfl,p,_,0,_,rfl,rfl,h1',rfl,rfl,_,rfl,ZaU (fun _=>?_) (fun z=>absurd (by decide) z)⟩;refine⟨_,rfl,p,_,2,_,rfl,rfl,h1',rfl,(by show 1<=sizeLine;decide),fun t3 ht3=>?_⟩;have s3:=s1.upd_new (o:=.tup [.ref qa]) (s1.free ht3);exact q t3 _ _ s3 (SqT.of Zb) (.cons (r.mono (TF.same s3)) .nil)
 | @several _ qa b vs _ h1 h2 r =>
  refine⟨_,rfl,p,_,0,_,rfl,rfl,h1,rfl,(by show 2<=sizeLine;decide),fun t ht=>⟨t,_,rfl,.inr (SqT.of Zb),rfl,rfl,_,rfl,ZaU (fun z=>absurd z ?_) (fun _=>?_)⟩⟩
  ·cases b <;> decide
  have s1:Zk H (upd H t (.tup [.str "nil",.str "name"])):=Zk.new ht;have h1':=TF.same (K:=K) s1 _ _ h1;refine⟨_,rfl,p,_,0,_,rfl,rfl,h1',rfl,rfl,_,rfl,ZaU (fun z=>absurd z ?_) (fun _=>?_)⟩
  ·cases b <;> decide
  refine⟨_,rfl,p,_,0,_,rfl,rfl,h1',rfl,(by show 2<=sizeLine;decide),fun t2 ht2=>⟨t2,_,rfl,.inr (SqT.of Zb),rfl,rfl,_,rfl,ZaU (fun _=>?_) (fun z=>absurd ?_ z)⟩⟩
  ·have s2:=s1.upd_new (o:=.tup [.str "turn",.str "or"]) (s1.free ht2);exact⟨_,rfl,p,_,1,_,rfl,rfl,(TF.same s2 _ _ h1),rfl,q qa vs _ s2 (TF.same s2 _ _ h2) (r.mono (TF.same s2))⟩
  ·cases b <;> decide
 | @rep _ qa m e h1 r =>
  have hm:ZbI m= "many" \/ ZbI m= "some" \/ ZbI m= "maybe" := by unfold ZbI;split;exact .inl rfl;split;exact .inr (.inl rfl);exact .inr (.inr rfl)
  refine⟨_,rfl,p,_,0,_,rfl,rfl,h1,rfl,(by show 2<=sizeLine;decide),fun t ht=>⟨t,_,rfl,.inr (SqT.of Zb),rfl,rfl,_,rfl,ZaU (fun z=>absurd z ?_) (fun _=>?_)⟩⟩
  ·rcases hm with z|z|z <;> rw[z] <;> decide
  have s1:Zk H (upd H t (.tup [.str "nil",.str "name"])):=Zk.new ht;have h1':=TF.same (K:=K) s1 _ _ h1;refine⟨_,rfl,p,_,0,_,rfl,rfl,h1',rfl,rfl,_,rfl,ZaU (fun z=>absurd z ?_) (fun _=>?_)⟩
  ·rcases hm with z|z|z <;> rw[z] <;> decide
  refine⟨_,rfl,p,_,0,_,rfl,rfl,h1',rfl,(by show 2<=sizeLine;decide),fun t2 ht2=>⟨t2,_,rfl,.inr (SqT.of Zb),rfl,rfl,_,rfl,ZaU (fun z=>absurd z ?_) (fun _=>?_)⟩⟩
  ·rcases hm with z|z|z <;> rw[z] <;> decide
  have s2:=s1.upd_new (o:=.tup [.str "turn",.str "or"]) (s1.free ht2);refine⟨_,rfl,p,_,1,_,rfl,rfl,(TF.same s2 _ _ h1),rfl,(by show 1<=sizeLine;decide),fun t3 ht3=>?_⟩;have s3:=s2.upd_new (o:=.tup [.ref qa]) (s2.free ht3);exact q t3 _ _ s3 (SqT.of Zb) (.cons (r.mono (TF.same s3)) .nil)
theorem ZcX(d:Nat)(A_NIL A_MARKS A_BRACED:Addr)(B:∀x∈ZbK,mg x=none)(C:Con20 K mg A_NIL A_MARKS A_BRACED)(g_shown_expr:Has P w K mg base "shown_expr" ["expr"] (2*d+1) (ZcE K d)) (F:Fun K "shown_part" "shown_part" Zbd f fd):FnOk P w K mg base CX0 (2*d+2) f fd ["around","part"] (Zgs K d):=by
 refine F.ok ZcW (fun vs H Q E h=>?_) (fun cdv A outer s H vs Q E hr h=>?_)
 ·obtain⟨ar,l,p,e,rfl,_⟩:=h;rfl
 obtain⟨ar,l,p,e,rfl,ha,hR,hd,hs,hw,q⟩:=h;have c_BRACED:=C.braced;have hl:=ZcB e hw;refine⟨_,(Zh (ZD (i:=2) ZcW.nd rfl (Or.inl rfl) (ZR g_shown_expr hr rfl (Za (pv 1) Zd) (by lia)))
  (Zi (ZL (Zdb (ZC Zcm (Z9 Zaf (pv 1) Zg (fun _ _=>rfl)) (Zj2 (ZaA (v:=.ref A_BRACED) rfl c_BRACED rfl) (pv 0) (fun _ _=>rfl)) (by with_unfolding_all rfl)) (Zw Zr (Zw Zr Zo (pv 2)) Zo) (pv 2))))),?_⟩
 refine⟨_,rfl,p,e,rfl,hR,hd,hs,hw,fun H1 s1=>?_⟩;obtain⟨r,ht,_⟩:=(hR.mono (TF.same s1)).top;obtain⟨D,hK,hD⟩:=C.bracedT;obtain⟨Cb,hCb,hCt⟩:=hD ar l ha;refine⟨_,rfl,p,_,0,.str (kw e),rfl,rfl,ht,at0,_,rfl,A_BRACED,D,ar,_,rfl,rfl,hK,hCb,Cb,_,rfl,.inr (hCt H1),rfl,?_,_,rfl,?_⟩
 ·rcases ha with⟨b,rfl,rfl⟩|⟨m,rfl,rfl⟩
  ·cases b <;> rfl
  ·rfl
 have e1:(if false=true then !inV (V.str (kw e)) (l.map V.str) else inV (V.str (kw e)) (l.map V.str))=l.contains (kw e):=Zd0 _ _
 rw[e1];have q':=q H1 s1;unfold brc at q';by_cases hc:l.contains (kw e)=true
 ·rw[if_pos hc] at q';refine ZaU (fun _=>?_) (fun z=>absurd hc z);refine⟨_,rfl,_,_,rfl,rfl,Zj (by show 1+_<=_;lia),_,_,rfl,rfl,Zj (by rw[Zn];show 1+_+1<=_;lia),q'⟩
 ·rw[if_neg hc] at q';exact ZaU (fun z=>absurd z hc) (fun _=>⟨_,rfl,q'⟩)
set_option maxHeartbeats 4000000 in
theorem Zfa(d:Nat)(A_NIL A_MARKS A_BRACED:Addr)(B:∀x∈ZbK,mg x=none)(C:Con20 K mg A_NIL A_MARKS A_BRACED)(g_shown_expr:Has P w K mg base "shown_expr" ["expr"] (2*d+1) (ZcE K d)) (g_parts_of:Has P w K mg base "parts_of" ["expr"] 1 (ZbB K)) (g_shown_part:Has P w K mg base "shown_part" ["around","part"] (2*d+2) (Zgs K d))
  (F:Fun K "shown_expr" "shown_expr" Zbe f fd):FnOk P w K mg base CX0 (2*d+3) f fd ["expr"] (ZcE K (d+1)):=by
 refine F.ok ZcY (fun vs H Q E h=>?_) (fun cdv A outer s H vs Q E hr h=>?_)
 ·obtain⟨p,e,rfl,_⟩:=h;rfl
 obtain⟨p,e,rfl,hR,hd,hs,hw,q⟩:=h;have hu:=ZdZ hr;have c_NIL:=C.nil;have c_MARKS:=C.marks;have hlen:=ZcB e hw;refine⟨_,(Zh (Zad (ZC (Zjo hu) (pv 0) (ZaA (v:=.ref A_NIL) rfl c_NIL rfl) (ZM _))
   (Zi (ZL Zo))
   Zx)
  (Zh (Zad (ZC ZaV (Z9 Zaf (pv 0) Zg (fun _ _=>rfl)) Zo (ZM _))
   (Zi (ZL (Z9 Zaf (pv 0) Zg (fun _ _=>rfl))))
   Zx)
  (Zh (Zad (ZC ZaV (Z9 Zaf (pv 0) Zg (fun _ _=>rfl)) Zo (ZM _))
   (Zi (ZL (Zdb (ZC (Zjo hu) (Z9 Zaf (pv 0) Zg (fun _ _=>rfl)) (ZaA (v:=.ref A_NIL) rfl c_NIL rfl) (ZM _)) (Z9 Zaf (pv 0) Zg (fun _ _=>rfl)) (Zw Zr (Zw Zr (Zw Zr (Z9 Zaf (pv 0) Zg (fun _ _=>rfl)) Zo) (ZR g_shown_expr hr rfl (Za (Z9 Zaf (pv 0) Zg (fun _ _=>rfl)) Zd) (by lia))) Zo))))
   Zx)
  (Zh (ZdR (cl:=[(Str.ofString "expr",s.heap.objs.size+1)]) (n0:=1) ZcY.nd rfl (Or.inl rfl) ["part"] [("expr",0)] (Zdt (ZR g_parts_of hr rfl (Za (pv 0) Zd) (by lia))) (fun _ _ _ _=>(ZV (i:=0) (show List.Nodup (["part","expr"]:List Str) by decide) rfl (Or.inl rfl))) (fun _ _ _ _=>(ZR g_shown_part hr rfl (Za (Z9 (Zjh (K:=K) rfl) (pv 1) Zg (fun _ _=>rfl)) (Za (pv 0) Zd)) (by lia))) rfl rfl (by decide) rfl (by decide) (ZfG (by(repeat' first|exact List.forall_mem_nil _|refine List.forall_mem_cons.mpr ⟨?_,?_⟩) <;> rfl)) (ZdM (by(repeat' first|exact List.forall_mem_nil _|refine List.forall_mem_cons.mpr ⟨?_,?_⟩) <;> first|(intro h;exact⟨_,rfl⟩)|(intro h;exact absurd h (by decide)))) (fun _=>by(repeat' first|exact List.forall_mem_nil _|refine List.forall_mem_cons.mpr ⟨?_,?_⟩) <;> exact⟨rfl,rfl,Or.inl rfl⟩) (fun _=>rfl) rfl)
  (Zh (Zad (ZC ZaV (Z9 Zaf (pv 0) Zg (fun _ _=>rfl)) Zo (ZM _))
   (Zi (ZL (ZbT PySem.F.plainAttrs_str PySem.F.slot_str_join PySem.F.type_str_join Zdl Zo (Za (pv 1) Zd))))
   Zx)
  (Zh (Zad (ZC ZaV (Z9 Zaf (pv 0) Zg (fun _ _=>rfl)) Zo (ZM _))
   (Zi (ZL (ZbT PySem.F.plainAttrs_str PySem.F.slot_str_join PySem.F.type_str_join Zdl Zo (Za (pv 1) Zd))))
   Zx)
  (Zi (ZL (Zw Zr (Z9 Zaz (pv 1) Zg (fun _ _=>rfl)) (Zj2 (ZaA (v:=.ref A_MARKS) rfl c_MARKS rfl) (Z9 Zaf (pv 0) Zg (fun _ _=>rfl)) (fun _ _=>rfl))))))))))),?_⟩
 obtain⟨r,ht,hre⟩:=hR.top;refine⟨_,rfl,p,A_NIL,kw e,r,"nil",rfl,rfl,ht,C.nilT H,?_⟩;rw[hre,Zio];refine⟨_,rfl,?_⟩;cases hR with
 | nil h=>exact Zcn (q H (Zk.refl H))
 | name h =>
  refine ZbO ⟨_,rfl,p,_,0,_,rfl,rfl,h,rfl,rfl,_,rfl,ZaU (fun _=>?_) (fun z=>absurd (by decide) z)⟩;exact⟨_,rfl,p,_,1,_,rfl,rfl,h,rfl,q H (Zk.refl H)⟩
 | @tag _ q0 tg i h hi =>
  refine ZbO ⟨_,rfl,p,_,0,_,rfl,rfl,h,rfl,rfl,_,rfl,ZaU (fun z=>absurd z (by decide)) (fun _=>?_)⟩;refine⟨_,rfl,p,_,0,_,rfl,rfl,h,rfl,rfl,_,rfl,ZaU (fun _=>?_) (fun z=>absurd (by decide) z)⟩;obtain⟨r',ht',hre'⟩:=hi.top;refine⟨_,rfl,p,_,2,.ref q0,rfl,rfl,h,rfl,q0,A_NIL,kw i,r',"nil",rfl,rfl,ht',C.nilT H,?_⟩;rw[hre',Zio];refine⟨_,rfl,?_⟩;rw[tx] at q;have h8:tg.length<=8:=hw.1;have hli:=ZcB i hw.2;have hsi:sz i+1<=500:=hs;by_cases hn:Zck i=true
  ·rw[if_pos hn] at q;exact ZaU (fun _=>⟨_,rfl,p,_,1,_,rfl,rfl,h,rfl,q H (Zk.refl H)⟩) (fun z=>absurd hn z)
  ·rw[if_neg hn] at q;refine ZaU (fun z=>absurd z hn) (fun _=>?_);have hdi:dp i+1<d+1:=hd;refine⟨_,rfl,p,_,1,_,rfl,rfl,h,rfl,_,_,rfl,rfl,Zj (by show tg.length+1<=_;lia),?_⟩;refine⟨_,rfl,p,_,2,_,rfl,rfl,h,rfl,q0,i,rfl,hi,by lia,by lia,hw.2,fun H1 s1=>?_⟩;exact⟨_,_,rfl,rfl,Zj (by rw[Zn];show tg.length+1+_<=_;lia),_,_,rfl,rfl,Zj (by rw[Zn,Zn];show tg.length+1+_+1<=_;lia),q H1 s1⟩
 | @several _ q0 b vs ps h1 h2 hr0 =>
  have hps:szs ps+1<=500:=hs;have hds:dps ps+1<d+1:=hd;have hl2:=Zgw (Zbk b) ps hw;refine ZbO ⟨_,rfl,p,_,0,_,rfl,rfl,h1,rfl,rfl,_,rfl,ZaU (fun z=>absurd z (by cases b <;> decide)) (fun _=>?_)⟩
  refine⟨_,rfl,p,_,0,_,rfl,rfl,h1,rfl,rfl,_,rfl,ZaU (fun z=>absurd z (by cases b <;> decide)) (fun _=>?_)⟩
  refine⟨_,rfl,p,.several b ps,rfl,.several h1 h2 hr0,fun ra vs' H1 s1 e1 hr1=>?_⟩;have hr1:RepKs K H1 vs' ps:=hr1;refine⟨ra,rfl,⟨vs',e1⟩,fun pl hpl=>Zc6 (K:=K) (a:=ra) (p:=pl) (xs:=vs') (fun i ys σ H2=>∃v0:Option V,σ =[v0,some (.ref p)]/\Zk H1 H2/\H2 pl=some (.lst ys)/\ys=((txs (Zbk b) ps).take i).map V.str)
   ⟨none,rfl,Zk.new hpl,Zb,rfl⟩ ?_ ?_ ?_⟩
  ·rintro i ys σ H2 _ ⟨v0,_,sm,hp2,_⟩;exact⟨(TF.same sm _ _ e1),hp2⟩
  ·rintro i ys x σ H2 hi hx ⟨v0,rfl,sm,hp2,rfl⟩;obtain⟨pa,ea,rfl,hea,hra⟩:=hr1.get hx;obtain⟨m1,m2,m3⟩:=Zdh (List.mem_of_getElem? hea);have hra2:=hra.mono (TF.same sm);have s12:=s1.trans sm;refine⟨_,rfl,p,_,0,_,rfl,rfl,(TF.same s12 _ _ h1),rfl,_,rfl,ZeF b,Zbk b,pa,ea,rfl,.inl ⟨b,rfl,rfl⟩,hra2,by lia,by lia,m3 hw,fun H3 s3=>⟨s3 _ _ hp2,Z3 (by rw[List.length_map,List.length_take];have:=ZdY (Zbk b) ps;have:=Zhl ps;lia),CW.next hi ⟨_,rfl,(sm.trans s3).upd_new hpl,Zb,?_⟩⟩⟩
   have hti:(txs (Zbk b) ps)[i]?= some (brc (Zbk b) (kw ea) (tx ea)):=by rw[ZeU,List.getElem?_map,hea];rfl
   obtain⟨hil,hie⟩:=List.getElem?_eq_some_iff.mp hti;rw[List.take_succ_eq_append_getElem hil,hie,List.map_append];rfl
  ·rintro ys σ H2 ⟨v0,rfl,sm,hp2,rfl⟩;have hcv:vs'.length=(txs (Zbk b) ps).length:=by rw[hr1.length,ZdY]
   rw[hcv,List.take_length] at hp2;have s12:=s1.trans sm;have hx1:=TF.same (K:=K) s12 _ _ h1;rw[tx] at q;cases b with
   | true =>
    refine⟨_,rfl,p,_,0,_,rfl,rfl,hx1,rfl,rfl,_,rfl,ZaU (fun _=>?_) (fun z=>absurd (by decide) z)⟩;refine⟨rfl,_,rfl," ",pl,txs (Zbk true) ps,rfl,rfl,SqL.of hp2,?_,q H2 s12⟩;show _+_*1<=_;lia
   | false =>
    refine⟨_,rfl,p,_,0,_,rfl,rfl,hx1,rfl,rfl,_,rfl,ZaU (fun z=>absurd z (by decide)) (fun _=>?_)⟩;refine⟨_,rfl,p,_,0,_,rfl,rfl,hx1,rfl,rfl,_,rfl,ZaU (fun _=>?_) (fun z=>absurd (by decide) z)⟩;refine⟨rfl,_,rfl," | ",pl,txs (Zbk false) ps,rfl,rfl,SqL.of hp2,?_,q H2 s12⟩;show _+_*3<=_;lia
 | @rep _ q0 m pe h1 hr0 =>
  have hps:sz pe+1<=500:=hs;have hds:dp pe+1<d+1:=hd;have hlp:=ZcB pe hw;have hbl:=Zcl five (kw pe) (tx pe);have hm:ZbI m= "many" \/ ZbI m= "some" \/ ZbI m= "maybe" := by unfold ZbI;split;exact .inl rfl;split;exact .inr (.inl rfl);exact .inr (.inr rfl)
  refine ZbO ⟨_,rfl,p,_,0,_,rfl,rfl,h1,rfl,rfl,_,rfl,ZaU (fun z=>absurd z (by rcases hm with y|y|y <;> rw[y] <;> decide)) (fun _=>?_)⟩
  refine⟨_,rfl,p,_,0,_,rfl,rfl,h1,rfl,rfl,_,rfl,ZaU (fun z=>absurd z (by rcases hm with y|y|y <;> rw[y] <;> decide)) (fun _=>?_)⟩
  refine⟨_,rfl,p,.rep m pe,rfl,.rep h1 hr0,fun ra vs' H1 s1 e1 hr1=>?_⟩;have hr1:RepKs K H1 vs' (.cons pe .nil):=hr1;have hcn:vs'.length=1:=by rw[hr1.length];rfl
  refine⟨ra,rfl,⟨vs',e1⟩,fun pl hpl=>Zc6 (K:=K) (a:=ra) (p:=pl) (xs:=vs') (fun i ys σ H2=>∃v0:Option V,σ =[v0,some (.ref p)]/\Zk H1 H2/\H2 pl=some (.lst ys)/\ys=((txs five (.cons pe .nil)).take i).map V.str)
   ⟨none,rfl,Zk.new hpl,Zb,rfl⟩ ?_ ?_ ?_⟩
  ·rintro i ys σ H2 _ ⟨v0,_,sm,hp2,_⟩;exact⟨(TF.same sm _ _ e1),hp2⟩
  ·rintro i ys x σ H2 hi hx ⟨v0,rfl,sm,hp2,rfl⟩;obtain⟨pa,ea,rfl,hea,hra⟩:=hr1.get hx;obtain⟨m1,m2,m3⟩:=Zdh (List.mem_of_getElem? hea);have m1':dp ea<=max (dp pe) 0:=m1;have m2':sz ea<=sz pe+0:=m2;have m1'':dp ea<=dp pe:=by rw[Nat.max_eq_left (Nat.zero_le _)] at m1';exact m1'
   have hra2:=hra.mono (TF.same sm);have s12:=s1.trans sm;refine⟨_,rfl,p,_,0,_,rfl,rfl,(TF.same s12 _ _ h1),rfl,_,rfl,ZbI m,five,pa,ea,rfl,.inr ⟨m,rfl,rfl⟩,hra2,by lia,by lia,m3 ⟨hw,trivial⟩,fun H3 s3=>⟨s3 _ _ hp2,Z3 (by rw[List.length_map,List.length_take];lia),CW.next hi ⟨_,rfl,(sm.trans s3).upd_new hpl,Zb,?_⟩⟩⟩
   have hti:(txs five (.cons pe .nil))[i]?= some (brc five (kw ea) (tx ea)):=by rw[ZeU,List.getElem?_map,hea];rfl
   obtain⟨hil,hie⟩:=List.getElem?_eq_some_iff.mp hti;rw[List.take_succ_eq_append_getElem hil,hie,List.map_append];rfl
  ·rintro ys σ H2 ⟨v0,rfl,sm,hp2,rfl⟩;rw[hcn] at hp2;have hp3:H2 pl=some (.lst [.str (brc five (kw pe) (tx pe))]):=hp2;have s12:=s1.trans sm;have hx1:=TF.same (K:=K) s12 _ _ h1;rw[tx] at q;refine⟨_,rfl,p,_,0,_,rfl,rfl,hx1,rfl,rfl,_,rfl,ZaU (fun z=>absurd z (by rcases hm with y|y|y <;> rw[y] <;> decide)) (fun _=>?_)⟩
   refine⟨_,rfl,p,_,0,_,rfl,rfl,hx1,rfl,rfl,_,rfl,ZaU (fun z=>absurd z (by rcases hm with y|y|y <;> rw[y] <;> decide)) (fun _=>?_)⟩
   obtain⟨D,hK,hD⟩:=C.marksT;have h3:(Zei m).length=1:=by unfold Zei;split;rfl;split <;> rfl
   exact⟨_,rfl,pl,_,0,_,rfl,rfl,SqL.of hp3,rfl,_,rfl,p,_,0,_,rfl,rfl,hx1,rfl,A_MARKS,D,ZbI m,_,rfl,rfl,hK,hD m,_,_,rfl,rfl,Zj (by rw[h3];lia),q H2 s12⟩
mutual
def nm(b:Bool):Ex->List Str
 | .nil=>[]
 | .tag _ i=>if b=true then nm b i else []
 | .name n=>[n]
 | .several _ ps=>nms b ps
 | .rep _ p=>nm b p
def nms(b:Bool):Exs->List Str
 | .nil=>[]
 | .cons e r=>nm b e++nms b r
end
theorem ZeS(b:Bool):∀ps:Exs,nms b ps=(toL ps).flatMap (nm b)
 | .nil=>rfl
 | .cons e r=>by rw[nms,ZeS b r,toL,List.flatMap_cons]
mutual
theorem ZeN(b:Bool):∀e:Ex,(nm b e).length<=sz e
 | .nil=>Nat.zero_le _
 | .tag _ i=>by
  have:=ZeN b i;rw[nm,sz]
  split
  ·lia
  ·exact Nat.zero_le _
 | .name _=>Nat.le_refl _
 | .several _ ps=>by
  have:=Zjt b ps;rw[nm,sz];lia
 | .rep _ p=>by
  have:=ZeN b p;rw[nm,sz];lia
theorem Zjt(b:Bool):∀ps:Exs,(nms b ps).length<=szs ps
 | .nil=>Nat.zero_le _
 | .cons e r=>by
  have h1:=ZeN b e;have h2:=Zjt b r;rw[nms,szs,List.length_append];lia
end
theorem Zcf{α β : Type}(f : α -> List β):∀(l:List α)(i:Nat),((l.take i).flatMap f).length<=(l.flatMap f).length
 | [],i=>by rw[List.take_nil];exact Nat.le_refl _
 | a::l,0=>Nat.zero_le _
 | a::l,i+1=>by
  have:=Zcf f l i;rw[List.take_succ_cons,List.flatMap_cons,List.flatMap_cons,List.length_append,List.length_append];lia
def Zlr(K:PySem.W.Frag)(b:Bool)(d:Nat):Sp:=fun vs H Q _=>∃p e,vs=[.ref p]/\RepK K H p e/\dp e<d/\sz e<=500/\∀l H',Zk H H'->H l=none->H' l=some (.lst ((nm b e).map V.str))->Q (.ref l) H'
theorem Zhr:∀{e x:Ex},x∈toL (ptE e)->dp x<dp e/\sz x<sz e
 | .nil,_,h=>nomatch h
 | .tag _ i,x,h=>by
  rw[List.mem_singleton.mp h];show dp i<dp i+1/\sz i<sz i+1;lia
 | .name _,_,h=>nomatch h
 | .several _ ps,x,h=>by
  obtain⟨h1,h2,_⟩:=Zdh (ps:=ps) h;show dp x<dps ps+1/\sz x<szs ps+1;lia
 | .rep _ p,x,h=>by
  rw[List.mem_singleton.mp h];show dp p<dp p+1/\sz p<sz p+1;lia
theorem Zl9:∀e:Ex,szs (ptE e)<=sz e
 | .nil=>Nat.zero_le _
 | .tag _ i=>by show sz i+0<=sz i+1;lia
 | .name _=>Nat.zero_le _
 | .several _ ps=>by show szs ps<=szs ps+1;lia
 | .rep _ p=>by show sz p+0<=sz p+1;lia
theorem ZhJ(b:Bool):∀e:Ex,kw e ≠ "name" -> (b=true\/kw e ≠ "tag")->nm b e=(toL (ptE e)).flatMap (nm b)
 | .nil,_,_=>rfl
 | .tag t i,_,h=>by
  have hb:b=true:=h.resolve_right fun z=>z rfl;rw[nm,if_pos hb];show _=nm b i ++ [];rw[List.append_nil]
 | .name _,h,_=>absurd rfl h
 | .several _ ps,_,_=>by rw[nm];exact ZeS b ps
 | .rep _ p,_,_=>by
  rw[nm];show _=nm b p ++ [];rw[List.append_nil]
theorem Zfn{b:Bool}{es:List Ex}{i:Nat}{e:Ex}(h:es[i]?= some e):((es.take i).flatMap (nm b)).map V.str++(nm b e).map V.str=((es.take (i+1)).flatMap (nm b)).map V.str:=by
 obtain⟨hi,he⟩:=List.getElem?_eq_some_iff.mp h;rw[List.take_succ_eq_append_getElem hi,List.flatMap_append,List.map_append,he];simp
theorem RepK.name_of{K:PySem.W.Frag}{H:Hp}{p:Addr}{e:Ex}(h:RepK K H p e)(hk:kw e= "name"):∃n,e=.name n/\SqT K H p [.str "name",.str n]:=by
 cases h with
 | nil h=>exact absurd hk (by decide)
 | tag h _=>exact absurd hk (by show ¬ (Str.ofString "tag" = Str.ofString "name");decide)
 | name h=>exact⟨_,rfl,h⟩
 | @several _ _ b _ _ h _ _=>exact absurd hk (by show ¬ ZeF b=_;cases b <;> decide)
 | @rep _ _ m _ h _=>exact absurd hk (by show ¬ ZbI m=_;unfold ZbI;split;decide;split <;> decide)
set_option maxHeartbeats 1000000 in
theorem ZgD(d:Nat)(B:∀x∈ZbK,mg x=none)(g_parts_of:Has P w K mg base "parts_of" ["expr"] 1 (ZbB K)) (g_names_in:Has P w K mg base "names_in" ["expr"] (d+1) (Zlr K true d)) (F:Fun K "names_in" "names_in" ZbE f fd):FnOk P w K mg base CX0 (d+2) f fd ["expr"] (Zlr K true (d+1)):=by
 refine F.ok ZcN (fun vs H Q E h=>?_) (fun cdv A outer s H vs Q E hr h=>?_)
 ·obtain⟨p,e,rfl,_⟩:=h;rfl
 obtain⟨p,e,rfl,hR,hd,hs,q⟩:=h;refine⟨_,(Zh (Zad (ZC ZaV (Z9 Zaf (pv 0) Zg (fun _ _=>rfl)) Zo (ZM _))
   (Zi (ZL (Zb6 (Za (Z9 Zaf (pv 0) Zg (fun _ _=>rfl)) Zd))))
   Zx)
  (Zh (ZD (i:=1) ZcN.nd rfl (Or.inl rfl) (Zb6 Zd))
  (Zh (Zch PassesOwn.never rfl (Zdt (ZR g_parts_of hr rfl (Za (pv 0) Zd) (by lia))) (ZV (i:=2) ZcN.nd rfl (Or.inl rfl))
   (Zi (Zaw (ZbT PySem.F.plainAttrs_list PySem.F.slot_list_extend PySem.F.type_list_extend Zf5 (pv 1) (Za (ZR g_names_in hr rfl (Za (pv 2) Zd) (by lia)) Zd)))))
  (Zi (ZL (pv 1)))))),?_⟩
 obtain⟨r,ht,_⟩:=hR.top;refine⟨_,rfl,p,_,0,_,rfl,rfl,ht,at0,rfl,_,rfl,ZaU (fun z=>?_) (fun z=>?_)⟩
 ·have z:V.str (kw e)=V.str "name" := of_decide_eq_true z;injection z with z;obtain⟨n,rfl,hn⟩:=hR.name_of z;exact⟨_,rfl,p,_,1,_,rfl,rfl,hn,rfl,(by show 1<=sizeLine;decide),fun l hl=>q l _ (Zk.new hl) hl Zb⟩
 have hk:kw e ≠ "name" := fun k=>z (decide_eq_true (by rw[k]));refine⟨(by show 0<=sizeLine;decide),fun fl hfl=>?_⟩;have s0:Zk H (upd H fl (.lst [])):=Zk.new hfl;refine⟨_,rfl,p,e,rfl,hR.mono (TF.same s0),fun ra vs' H1 s1 e1 hr1=>?_⟩;have hvl:=hr1.length;have hcl:=ZdP (ptE e);have hfm:=ZhJ true e hk (.inl rfl);have hnl:=ZeN true e;have h1:H1 fl=some (.lst []):=s1 _ _ Zb;have s01:=s0.trans s1;refine⟨ra,rfl,⟨vs',e1⟩,ZeR (K:=K) (a:=ra) (xs:=vs') (fun i σ H2=>∃(v2:Option V),σ =[some (.ref p),some (.ref fl),v2]/\Zk H H2/\TF K H1 H2/\H2 fl=some (.lst ((((toL (ptE e)).take i).flatMap (nm true)).map V.str)))
  ⟨none,rfl,s01,TF.refl,h1⟩ ?_ ?_ ?_⟩
 ·rintro i σ H2 _ ⟨v2,_,sm,tf,hp2⟩;exact tf _ _ e1
 ·rintro i x σ H2 hx ⟨v2,rfl,sm,tf,hp2⟩;obtain⟨pa,ea,rfl,hea,hra⟩:=hr1.get hx;obtain⟨m1,m2⟩:=Zhr (List.mem_of_getElem? hea);refine⟨_,rfl,.inl ⟨rfl,_,SqL.of hp2⟩,_,rfl,pa,ea,rfl,hra.mono tf,by lia,by lia,fun l3 H3 s3 f3 e3=>?_⟩;have n3:l3≠fl:=fun z=>by rw[z,hp2] at f3;cases f3
  refine⟨fl,l3,_,_,rfl,rfl,s3 _ _ hp2,e3,?_,?_⟩
  ·have:=Zcf (nm true) (toL (ptE e)) (i+1);have h9:=congrArg List.length (Zfn (b:=true) hea);rw[List.length_append] at h9;rw[h9,List.length_map];rw[<- hfm] at this;exact Zj (by lia)
  ·refine⟨_,rfl,?_,?_,?_⟩
   ·intro b o hb;have:b≠fl:=fun z=>by rw[z,hfl] at hb;cases hb
    rw[Zu this];exact s3 _ _ (sm _ _ hb)
   ·exact(tf.trans (TF.same s3)).trans (TF.lst (s3 _ _ hp2))
   ·rw[Zb,Zfn hea]
 rintro σ H2 ⟨v2,rfl,sm,tf,hp2⟩;rw[hvl,<- hcl,List.take_length,<- hfm] at hp2;exact⟨_,rfl,q fl H2 sm hfl hp2⟩
set_option maxHeartbeats 1000000 in
theorem Zdw(d:Nat)(B:∀x∈ZbK,mg x=none)(g_parts_of:Has P w K mg base "parts_of" ["expr"] 1 (ZbB K)) (g_names_outside:Has P w K mg base "names_outside" ["expr"] (d+1) (Zlr K false d)) (F:Fun K "names_outside" "names_outside" ZaC f fd):FnOk P w K mg base CX0 (d+2) f fd ["expr"] (Zlr K false (d+1)):=by
 refine F.ok Zbw (fun vs H Q E h=>?_) (fun cdv A outer s H vs Q E hr h=>?_)
 ·obtain⟨p,e,rfl,_⟩:=h;rfl
 obtain⟨p,e,rfl,hR,hd,hs,q⟩:=h;refine⟨_,(Zh (Zad (ZC ZaV (Z9 Zaf (pv 0) Zg (fun _ _=>rfl)) Zo (ZM _))
   (Zi (ZL (Zb6 (Za (Z9 Zaf (pv 0) Zg (fun _ _=>rfl)) Zd))))
   Zx)
  (Zh (Zad (ZC ZaV (Z9 Zaf (pv 0) Zg (fun _ _=>rfl)) Zo (ZM _))
   (Zi (ZL (Zb6 Zd)))
   Zx)
  (Zh (ZD (i:=1) Zbw.nd rfl (Or.inl rfl) (Zb6 Zd))
  (Zh (Zch PassesOwn.never rfl (Zdt (ZR g_parts_of hr rfl (Za (pv 0) Zd) (by lia))) (ZV (i:=2) Zbw.nd rfl (Or.inl rfl))
   (Zi (Zaw (ZbT PySem.F.plainAttrs_list PySem.F.slot_list_extend PySem.F.type_list_extend Zf5 (pv 1) (Za (ZR g_names_outside hr rfl (Za (pv 2) Zd) (by lia)) Zd)))))
  (Zi (ZL (pv 1))))))),?_⟩
 obtain⟨r,ht,_⟩:=hR.top;refine⟨_,rfl,p,_,0,_,rfl,rfl,ht,at0,rfl,_,rfl,ZaU (fun z=>?_) (fun z=>?_)⟩
 ·have z:V.str (kw e)=V.str "name" := of_decide_eq_true z;injection z with z;obtain⟨n,rfl,hn⟩:=hR.name_of z;exact⟨_,rfl,p,_,1,_,rfl,rfl,hn,rfl,(by show 1<=sizeLine;decide),fun l hl=>q l _ (Zk.new hl) hl Zb⟩
 have hk:kw e ≠ "name" := fun k=>z (decide_eq_true (by rw[k]));refine⟨_,rfl,p,_,0,_,rfl,rfl,ht,at0,rfl,_,rfl,ZaU (fun z=>?_) (fun z=>?_)⟩
 ·have z:V.str (kw e)=V.str "tag" := of_decide_eq_true z;injection z with z;refine⟨(by show 0<=sizeLine;decide),fun l hl=>q l _ (Zk.new hl) hl ?_⟩;have:nm false e=[]:=by
   cases e with
   | tag t i=>rfl
   | nil=>rfl
   | name n=>exact absurd rfl hk
   | several b ps=>exact absurd z (by show ¬ ZeF b=_;cases b <;> decide)
   | rep m p=>exact absurd z (by show ¬ ZbI m=_;unfold ZbI;split;decide;split <;> decide)
  rw[Zb,this];rfl
 have hk2:kw e ≠ "tag" := fun k=>z (decide_eq_true (by rw[k]));refine⟨(by show 0<=sizeLine;decide),fun fl hfl=>?_⟩;have s0:Zk H (upd H fl (.lst [])):=Zk.new hfl;refine⟨_,rfl,p,e,rfl,hR.mono (TF.same s0),fun ra vs' H1 s1 e1 hr1=>?_⟩;have hvl:=hr1.length;have hcl:=ZdP (ptE e);have hfm:=ZhJ false e hk (.inr hk2);have hnl:=ZeN false e;have h1:H1 fl=some (.lst []):=s1 _ _ Zb;have s01:=s0.trans s1;refine⟨ra,rfl,⟨vs',e1⟩,ZeR (K:=K) (a:=ra) (xs:=vs') (fun i σ H2=>∃(v2:Option V),σ =[some (.ref p),some (.ref fl),v2]/\Zk H H2/\TF K H1 H2/\H2 fl=some (.lst ((((toL (ptE e)).take i).flatMap (nm false)).map V.str)))
  ⟨none,rfl,s01,TF.refl,h1⟩ ?_ ?_ ?_⟩
 ·rintro i σ H2 _ ⟨v2,_,sm,tf,hp2⟩;exact tf _ _ e1
 ·rintro i x σ H2 hx ⟨v2,rfl,sm,tf,hp2⟩;obtain⟨pa,ea,rfl,hea,hra⟩:=hr1.get hx;obtain⟨m1,m2⟩:=Zhr (List.mem_of_getElem? hea);refine⟨_,rfl,.inl ⟨rfl,_,SqL.of hp2⟩,_,rfl,pa,ea,rfl,hra.mono tf,by lia,by lia,fun l3 H3 s3 f3 e3=>?_⟩;refine⟨fl,l3,_,_,rfl,rfl,s3 _ _ hp2,e3,?_,?_⟩
  ·have:=Zcf (nm false) (toL (ptE e)) (i+1);have h9:=congrArg List.length (Zfn (b:=false) hea);rw[List.length_append] at h9;rw[h9,List.length_map];rw[<- hfm] at this;exact Zj (by lia)
  ·refine⟨_,rfl,?_,?_,?_⟩
   ·intro b o hb;have:b≠fl:=fun z=>by rw[z,hfl] at hb;cases hb
    rw[Zu this];exact s3 _ _ (sm _ _ hb)
   ·exact(tf.trans (TF.same s3)).trans (TF.lst (s3 _ _ hp2))
   ·rw[Zb,Zfn hea]
 rintro σ H2 ⟨v2,rfl,sm,tf,hp2⟩;rw[hvl,<- hcl,List.take_length,<- hfm] at hp2;exact⟨_,rfl,q fl H2 sm hfl hp2⟩
def ZkF(K:PySem.W.Frag)(d:Nat):Sp:=fun vs H Q _=>∃p e,vs=[.ref p]/\RepK K H p e/\dp e<d/\sz e<=500/\wfE e/\∀H',Zk H H'->Q (.int ((dp e:Int)+1)) H'
theorem ZjM:∀{e x:Ex},wfE e->x∈toL (ptE e)->wfE x
 | .nil,_,_,h=>nomatch h
 | .tag _ i,x,w,h=>by rw[List.mem_singleton.mp h];exact w.2
 | .name _,_,_,h=>nomatch h
 | .several _ ps,x,w,h=>ZdI w.2 h
 | .rep _ p,x,w,h=>by rw[List.mem_singleton.mp h];exact w.2
theorem ZlB:∀{ps:Exs},1<=cnt ps->∃e∈toL ps,dp e=dps ps
 | .cons e .nil,_=>⟨e,List.mem_cons_self ..,(by show dp e=max (dp e) 0;lia)⟩
 | .cons e (.cons f r),_=>by
  obtain⟨x,hx,h⟩:=ZlB (ps:=.cons f r) (by show 1<=cnt r+1;lia);by_cases c:dp e<=dps (.cons f r)
  ·exact⟨x,List.mem_cons_of_mem _ hx,by rw[h];show _=max (dp e) (dps (.cons f r));lia⟩
  ·exact⟨e,List.mem_cons_self ..,by show _=max (dp e) (dps (.cons f r));lia⟩
 | .nil,h=>absurd h (by show ¬ 1<=0;decide)
theorem ZkS:∀{e:Ex},wfE e->(toL (ptE e)=[]->dp e=0)/\(toL (ptE e) ≠ []->∃x∈toL (ptE e),dp e=dp x+1)
 | .nil,_=>⟨fun _=>rfl,fun h=>absurd rfl h⟩
 | .tag _ i,_=>⟨(fun h=>nomatch h),fun _=>⟨i,List.mem_cons_self ..,rfl⟩⟩
 | .name _,_=>⟨fun _=>rfl,fun h=>absurd rfl h⟩
 | .several _ ps,w=>by
  have h2:2<=cnt ps:=w.1;have hl:=ZdP ps;refine⟨fun h=>?_,fun _=>?_⟩
  ·have:(toL ps).length=0:=congrArg List.length h;lia
  ·obtain⟨x,hx,h⟩:=ZlB (ps:=ps) (by lia);exact⟨x,hx,by show dps ps+1=_;rw[h]⟩
 | .rep _ p,_=>⟨(fun h=>nomatch h),fun _=>⟨p,List.mem_cons_self ..,rfl⟩⟩
set_option maxHeartbeats 1000000 in
theorem Zgo(d:Nat)(B:∀x∈ZbK,mg x=none)(g_parts_of:Has P w K mg base "parts_of" ["expr"] 1 (ZbB K)) (g_depth_of:Has P w K mg base "depth_of" ["expr"] (d+1) (ZkF K d)) (F:Fun K "depth_of" "depth_of" ZbC f fd):FnOk P w K mg base CX0 (d+2) f fd ["expr"] (ZkF K (d+1)):=by
 refine F.ok Zgx (fun vs H Q E h=>?_) (fun cdv A outer s H vs Q E hr h=>?_)
 ·obtain⟨p,e,rfl,_⟩:=h;rfl
 obtain⟨p,e,rfl,hR,hd,hs,hw,q⟩:=h;have hu:=ZdZ hr;refine⟨_,(Zi (ZL (Zw Za9 Zg (ZkE hu rfl rfl (B "max" (by decide)) (Za (ZcP (cl:=[]) ["part"] [] (Zdt (ZR g_parts_of hr rfl (Za (pv 0) Zd) (by lia))) (fun _ _ _ _=>(ZV (i:=0) nd1 rfl (Or.inl rfl))) (fun _ _ _ _=>(ZR g_depth_of hr rfl (Za (pv 0) Zd) (by lia))) rfl rfl (by decide) rfl (by decide) (fun _ _ h=>nomatch h) (Zds (by decide)) (fun _ _ h=>nomatch h) (fun _=>rfl)) Zd) Zg)))),?_⟩
 have hsz:=Zl9 e;refine⟨_,rfl,p,e,rfl,hR,fun ra vs' H1 s1 e1 hr1=>?_⟩;have hvl:=hr1.length;have hcl:=Zhl (ptE e);have htl:=ZdP (ptE e);refine⟨ra,rfl,⟨vs',e1⟩,fun pl hpl=>Zc6 (K:=K) (a:=ra) (p:=pl) (xs:=vs') (fun i ys σ H2=>∃(v0:Option V)(ns:List Int),σ =[v0]/\Zk H1 H2/\H2 pl=some (.lst ys)/\ys=ns.map V.int/\ns=((toL (ptE e)).take i).map fun x=>(dp x:Int)+1)
  ⟨none,[],rfl,Zk.new hpl,Zb,rfl,rfl⟩ ?_ ?_ ?_⟩
 ·rintro i ys σ H2 _ ⟨v0,ns,_,sm,hp2,_⟩;exact⟨(TF.same sm _ _ e1),hp2⟩
 ·rintro i ys x σ H2 hi hx ⟨v0,ns,rfl,sm,hp2,rfl,hn⟩;obtain⟨pa,ea,rfl,hea,hra⟩:=hr1.get hx;obtain⟨m1,m2⟩:=Zhr (List.mem_of_getElem? hea);obtain⟨hi1,hi2⟩:=List.getElem?_eq_some_iff.mp hea;refine⟨_,rfl,pa,ea,rfl,hra.mono (TF.same sm),by lia,by lia,ZjM hw (List.mem_of_getElem? hea),fun H3 s3=>⟨s3 _ _ hp2,Z3 (by rw[List.length_map,hn,List.length_map,List.length_take];lia),CW.next hi ⟨_,ns ++ [(dp ea:Int)+1],rfl,(sm.trans s3).upd_new hpl,Zb,by simp,?_⟩⟩⟩
  rw[hn,List.take_succ_eq_append_getElem hi1,List.map_append,hi2];rfl
 rintro ys σ H2 ⟨v0,ns,_,sm,hp2,rfl,hn⟩;have s2:=s1.trans sm;rw[hvl,<- htl,List.take_length] at hn;obtain⟨d1,d2⟩:=ZkS hw;refine⟨pl,ns,rfl,SqL.of hp2,fun p3 hp3=>⟨fun o=>SqL.of (by rw[Zu (ZK hp2 hp3)];exact hp2),fun h0=>?_,fun M hM hmx=>?_⟩⟩
 ·have h0:toL (ptE e)=[]:=by
   rw[h0] at hn;exact List.map_eq_nil_iff.mp hn.symm
  refine⟨_,_,rfl,rfl,?_⟩;have e1:(1:Int)+0=(dp e:Int)+1:=by rw[d1 h0];rfl
  show Q (.int ((1:Int)+0)) _;rw[e1];exact q _ (s2.trans (Zk.new hp3))
 ·rw[hn] at hM;obtain⟨y,hy,rfl⟩:=List.mem_map.mp hM;obtain⟨x,hx,ex⟩:=d2 fun z=>by rw[z] at hy;cases hy
  have h1:=hmx ((dp x:Int)+1) (by rw[hn];exact List.mem_map.mpr ⟨x,hx,rfl⟩);have h2:=(Zhr hy).1;refine⟨_,_,rfl,rfl,?_⟩;have e1:(1:Int)+((dp y:Int)+1)=(dp e:Int)+1:=by lia
  show Q (.int ((1:Int)+((dp y:Int)+1))) _;rw[e1];exact q _ (s2.trans (Zk.new hp3))
theorem Zog{X:Cx}{tg l:Expr}{tl:TE}(hl:PE X l tl):PI X tg l (fun σ H R=>ZlP X.K tl σ H R\/ZoR X.K tl σ H R):=by
 intro pins s σ H R I h;rcases h with h|h
 ·exact Zb1 hl pins s σ H R I h
 ·exact Zdt hl pins s σ H R I h
def BkP(K:PySem.W.Frag)(H:Hp)(v:V)(x:Str×Ex):Prop := ∃p q,v=.ref p/\H p=some (.tup [.str x.1,.ref q])/\RepK K H q x.2
def BkR(K:PySem.W.Frag)(H:Hp)(vs:List V)(bk:List (Str×Ex)):Prop:=Paired (BkP K H) vs bk
theorem BkP.keep{K:PySem.W.Frag}{H H':Hp}(k:TK H H')(t:TF K H H'){v:V}{x:Str×Ex}(h:BkP K H v x):BkP K H' v x:=by
 obtain⟨p,q,e,h1,h2⟩:=h;exact⟨p,q,e,k _ _ h1,h2.mono t⟩
theorem BkR.keep{K:PySem.W.Frag}{H H':Hp}(k:TK H H')(t:TF K H H'){vs:List V}{bk:List (Str×Ex)}(h:BkR K H vs bk):BkR K H' vs bk:=Paired.mapP h fun _ _ z=>z.keep k t
theorem BkR.same{K:PySem.W.Frag}{H H':Hp}(s:Zk H H'){vs:List V}{bk:List (Str×Ex)}(h:BkR K H vs bk):BkR K H' vs bk:=h.keep s.tk (TF.same s)
theorem ZaP{α β : Type}{F : α -> β -> Prop}:∀{l₁ : List α}{l₂ : List β}{i:Nat}{a : α},Paired F l₁ l₂ -> l₁[i]?= some a->∃b,l₂[i]?= some b/\F a b
 | _,_,i,_,.nil,h=>by simp at h
 | _,_,0,_,.cons h _,e=>by cases e;exact⟨_,rfl,h⟩
 | _,_,i+1,a,.cons _ r,e=>by
  obtain⟨b,h1,h2⟩:=ZaP (i:=i) (a:=a) r (by simpa using e);exact⟨b,by simpa using h1,h2⟩
def prT(x:Str×Ex):Str:=x.1 ++ " = " ++ tx x.2
def bkT(bk:List (Str×Ex)):Str:=Txt.join "; " (bk.map prT)
theorem Zlq(x:Str×Ex):cs (prT x)=Zbz x.1 x.2:=by
 unfold prT Zbz;rw[ZQ,ZQ,List.append_assoc];rfl
theorem ZdG(x:Str×Ex)(bk:List (Str×Ex)):cs (bkT (x::bk))=Zbz x.1 x.2++bk.flatMap fun y=>[59,32]++Zbz y.1 y.2:=by
 unfold bkT;rw[List.map_cons,Zfc,Zd5,List.flatMap_map,Zlq]
 congr 1
 refine congrArg (fun f=>List.flatMap f bk) (funext fun y=>?_);rw[Zlq];rfl
def Bk1(x:Str×Ex):Prop:=x.1.length<=8/\dp x.2<16/\sz x.2<=500/\w8 x.2
theorem ZgC{x:Str×Ex}(h:Bk1 x):(prT x).length<=10020:=by
 have:=ZcB x.2 h.2.2.2;have h1:=h.1;have h2:=h.2.2.1;unfold prT;rw[Zn,Zn];show _+3+_<=_;lia
theorem ZiZ:∀{bk:List (Str×Ex)},(∀x∈bk,Bk1 x)->((bk.map prT).map (·.length)).sum<=10020*bk.length
 | [],_=>Nat.le_refl _
 | x::bk,h=>by
  have h1:=ZgC (h x (List.mem_cons_self ..));have h2:=ZiZ (bk:=bk) fun y hy=>h y (List.mem_cons_of_mem _ hy);simp only[List.map_cons,List.sum_cons,List.length_cons];lia
def Zgy(K:PySem.W.Frag):Sp:=fun vs H Q _=>∃p ws bk,vs=[.ref p]/\(SqL K H p ws\/SqT K H p ws)/\BkR K H ws bk/\bk.length<=30/\(∀x∈bk,Bk1 x)/\∀H',Zk H H'->Q (.str (bkT bk)) H'
set_option maxHeartbeats 1000000 in
theorem Zk9(B:∀x∈ZbK,mg x=none)(g_shown_expr:Has P w K mg base "shown_expr" ["expr"] 33 (ZcE K 16)) (F:Fun K "shown" "shown" Zdi f fd):FnOk P w K mg base CX0 34 f fd ["book"] (Zgy K):=by
 refine F.ok ZkB (fun vs H Q E h=>?_) (fun cdv A outer s H vs Q E hr h=>?_)
 ·obtain⟨p,ws,bk,rfl,_⟩:=h;rfl
 obtain⟨p,ws,bk,rfl,hS,hB,hl,h1,q⟩:=h;refine⟨_,(Zi (ZL (ZbT PySem.F.plainAttrs_str PySem.F.slot_str_join PySem.F.type_str_join Zdl Zo (Za (ZcP (cl:=[]) ["name","expr"] [] (K23.Zog (pv 0)) (fun _ _ _ _=>(Zgl (K:=K) (n:=2) rfl rfl (Zar (ZV (i:=0) (show List.Nodup (["name","expr"]:List Str) by decide) rfl (Or.inl rfl)) (Zar (ZV (i:=1) (show List.Nodup (["name","expr"]:List Str) by decide) rfl (Or.inl rfl)) Zb0)))) (fun _ _ _ _=>(Zw Zr (Zw Zr (pv 0) Zo) (ZR g_shown_expr hr rfl (Za (pv 1) Zd)))) rfl rfl (by decide) rfl (by decide) (fun _ _ h=>nomatch h) (Zds (by decide)) (fun _ _ h=>nomatch h) (fun _=>rfl)) Zd)))),?_⟩
 have hlen:ws.length=bk.length:=Paired.length hB;have hsum:=ZiZ h1;refine⟨rfl,?_⟩;rcases hS with hS|hS
 ·refine .inl ⟨_,rfl,p,rfl,⟨ws,hS⟩,fun pl hpl=>Zcd (K:=K) (a:=p) (p:=pl) (xs:=ws) (fun i ys σ H2=>∃v0 v1:Option V,σ =[v0,v1]/\Zk H H2/\H2 pl=some (.lst ys)/\ys=((bk.map prT).take i).map V.str)
   ⟨none,none,rfl,Zk.new hpl,Zb,rfl⟩ ?_ ?_ ?_⟩
  ·rintro i ys σ H2 _ ⟨v0,v1,_,sm,hp2,_⟩;exact⟨sm.seq hS,hp2⟩
  ·rintro i ys x σ H2 hi hx ⟨v0,v1,rfl,sm,hp2,rfl⟩;obtain⟨x,hx1,pp,qq,rfl,e1,e2⟩:=ZaP hB hx;obtain⟨b1,b2,b3,b4⟩:=h1 x (List.mem_of_getElem? hx1);have htl:=ZcB x.2 b4;refine⟨pp,_,rfl,SqT.of (sm _ _ e1),rfl,_,_,rfl,_,_,rfl,rfl,?_⟩;refine⟨_,rfl,_,_,rfl,rfl,Zj (by show _+3<=_;lia),?_⟩;refine⟨_,rfl,qq,x.2,rfl,e2.mono (TF.same sm),b2,b3,b4,fun H3 s3=>?_⟩;refine⟨_,_,rfl,rfl,?_,s3 _ _ hp2,Z3 (by rw[List.length_map,List.length_take,List.length_map];lia),CW.next hi ⟨_,_,rfl,(sm.trans s3).upd_new hpl,Zb,?_⟩⟩
   ·have:(x.1 ++ " = " ++ tx x.2).length<=10020:=ZgC (h1 x (List.mem_of_getElem? hx1));rw[Zn] at this;exact Nat.le_trans this (by decide)
   ·obtain⟨hi1,hi2⟩:=List.getElem?_eq_some_iff.mp hx1;rw[List.take_succ_eq_append_getElem (by rw[List.length_map];exact hi1),List.map_append,List.getElem_map,hi2];rfl
  ·rintro ys σ H2 ⟨v0,v1,_,sm,hp2,rfl⟩;rw[hlen,show bk.length=(bk.map prT).length by rw[List.length_map],List.take_length] at hp2;refine⟨"; ",pl,bk.map prT,rfl,rfl,SqL.of hp2,?_,q H2 sm⟩;rw[List.length_map];show _+_*2<=_;lia
 ·refine .inr ⟨_,rfl,p,rfl,⟨ws,hS⟩,fun pl hpl=>Zc6 (K:=K) (a:=p) (p:=pl) (xs:=ws) (fun i ys σ H2=>∃v0 v1:Option V,σ =[v0,v1]/\Zk H H2/\H2 pl=some (.lst ys)/\ys=((bk.map prT).take i).map V.str)
   ⟨none,none,rfl,Zk.new hpl,Zb,rfl⟩ ?_ ?_ ?_⟩
  ·rintro i ys σ H2 _ ⟨v0,v1,_,sm,hp2,_⟩;exact⟨TF.same sm _ _ hS,hp2⟩
  ·rintro i ys x σ H2 hi hx ⟨v0,v1,rfl,sm,hp2,rfl⟩;obtain⟨x,hx1,pp,qq,rfl,e1,e2⟩:=ZaP hB hx;obtain⟨b1,b2,b3,b4⟩:=h1 x (List.mem_of_getElem? hx1);have htl:=ZcB x.2 b4;refine⟨pp,_,rfl,SqT.of (sm _ _ e1),rfl,_,_,rfl,_,_,rfl,rfl,?_⟩;refine⟨_,rfl,_,_,rfl,rfl,Zj (by show _+3<=_;lia),?_⟩;refine⟨_,rfl,qq,x.2,rfl,e2.mono (TF.same sm),b2,b3,b4,fun H3 s3=>?_⟩;refine⟨_,_,rfl,rfl,?_,s3 _ _ hp2,Z3 (by rw[List.length_map,List.length_take,List.length_map];lia),CW.next hi ⟨_,_,rfl,(sm.trans s3).upd_new hpl,Zb,?_⟩⟩
   ·have:(x.1 ++ " = " ++ tx x.2).length<=10020:=ZgC (h1 x (List.mem_of_getElem? hx1));rw[Zn] at this;exact Nat.le_trans this (by decide)
   ·obtain⟨hi1,hi2⟩:=List.getElem?_eq_some_iff.mp hx1;rw[List.take_succ_eq_append_getElem (by rw[List.length_map];exact hi1),List.map_append,List.getElem_map,hi2];rfl
  ·rintro ys σ H2 ⟨v0,v1,_,sm,hp2,rfl⟩;rw[hlen,show bk.length=(bk.map prT).length by rw[List.length_map],List.take_length] at hp2;refine⟨"; ",pl,bk.map prT,rfl,rfl,SqL.of hp2,?_,q H2 sm⟩;rw[List.length_map];show _+_*2<=_;lia
theorem ZjF{a:Addr}{H H0 H':Hp}(s:Zk H H0)(ha:H a=none)(b:Za1 a H0 H'):Zk H H':=fun x o h=>b x o (fun z=>by rw[z,ha] at h;cases h) (s x o h)
theorem TK.bar{a C dx:Addr}{fs:List (Str×V)}{H H':Hp}(b:Za1 a H H')(ha:H a=some (.ins C dx fs)):TK H H':=fun p xs h=>b p _ (fun z=>by rw[z,ha] at h;cases h) h
theorem BkR.snoc{K:PySem.W.Frag}{H:Hp}{vs:List V}{bk:List (Str×Ex)}{v:V}{x:Str×Ex}(h:BkR K H vs bk)(k:BkP K H v x):BkR K H (vs ++ [v]) (bk ++ [x]):=Paired.app h (.cons k .nil)
def Gd(T:Str)(bk:List (Str×Ex)):Prop:=T.length<=400/\Zcx (cs T)=some (bk,[])/\bkT bk=T/\bk.length<=8/\∀x∈bk,dp x.2<12
def Bnd(T:Str):Prop:=T.length<=400->∀x,Zcx (cs T)=some x->x.1.length<=30/\∀y∈x.1,Bk1 y/\wfE y.2
def ZgA(K:PySem.W.Frag)(XB:Addr):Sp:=fun vs H Q E=>∃T,vs=[.str T]/\T.length<=5000/\Bnd T/\(∀bk,Gd T bk->∀l o ws H',Zk H H'->H' l=some (.frz o (.tup ws))->o.dict=none->BkR K H' ws bk->Q (.ref l) H') /\
 ((∀bk,¬ Gd T bk)->∀H',Zk H H'->E (.ref XB) none H')
theorem Zhc{k:Nat}{acc:List (Str×Ex)}{t:List Nat}(h : ¬ [59,32] <+: t):pPs k acc t=some (acc,t):=by
 cases k with
 | zero=>rfl
 | succ k=>exact if_neg h
theorem Zln{k:Nat}{acc:List (Str×Ex)}{t:List Nat}(h:[59,32] <+: t):pPs (k+1) acc t=(match pPair (t.drop 2) with|none=>none|some x=>pPs k (acc ++ [x.1]) x.2):=if_pos h
theorem Zl5{t:List Nat}{x}(e:pPair t=some x):x.2 <:+ t:=by
 unfold pPair at e
 split at e
 ·cases e
 ·rename_i y hy
  split at e
  ·obtain⟨z,hz,rfl⟩:=Option.map_eq_some_iff.mp e;exact((ZkV 12 _ _ hz).trans (Zbv _ _)).trans (ZiO hy)
  ·cases e
def RdW(K:PySem.W.Frag)(C a dx pl:Addr)(T:Str)(A:Option (List (Str×Ex)×List Nat))(H0:Hp)(m:Nat)(σ : St)(H2:Hp):Prop := ∃(dn:List (Str×Ex))(vs:List V)(m2:Nat),σ =[some (.str T),some (.ref a),some (.ref pl)]/\Za1 a H0 H2/\Zcq C H2 a dx T m2/\m2<=T.length/\H2 pl=some (.lst vs)/\BkR K H2 vs dn/\pPs m dn (rsT T m2)=A/\(rsT T m2).length<=m/\vs.length+m<=401
set_option maxHeartbeats 2000000 in
theorem Zfm(B:∀x∈ZbK,mg x=none)(Cc1:∃t:Tok,mg "MOST_SIGNS" = some (.int 400 t)) (Cc2:∃t:Tok,mg "MOST_PAIRS" = some (.int 8 t)) (Cc3:∃t:Tok,mg "DEEPEST" = some (.int 12 t)) (c_Source:SrC K C) (xc:XC K mg X_GroveError X_NoBook X_TwiceNamed X_NoName X_Ring) (g_Source:HasC P w K mg base C "Source" ["self","text"] 1 (ZgP C)) (g_take_pair:HasX P w K mg base "take_pair" ["source"] 65 (ZiA K C X_NoBook)) (g_Source_skips:HasM P w K mg base C "skips" ["self","piece"] 2 (ZbN C)) (g_shown:Has P w K mg base "shown" ["book"] 34 (Zgy K)) (g_Source_at_end:HasM P w K mg base C "at_end" ["self"] 1 (ZhL C)) (g_depth_of:Has P w K mg base "depth_of" ["expr"] 17 (ZkF K 16)) (F:Fun K "read_pairs" "read_pairs" Zbb f fd):FnOk P w K mg base (CXE P w) 66 f fd ["text"] (ZgA K X_NoBook):=by
 refine F.okX ZbY (fun vs H Q E h=>?_) (fun cdv A outer s H vs Q E hr h=>?_)
 ·obtain⟨T,rfl,_⟩:=h;rfl
 obtain⟨T,rfl,hT5,hbn,q1,q2⟩:=h;obtain⟨t1,c_MOST_SIGNS⟩:=Cc1;obtain⟨t2,c_MOST_PAIRS⟩:=Cc2;obtain⟨t3,c_DEEPEST⟩:=Cc3;refine⟨_,(Zh (Zad (ZC Zkq (ZS ZaX rfl (B "len" (by decide)) PySem.boot_len (Za (pv 0) Zd)) (ZaA (v:=.int 400) rfl c_MOST_SIGNS ⟨_,rfl⟩) (ZM _))
   (Zi (Zbj xc.top_NoBook xc.ini_NoBook xc.n_NoBook Zz hr rfl (Za Zo Zd)))
   Zx)
  (Zh (ZD (i:=1) ZbY.nd rfl (Or.inl rfl) (Zl7 g_Source hr rfl (Za (pv 0) Zd)))
  (Zh (ZD (i:=2) ZbY.nd rfl (Or.inl rfl) (Zb6 (Za (ZcL g_take_pair Zz hr rfl (Za (pv 1) Zd)) Zd)))
  (Zh (ZbL PassesOwn.leaving (ZW (Zbp g_Source_skips hr (pv 1) c_Source.cls (Za Zo Zd)) (fun _=>rfl))
   (Zi (Zaw (ZbT PySem.F.plainAttrs_list PySem.F.slot_list_append PySem.F.type_list_append ZaM (pv 2) (Za (ZcL g_take_pair Zz hr rfl (Za (pv 1) Zd)) Zd)))))
  (Zh (Zad (PW.pt (Zk5 (Zb4 (ZW (Zhb g_Source_at_end hr (pv 1) c_Source.cls) (fun _=>rfl))) (Zhj (ZC Zh6 (ZR g_shown hr rfl (Za (pv 2) Zd)) (pv 0) (ZM _)))))
   (Zi (Zbj xc.top_NoBook xc.ini_NoBook xc.n_NoBook Zz hr rfl (Za Zo Zd)))
   Zx)
  (Zh (Zad (ZC Zkq (ZS Zac rfl (B "len" (by decide)) PySem.boot_len (Za (pv 2) Zd)) (ZaA (v:=.int 8) rfl c_MOST_PAIRS ⟨_,rfl⟩) (ZM _))
   (Zi (Zbj xc.top_NoBook xc.ini_NoBook xc.n_NoBook Zz hr rfl (Za Zo Zd)))
   Zx)
  (Zh (Zad (ZW (ZS (Zhs rfl) rfl (B "any" (by decide)) ZlC (Za (ZcP (cl:=[]) ["name","expr"] [] (Zb1 (pv 2)) (fun _ _ _ _=>(Zgl (K:=K) (n:=2) rfl rfl (Zar (ZV (i:=0) (show List.Nodup (["name","expr"]:List Str) by decide) rfl (Or.inl rfl)) (Zar (ZV (i:=1) (show List.Nodup (["name","expr"]:List Str) by decide) rfl (Or.inl rfl)) Zb0)))) (fun _ _ _ _=>(Zbo Zkq (ZR g_depth_of hr rfl (Za (pv 1) Zd)) (ZaA (v:=.int 12) rfl c_DEEPEST ⟨_,rfl⟩) (ZM _))) rfl rfl (by decide) rfl (by decide) (fun _ _ h=>nomatch h) (Zds (by decide)) (fun _ _ h=>nomatch h) (fun _=>rfl)) Zd)) (fun _=>rfl))
   (Zi (Zbj xc.top_NoBook xc.ini_NoBook xc.n_NoBook Zz hr rfl (Za Zo Zd)))
   Zx)
  (Zi (ZL (ZaG Zep rfl (B "tuple" (by decide)) ZbZ (Za (pv 2) Zd))))))))))),?_⟩
 refine⟨_,rfl,T,rfl,Zj (by lia),_,_,rfl,rfl,_,rfl,ZaU (fun z=>?_) (fun z=>?_)⟩
 ·have z:(400:Int)<(T.length:Int):=of_decide_eq_true z;exact⟨by show 1<=1000;decide,fun y hy=>q2 (fun bk g=>by have:=g.1;lia) _ (Zk.new hy)⟩
 have hT:T.length<=400:=by
  have z : ¬ (400:Int)<(T.length:Int):=fun c=>z (decide_eq_true c);lia
 have hb:=hbn hT;refine⟨_,rfl,fun a dx ha hdx hne=>⟨a,dx,T,rfl,Zb,fun H1 b1 h1=>⟨rfl,?_⟩⟩⟩;have s0:Zk H (upd (upd H dx (.own a)) a (.ins C dx [])):=making ha hdx hne;generalize upd (upd H dx (.own a)) a (.ins C dx [])=H0 at s0 b1 ⊢;refine⟨_,rfl,a,dx,T,0,rfl,h1,Nat.zero_le _,hT,fun x hx pp qq n2 H2 b2 h2 l2 e2 ep rp=>?_,fun hx H2 b2=>?_⟩;rotate_left
 ·refine q2 (fun bk g=>?_) H2 (ZjF s0 ha (b1.trans b2));have:=g.2.1;unfold Zcx at this;rw[show cs T=rsT T 0 from rfl,hx] at this;cases this
 refine⟨(by show(1:Nat)<=sizeLine;decide),fun pl hpl=>?_⟩;have npa:pl≠a:=fun z=>by rw[z,show H2 a=some _ from h2] at hpl;cases hpl
 have s3:Zk H2 (upd H2 pl (.lst [.ref pp])):=Zk.new hpl;have b02:=b1.trans b2;obtain⟨A,hA⟩:∃A,pPs x.2.length [x.1] x.2=A:=⟨_,rfl⟩;have hBk:Zcx (cs T)=A:=by
  unfold Zcx;rw[show cs T=rsT T 0 from rfl,hx];exact hA
 have hsz:=ZcD (T:=T) (n:=n2);refine⟨RdW K C a dx pl T A H0,⟨x.2.length,[x.1],[.ref pp],n2,rfl,b02.trans (Za1.same s3),s3 _ _ h2,l2,Zb,.cons ⟨pp,qq,rfl,s3 _ _ ep,rp.mono (TF.same s3)⟩ .nil,by rw[e2];exact hA,by rw[e2];exact Nat.le_refl _,by rw[<- e2];show 1+_<=_;lia⟩,?_⟩;rintro m σ H3 ⟨dn,vs,m2,rfl,b3,h3,hm2,hv,hB,hA2,hk,hle⟩;have hvl:vs.length=dn.length:=Paired.length hB;refine⟨_,rfl,a,dx,_,rfl,h3,rfl,a,dx,T,m2,"; ",rfl,h3,hm2,(by decide),fun z=>?_,fun z H4 b4 h4=>?_⟩
 ·rw[Zhc z] at hA2;rw[<- hA2] at hBk;refine⟨_,rfl,ZbO ?_⟩;have hsz2:=ZcD (T:=T) (n:=m2);refine⟨_,rfl,a,dx,_,rfl,h3,rfl,a,dx,T,m2,rfl,h3,by lia,_,rfl,?_⟩;by_cases hend:m2=T.length;rotate_left
  ·rw[decide_eq_false hend];refine Zcn (Zcn ⟨by show 1<=1000;decide,fun y hy=>q2 (fun bk g=>?_) _ ((ZjF s0 ha b3).trans (Zk.new hy))⟩);have:=g.2.1;rw[hBk] at this;have:=congrArg (fun o=>(o.map fun y:List (Str×Ex)×List Nat=>y.2.length)) this;have:some (rsT T m2).length=some 0:=this;injection this with this;lia
  rw[decide_eq_true hend];have er:rsT T m2=[]:=List.length_eq_zero_iff.mp (by lia);rw[er] at hBk;obtain⟨hb30,hbk⟩:=hb _ hBk;have hb30:dn.length<=30:=hb30;have hbk:∀y∈dn,Bk1 y/\wfE y.2:=hbk;have only:∀bk,Gd T bk->bk=dn:=fun bk g=>by
   have:=g.2.1;rw[hBk] at this;exact(congrArg Prod.fst (Option.some.inj this)).symm
  refine ZbO ?_;refine⟨_,rfl,pl,vs,dn,rfl,.inl (SqL.of hv),hB,hb30,fun y hy=>(hbk y hy).1,fun H4 s4=>?_⟩;have s04:=(ZjF s0 ha b3).trans s4;refine⟨_,rfl,rfl,_,rfl,ZaU (fun z=>?_) (fun z=>?_)⟩
  ·refine⟨by show 1<=1000;decide,fun y hy=>q2 (fun bk g=>?_) _ (s04.trans (Zk.new hy))⟩;have e:=g.2.2.1;rw[only bk g] at e;rw[e] at z;exact absurd z (by simp)
  have eT:bkT dn=T:=by
   by_cases e:bkT dn=T
   ·exact e
   ·refine absurd ?_ z;have:V.str (bkT dn)≠V.str T:=fun k=>e (by injection k)
    simpa using this
  refine⟨_,rfl,pl,_,rfl,.inl (SqL.of (s4 _ _ hv)),_,_,rfl,rfl,_,rfl,ZaU (fun z=>?_) (fun z=>?_)⟩
  ·have z:(8:Int)<(vs.length:Int):=of_decide_eq_true z;refine⟨by show 1<=1000;decide,fun y hy=>q2 (fun bk g=>?_) _ (s04.trans (Zk.new hy))⟩;have:=g.2.2.2.1;rw[only bk g] at this;lia
  have h8:dn.length<=8:=by
   have z : ¬ (8:Int)<(vs.length:Int):=fun c=>z (decide_eq_true c);lia
  refine⟨_,rfl,pl,rfl,⟨vs,SqL.of (s4 _ _ hv)⟩,fun p5 hp5=>Zcd (K:=K) (a:=pl) (p:=p5) (xs:=vs) (fun i ys σ H5=>∃v0 v1:Option V,σ =[v0,v1]/\Zk H4 H5/\H5 p5=some (.lst ys)/\ys=((dn.take i).map fun x=>decide ((dp x.2:Int)+1 > 12)).map V.bl)
   ⟨none,none,rfl,Zk.new hp5,Zb,rfl⟩ ?_ ?_ ?_⟩
  ·rintro i ys σ H5 _ ⟨v0,v1,_,sm,hp5',_⟩;exact⟨SqL.of (sm _ _ (s4 _ _ hv)),hp5'⟩
  ·rintro i ys x σ H5 hi hx ⟨v0,v1,rfl,sm,hp5',rfl⟩;obtain⟨x,hx1,p6,q6,rfl,e1,e2⟩:=ZaP hB hx;obtain⟨⟨b1,b2,b3,b4⟩,b5⟩:=hbk x (List.mem_of_getElem? hx1);obtain⟨hi1,hi2⟩:=List.getElem?_eq_some_iff.mp hx1;have s5:=s4.trans sm;refine⟨p6,_,rfl,SqT.of (s5 _ _ e1),rfl,_,_,rfl,_,_,rfl,rfl,?_⟩;refine⟨_,rfl,q6,x.2,rfl,e2.mono (TF.same s5),b2,b3,b5,fun H6 s6=>?_⟩;refine⟨_,_,rfl,rfl,s6 _ _ hp5',Z3 (by rw[List.length_map,List.length_map,List.length_take];lia),CW.next hi ⟨_,_,rfl,(sm.trans s6).upd_new hp5,Zb,?_⟩⟩
   rw[List.take_succ_eq_append_getElem hi1,List.map_append,List.map_append,hi2];rfl
  ·rintro ys σ H5 ⟨v0,v1,_,sm,hp5',rfl⟩;refine⟨p5,_,rfl,SqL.of hp5',_,rfl,?_⟩;have s5:=s4.trans sm;rw[hvl,List.take_length];cases hany:(dn.map fun x=>decide ((dp x.2:Int)+1 > 12)).any id with
   | true =>
    refine Zcn ⟨by show 1<=1000;decide,fun y hy=>q2 (fun bk g=>?_) _ ((s04.trans sm).trans (Zk.new hy))⟩;obtain⟨b,hb1,hb2⟩:=List.any_eq_true.mp hany;obtain⟨x,hx,rfl⟩:=List.mem_map.mp hb1;have h1:=of_decide_eq_true hb2;have h2:=g.2.2.2.2 x (by rw[only bk g];exact hx);lia
   | false =>
    refine ZbO ?_;refine⟨_,rfl,pl,vs,rfl,SqL.of (s5 _ _ hv),fun l o hl ho1 ho2=>?_⟩;have s6:Zk H5 (upd H5 l (.frz o (.tup vs))):=Zk.new hl;refine q1 dn ⟨hT,hBk,eT,h8,fun x hx=>?_⟩ l o vs _ ((ZjF s0 ha b3).trans (s5.trans s6)) Zb ho2 (hB.same (s5.trans s6));have:=List.any_eq_false.mp hany (decide ((dp x.2:Int)+1 > 12)) (List.mem_map.mpr ⟨x,hx,rfl⟩);have : ¬ ((dp x.2:Int)+1 > 12):=fun c=>this (decide_eq_true c);lia
 ·have n4:m2+2<=T.length:=ZcC z hm2;have hsz2:=ZcD (T:=T) (n:=m2);obtain⟨k,rfl⟩:∃k,m=k+1:=⟨m-1,by lia⟩;rw[Zln z,<- Zbu] at hA2;refine⟨_,rfl,Zcn ⟨fun σ' H'=>∃m',m'<k+1/\RdW K C a dx pl T A H0 m' σ' H',fun _ _ h=>h,?_⟩⟩;have h4:Zcq C H4 a dx T (m2+2):=h4;have hv4:H4 pl=some (.lst vs):=b4 pl _ npa hv;refine⟨_,rfl,.inl ⟨rfl,_,SqL.of hv4⟩,_,rfl,a,dx,T,m2+2,rfl,h4,n4,hT,fun y hy p7 q7 n7 H7 b7 h7 l7 e7 ep7 rp7=>?_,fun hy H7 b7=>?_⟩;rotate_left
  ·refine q2 (fun bk g=>?_) H7 (ZjF s0 ha ((b3.trans b4).trans b7));have:=g.2.1;rw[hBk,<- hA2,hy] at this;cases this
  rw[hy] at hA2;have hv7:H7 pl=some (.lst vs):=b7 pl _ npa hv4;refine⟨pl,vs,_,rfl,rfl,hv7,Z3 (by lia),?_⟩;have b47:=b4.trans b7;have hsf:=(Zl5 hy).length_le;have hsz3:=ZcD (T:=T) (n:=m2+2);refine⟨k,Nat.lt_succ_self _,dn ++ [y.1],_,n7,rfl,Za1.new b02 hpl npa (b3.trans b47),?_,l7,Zb,?_,by rw[e7];exact hA2,by rw[e7];lia,by rw[List.length_append];show _+1+_<=_;lia⟩
  ·show upd H7 pl _ a=_;rw[Zu npa.symm];exact h7
  ·have tk:=TK.lst (o:=.lst (vs ++ [.ref p7])) hv7;have tf:=TF.lst (K:=K) (ws:=vs ++ [.ref p7]) hv7;exact BkR.snoc (hB.keep ((TK.bar b47 h3).trans tk) ((TF.bar b47 h3).trans tf)) ⟨p7,q7,rfl,tk _ _ ep7,rp7.mono tf⟩
theorem ZfR{ns:List Str}{k:Str}:Zcw (ns.map fun n=>((Sum.inr n:Key),V.bl true)) (.inr k)=none↔k∉ns:=by
 induction ns with
 | nil=>exact⟨fun _ h=>(nomatch h),fun _=>rfl⟩
 | cons a r ih =>
  rw[List.map_cons];by_cases e:a=k
  ·rw[Za0 (by rw[e])];exact⟨fun h=>(nomatch h),fun h=>absurd (by rw[e];exact List.mem_cons_self ..) h⟩
  ·rw[Za4 (fun z=>e (Sum.inr.inj z)),ih,List.mem_cons];exact⟨fun h z=>z.elim (fun z=>e z.symm) h,fun h z=>h (.inr z)⟩
theorem putAll_has{bk:List (Str×Ex)}{f:Str×Ex->V}{k:Str}(h:k∈bk.map (·.1)){kvs:List (Key×V)}(e:kvs.map (·.1)=bk.map fun x=>(Sum.inr x.1:Key)):(Zcw (putAll kvs) (.inr k)).isSome=true:=by
 unfold putAll;rw[Zb3,Bool.or_eq_true];refine .inr (List.any_eq_true.mpr ?_);obtain⟨x,hx,rfl⟩:=List.mem_map.mp h;have:(Sum.inr x.1:Key)∈kvs.map (·.1):=by rw[e];exact List.mem_map.mpr ⟨x,hx,rfl⟩
 obtain⟨kv,h1,h2⟩:=List.mem_map.mp this;exact⟨kv,h1,decide_eq_true h2⟩
theorem BkR.kvs{K:PySem.W.Frag}{H:Hp}:∀{ws:List V}{bk:List (Str×Ex)},BkR K H ws bk->∃kvs:List (Key×V),kvs.map (·.1)=(bk.map fun x=>(Sum.inr x.1:Key))/\Paired (fun(y:V)(kv:Key×V)=>∃t,y=.ref t/\H t=some (.tup [kV kv.1,kv.2])) ws kvs
 | _,_,.nil=>⟨[],rfl,.nil⟩
 | _,_,.cons (b:=x) h r=>by
  obtain⟨kvs,h1,h2⟩:=BkR.kvs r;obtain⟨p,q,rfl,e1,_⟩:=h;exact⟨(.inr x.1,.ref q)::kvs,by rw[List.map_cons,h1];rfl,.cons ⟨p,rfl,e1⟩ h2⟩
theorem Zfg(l:List Str):(l.map V.str).all Zeo=true:=by
 induction l with
 | nil=>rfl
 | cons x l ih=>rw[List.map_cons,List.all_cons,ih];rfl
theorem Zj1{X:Cx}{K:PySem.W.Frag}(h:X.K=K)(hc:X.calm=true):ZbR X (.builtin "any") (fun xs H Q=>∃(p:Addr)(bs:List Bool),xs=[.ref p]/\SqL K H p (bs.map V.bl)/\Q (.bl (bs.any id)) H):=by
 subst h;exact Zhs hc
theorem Zle{X:Cx}{K:PySem.W.Frag}{tg l:Expr}{tl:TE}(h:X.K=K)(hl:PE X l tl):PI X tg l (ZlP K tl):=by
 subst h;exact Zb1 hl
def ZlG(us:Str->List Str)(ns:List Str):List Str:=ns.filter fun n=>(us n).any fun m=>ns.contains m
def UsR(H:Hp)(d:Addr)(ns:List Str)(us:Str->List Str):Prop := ∃kvs:List (Key×V),H d=some (.dK kvs)/\∀n∈ns,∃b,Zcw kvs (.inr n)=some (.ref b)/\H b=some (.lst ((us n).map V.str))/\(us n).length<=1000
theorem UsR.same{H H':Hp}{d:Addr}{ns:List Str}{us:Str->List Str}(s:Zk H H')(h:UsR H d ns us):UsR H' d ns us:=by
 obtain⟨kvs,h1,h2⟩:=h;refine⟨kvs,s _ _ h1,fun n hn=>?_⟩;obtain⟨b,e1,e2,e3⟩:=h2 n hn;exact⟨b,e1,s _ _ e2,e3⟩
theorem UsR.less{H:Hp}{d:Addr}{ns ms:List Str}{us:Str->List Str}(k:∀n∈ms,n∈ns)(h:UsR H d ns us):UsR H d ms us:=by
 obtain⟨kvs,h1,h2⟩:=h;exact⟨kvs,h1,fun n hn=>h2 n (k n hn)⟩
def ZmB(K:PySem.W.Frag):Sp:=fun vs H Q _=>∃d l ns us,vs=[.ref d,.ref l]/\UsR H d ns us/\SqL K H l (ns.map V.str)/\ns.length<=100/\∀l' H',Zk H H'->H' l'=some (.lst ((ZlG us ns).map V.str))->Q (.ref l') H'
theorem ZdK{α : Type}{g : α -> Bool}{l:List α}{i:Nat}{a : α}(h:l[i]?= some a):(l.take (i+1)).filter g=(l.take i).filter g++(if g a=true then [a] else []):=by
 obtain⟨hi,he⟩:=List.getElem?_eq_some_iff.mp h;rw[List.take_succ_eq_append_getElem hi,List.filter_append,he]
 congr 1
 rw[List.filter_cons,List.filter_nil]
set_option maxHeartbeats 2000000 in
theorem Zdn(B:∀x∈ZbK,mg x=none)(F:Fun K "ring_or_before" "ring_or_before" Zak f fd):FnOk P w K mg base CX0 1 f fd ["uses","names"] (ZmB K):=by
 refine F.ok Zdm (fun vs H Q E h=>?_) (fun cdv A outer s H vs Q E hr h=>?_)
 ·obtain⟨d,l,ns,us,rfl,_⟩:=h;rfl
 obtain⟨d,l,ns,us,rfl,hU,hS,hn,q⟩:=h;have hu1:(A.deeper (PyProof.Rows.envOfC (Str.ofString "ring_or_before") (Zf Zak) s.heap.objs.size f cdv)).units+1<cLine:=by have:=hr.un;lia
 refine⟨_,(Zi (ZL (Zes (cl:=_) ["name"] [("uses",0),("names",1)] (Zb1 (pv 1)) (fun _ _ _ _=>(ZV (i:=0) (show List.Nodup (["name","uses","names"]:List Str) by decide) rfl (Or.inl rfl))) (fun _ _ _ _=>(ZjU (K:=K) rfl (ZS (K23.Zj1 (K:=K) rfl rfl) rfl (B "any" (by decide)) ZlC (Za (ZcP (cl:=_) ["used"] [("names",2)] (K23.Zle (K:=K) rfl (Zgz hu1 (pv 1) (pv 0) (fun _ _=>rfl))) (fun _ _ _ _=>(ZV (i:=0) (show List.Nodup (["used","names"]:List Str) by decide) rfl (Or.inl rfl))) (fun _ _ _ _=>(Zbo (ZeQ (K:=K) rfl) (pv 0) (pv 1) (by with_unfolding_all rfl))) rfl rfl (by decide) rfl (by decide) (ZfG (by(repeat' first|exact List.forall_mem_nil _|refine List.forall_mem_cons.mpr ⟨?_,?_⟩) <;> rfl)) (ZdM (by(repeat' first|exact List.forall_mem_nil _|refine List.forall_mem_cons.mpr ⟨?_,?_⟩) <;> first|(intro h;exact⟨_,rfl⟩)|(intro h;exact absurd h (by decide)))) (fun _=>by(repeat' first|exact List.forall_mem_nil _|refine List.forall_mem_cons.mpr ⟨?_,?_⟩) <;> exact⟨rfl,rfl,Or.inl rfl⟩) (fun _=>rfl)) Zd)) (fun _=>rfl))) (fun _ _ _ _=>(pv 0)) rfl rfl (by decide) rfl (by decide) (ZfG (by(repeat' first|exact List.forall_mem_nil _|refine List.forall_mem_cons.mpr ⟨?_,?_⟩) <;> rfl)) (ZdM (by(repeat' first|exact List.forall_mem_nil _|refine List.forall_mem_cons.mpr ⟨?_,?_⟩) <;> first|(intro h;exact⟨_,rfl⟩)|(intro h;exact absurd h (by decide)))) (fun _=>by(repeat' first|exact List.forall_mem_nil _|refine List.forall_mem_cons.mpr ⟨?_,?_⟩) <;> exact⟨rfl,rfl,Or.inl rfl⟩) (fun _=>rfl)))),?_⟩
 refine⟨_,rfl,l,rfl,⟨_,hS⟩,fun pl hpl=>ZeM (K:=K) (a:=l) (p:=pl) (xs:=ns.map V.str) (fun i ys σ H2=>∃v0:Option V,σ =[v0,some (.ref d),some (.ref l)]/\Zk H H2/\H2 pl=some (.lst ys)/\ys=((ns.take i).filter fun n=>(us n).any fun m=>ns.contains m).map V.str)
  ⟨none,rfl,Zk.new hpl,Zb,rfl⟩ ?_ ?_ ?_⟩
 ·rintro i ys σ H2 _ ⟨v0,_,sm,hp2,_⟩;exact⟨sm.seq hS,hp2⟩
 ·rintro i ys x σ H2 hi hx ⟨v0,rfl,sm,hp2,rfl⟩;rw[List.getElem?_map] at hx;obtain⟨n,hx1,rfl⟩:=Option.map_eq_some_iff.mp hx;obtain⟨kvs,h1,h2⟩:=hU.same sm;obtain⟨b,e1,e2,e3⟩:=h2 n (List.mem_of_getElem? hx1);refine⟨_,rfl,_,rfl,d,.ref b,rfl,by rw[<- e1];exact Zgf.k (k:=.inr n) h1,b,rfl,⟨_,SqL.of e2⟩,fun p2 hp2n=>Zcd (K:=K) (a:=b) (p:=p2) (xs:=(us n).map V.str) (fun j ys σ H3=>∃v0:Option V,σ =[v0,some (.ref l)]/\Zk H2 H3/\H3 p2=some (.lst ys)/\ys=(((us n).take j).map fun m=>ns.contains m).map V.bl)
   ⟨none,rfl,Zk.new hp2n,Zb,rfl⟩ ?_ ?_ ?_⟩
  ·rintro j ys σ H3 _ ⟨v0,_,sm3,hp3,_⟩;exact⟨SqL.of (sm3 _ _ e2),hp3⟩
  ·rintro j ys x σ H3 hj hx ⟨v0,rfl,sm3,hp3,rfl⟩;rw[List.getElem?_map] at hx;obtain⟨m,hm1,rfl⟩:=Option.map_eq_some_iff.mp hx;refine⟨_,rfl,_,rfl,l,_,rfl,.inl ((sm.trans sm3).seq hS),rfl,Zfg ns,hp3,Z3 (by rw[List.length_map,List.length_map,List.length_take];lia),CW.next hj ⟨_,rfl,sm3.upd_new hp2n,Zb,?_⟩⟩
   obtain⟨hm2,hm3⟩:=List.getElem?_eq_some_iff.mp hm1;rw[List.take_succ_eq_append_getElem hm2,hm3,List.map_append,List.map_append];show _ ++ [V.bl (inV (.str m) (ns.map V.str))]=_;rw[Zd0];rfl
  ·rintro ys σ H3 ⟨v0,_,sm3,hp3,rfl⟩;rw[List.length_map,List.take_length] at hp3;refine⟨p2,_,rfl,SqL.of hp3,_,rfl,?_⟩;have eb:((us n).map fun m=>ns.contains m).any id=(us n).any fun m=>ns.contains m:=by rw[List.any_map];rfl
   rw[eb];have fx:=ZdK (g:=fun n=>(us n).any fun m=>ns.contains m) hx1;refine ZaU (fun z=>?_) (fun z=>?_)
   ·rw[if_pos z] at fx;refine⟨_,rfl,sm3 _ _ hp2,Z3 ?_,CW.next hi ⟨_,rfl,(sm.trans sm3).upd_new hpl,Zb,?_⟩⟩
    ·rw[List.length_map];have:=List.length_filter_le (fun n=>(us n).any fun m=>ns.contains m) (ns.take i);rw[List.length_take] at this;lia
    ·rw[fx,List.map_append];rfl
   ·rw[if_neg z,List.append_nil] at fx;exact CW.next hi ⟨_,rfl,sm.trans sm3,sm3 _ _ hp2,by rw[fx]⟩
 ·rintro ys σ H2 ⟨v0,_,sm,hp2,rfl⟩;rw[List.length_map,List.take_length] at hp2;exact q pl H2 sm hp2
theorem Zf8:∀(kvs m:List (Key×V)),((m++kvs).map (·.1)).Nodup->kvs.foldl (fun m kv=>putK m kv.1 kv.2) m=m++kvs
 | [],m,_=>(List.append_nil m).symm
 | kv::kvs,m,h=>by
  have h1:Zcw m kv.1=none:=by
   rw[<- Option.not_isSome_iff_eq_none,<- Zcu,List.any_eq_true];rintro⟨x,hx,e⟩;have e':=of_decide_eq_true e;rw[List.map_append,List.nodup_append] at h;exact h.2.2 x.1 (List.mem_map.mpr ⟨x,hx,rfl⟩) kv.1 (by rw[List.map_cons];exact List.mem_cons_self ..) e'
  rw[List.foldl_cons,Zhi _ h1,Zf8 kvs (m ++ [(kv.1,kv.2)]) (by rw[List.append_assoc];exact h),List.append_assoc];rfl
def usB(bk:List (Str×Ex))(n:Str):List Str:=((bk.find? fun x=>decide (x.1=n)).map fun x=>nm false x.2).getD []
theorem ZfZ:∀{bk:List (Str×Ex)}{x:Str×Ex},(bk.map (·.1)).Nodup->x∈bk->usB bk x.1=nm false x.2
 | a::bk,x,hn,hx=>by
  rw[List.map_cons,List.nodup_cons] at hn;unfold usB;rw[List.find?_cons];by_cases e:a.1=x.1
  ·rw[decide_eq_true e];rcases List.mem_cons.mp hx with rfl|hx
   ·rfl
   ·exact absurd (List.mem_map.mpr ⟨x,hx,e.symm⟩) hn.1
  ·rw[decide_eq_false e];rcases List.mem_cons.mp hx with rfl|hx
   ·exact absurd rfl e
   ·exact ZfZ hn.2 hx
def KvU(pl:Addr)(H:Hp)(kv:Key×V)(x:Str×Ex):Prop:=kv.1=.inr x.1/\∃b,b≠pl/\kv.2=.ref b/\H b=some (.lst ((nm false x.2).map V.str))
theorem ZjK{pl:Addr}{H:Hp}:∀{kvs:List (Key×V)}{bk:List (Str×Ex)}{x:Str×Ex},Paired (KvU pl H) kvs bk->(bk.map (·.1)).Nodup->x∈bk->∃b,Zcw kvs (.inr x.1)=some (.ref b)/\H b=some (.lst ((nm false x.2).map V.str))
 | _,_,_,.nil,_,h=>nomatch h
 | _,_,x,.cons (b:=y) h r,hn,hx=>by
  rw[List.map_cons,List.nodup_cons] at hn;obtain⟨h1,b,_,h2,h3⟩:=h;rcases List.mem_cons.mp hx with rfl|hx
  ·exact⟨b,by rw[Za0 h1,h2],h3⟩
  ·obtain⟨c,h4,h5⟩:=ZjK r hn.2 hx;refine⟨c,?_,h5⟩;rw[Za4,h4];rw[h1];intro z;exact hn.1 (List.mem_map.mpr ⟨x,hx,(Sum.inr.inj z).symm⟩)
theorem ZhB{pl:Addr}{H:Hp}:∀{kvs:List (Key×V)}{bk:List (Str×Ex)},Paired (KvU pl H) kvs bk->kvs.map (·.1)=(bk.map (·.1)).map fun n=>(Sum.inr n:Key)
 | _,_,.nil=>rfl
 | _,_,.cons h r=>by
  rw[List.map_cons,List.map_cons,List.map_cons,ZhB r,h.1]
def ZcG(C:Addr):Sp:=fun vs H Q _=>∃(y:Addr)(n:Str),vs=[.ref y,.str n]/\n.length<=1000/\H y=some (.ext (Zdg y (.ref C) none)) /\
 ∀dx,H dx=none->dx≠y->Q .non (upd (upd H dx (.xd [("name",.str n)])) y (.ext (Zdg y (.ref C) (some dx))))
theorem Zb9(B:∀x∈ZbK,mg x=none)(xc:XC K mg X_GroveError X_NoBook X_TwiceNamed X_NoName X_Ring)(F:Fun K "__init__" "TwiceNamed.__init__" Z1 f fd):FnOk P w K mg base CX0 1 f fd ["self","name"] (ZcG X_TwiceNamed):=by
 refine F.ok Zb7 (fun vs H Q E h=>?_) (fun cdv A outer s H vs Q E hr h=>?_)
 ·obtain⟨y,n,rfl,_⟩:=h;rfl
 obtain⟨y,n,rfl,hn,hy,q⟩:=h;refine⟨_,(Zh (Zaw (Zfj xc.bas rfl xc.n_GroveError (Za (pv 0) (Za (ZbS (Zbt (ZnR (pv 1)) (Zbt Zo ZeG))) Zd))))
  (Zi (Zgu (pv 0) (pv 1) rfl))),?_⟩
 have h1:(Str.empty++n).length<=sizeLine:=by rw[Zn];exact Zj (by show 0+n.length<=_;lia)
 have h2:(Str.empty++n++Str.ofString " has two pairs").length<=sizeLine:=by rw[Zn,Zn];exact Zj (by show 0+n.length+14<=_;lia)
 refine⟨_,rfl,_,rfl,.inl ⟨n,rfl,Zj (by lia),_,rfl,h1,_,rfl,h2,h2,?_⟩⟩;refine⟨y,X_TwiceNamed,X_GroveError,none,_,rfl,hy,xc.top_TwiceNamed,?_⟩;exact⟨_,rfl,_,rfl,y,X_TwiceNamed,X_GroveError,rfl,hy,xc.top_TwiceNamed,xc.f_TwiceNamed_name,fun dx h1 h2=>q dx h1 h2⟩
theorem Zde(B:∀x∈ZbK,mg x=none)(xc:XC K mg X_GroveError X_NoBook X_TwiceNamed X_NoName X_Ring)(F:Fun K "__init__" "NoName.__init__" Zan f fd):FnOk P w K mg base CX0 1 f fd ["self","name"] (ZcG X_NoName):=by
 refine F.ok Zc2 (fun vs H Q E h=>?_) (fun cdv A outer s H vs Q E hr h=>?_)
 ·obtain⟨y,n,rfl,_⟩:=h;rfl
 obtain⟨y,n,rfl,hn,hy,q⟩:=h;refine⟨_,(Zh (Zaw (Zfj xc.bas rfl xc.n_GroveError (Za (pv 0) (Za (ZbS (Zbt Zo (Zbt (ZnR (pv 1)) ZeG))) Zd))))
  (Zi (Zgu (pv 0) (pv 1) rfl))),?_⟩
 have h2:(Str.empty++Str.ofString "nothing is named " ++ n).length<=sizeLine:=by rw[Zn,Zn];exact Zj (by show 0+17+n.length<=_;lia)
 refine⟨_,rfl,_,rfl,by decide,_,rfl,.inl ⟨n,rfl,Zj (by lia),_,rfl,h2,h2,?_⟩⟩;refine⟨y,X_NoName,X_GroveError,none,_,rfl,hy,xc.top_NoName,?_⟩;exact⟨_,rfl,_,rfl,y,X_NoName,X_GroveError,rfl,hy,xc.top_NoName,xc.f_NoName_name,fun dx h1 h2=>q dx h1 h2⟩
theorem ZeB:∀ns:List Str,PyData.shownAll (ns.map PyData.str)=ns.map reprText
 | []=>rfl
 | n::ns=>by rw[List.map_cons,List.map_cons,<- ZeB ns];rfl
theorem ZhK:∀{ns:List Str},(∀n∈ns,Upr n/\n.length<=8)->((ns.map reprText).map (·.length)).sum<=100*ns.length
 | [],_=>Nat.le_refl _
 | n::ns,h=>by
  have h1:=h n (List.mem_cons_self ..);have lr:=PySem.StrLaws.reprText_len n (fun c hc=>Nat.lt_of_le_of_lt (h1.1.2 c hc).2 (by decide));have h2:=ZhK (ns:=ns) fun x hx=>h x (List.mem_cons_of_mem _ hx);have h3:=h1.2;simp only[List.map_cons,List.sum_cons,List.length_cons];lia
theorem Zkm{ns:List Str}(h8:ns.length<=8)(h:∀n∈ns,Upr n/\n.length<=8):(PyData.list (ns.map PyData.str)).shown.length<=1000:=by
 rw[PyData.shown_list,ZeB,Zn,Zn];have h1:=ZhK h;have h2:=PySem.StrLaws.join_length_le ", " (ns.map reprText);rw[List.length_map] at h2;have h3:ns.length*(Str.ofString ", ").length=ns.length*2:=rfl;show 1+_+1<=1000;lia
theorem ZfM(l:List Str):(PyData.list (l.map PyData.str)).hasDict=false:=by
 induction l with
 | nil=>rfl
 | cons a r ih=>simp_all [PyData.hasDict,PyData.hasDictAll]
theorem Ze3(l:List Str):(PyData.list (l.map PyData.str)).showable=true:=by
 induction l with
 | nil=>rfl
 | cons a r ih=>simp_all [PyData.showable,PyData.showableAll]
theorem ZhX(l:List Str):(PyData.list (l.map PyData.str)).depth<=190:=by
 induction l with
 | nil=>decide
 | cons a r ih=>simp_all [PyData.depth,PyData.depthAll]
theorem Zjs{K:PySem.W.Frag}{H:Hp}:∀ns:List Str,DpAll K H (ns.map V.str) (ns.map PyData.str)
 | []=>.nil
 | n::ns=>.cons (.str n) (Zjs ns)
def Zfd(K:PySem.W.Frag)(C:Addr):Sp:=fun vs H Q _=>∃(y l:Addr)(ns:List Str),vs=[.ref y,.ref l]/\H l=some (.lst (ns.map V.str))/\ns.length<=8/\(∀n∈ns,Upr n/\n.length<=8)/\H y=some (.ext (Zdg y (.ref C) none)) /\
 ∀l2 dx,H l2=none->(upd H l2 (.lst (ns.map V.str))) dx=none->dx≠y->Q .non (upd (upd (upd H l2 (.lst (ns.map V.str))) dx (.xd [("names",.ref l2)])) y (.ext (Zdg y (.ref C) (some dx))))
theorem ZdB(B:∀x∈ZbK,mg x=none)(xc:XC K mg X_GroveError X_NoBook X_TwiceNamed X_NoName X_Ring)(F:Fun K "__init__" "Ring.__init__" ZaH f fd):FnOk P w K mg base CX0 1 f fd ["self","names"] (Zfd K X_Ring):=by
 refine F.ok Zdz (fun vs H Q E h=>?_) (fun cdv A outer s H vs Q E hr h=>?_)
 ·obtain⟨y,l,ns,rfl,_⟩:=h;rfl
 obtain⟨y,l,ns,rfl,hl,hn8,hns,hy,q⟩:=h;have hu:=ZdZ hr;have hgd:=hr.gd;refine⟨_,(Zh (Zaw (Zfj xc.bas rfl xc.n_GroveError (Za (pv 0) (Za (ZbS (Zbt Zo (Zbt (Zmh hgd hu (pv 1)) ZeG))) Zd))))
  (Zi (Zgu (pv 0) (ZaG Zf1 rfl (B "list" (by decide)) Zi9 (Za (pv 1) Zd)) rfl))),?_⟩
 have hsh:(PyData.list (ns.map PyData.str)).shown.length<=1000:=Zkm hn8 hns;have h2:(Str.empty++Str.ofString "these names go in a ring: " ++ (PyData.list (ns.map PyData.str)).shown).length<=sizeLine:=by rw[Zn,Zn];exact Zj (by show 0+26+_<=_;lia)
 refine⟨_,rfl,_,rfl,by decide,_,rfl,l,_,rfl,.lst (SqL.of hl) (Zjs ns),Ze3 ns,ZfM ns,ZhX ns,Zj (by lia),_,rfl,h2,h2,?_⟩;refine⟨y,X_Ring,X_GroveError,none,_,rfl,hy,xc.top_Ring,?_⟩;refine⟨_,rfl,l,_,rfl,.inl (SqL.of hl),fun l2 hl2=>?_⟩;have ny:y≠l2:=ZK hy hl2;exact⟨_,rfl,y,X_Ring,X_GroveError,rfl,by rw[Zu ny];exact hy,xc.top_Ring,xc.f_Ring_names,fun dx h1 h2=>q l2 dx hl2 h1 h2⟩
theorem ZiY{H H1:Hp}{y dx:Addr}{o1 o2 o3 o4:HO}(s:Zk H H1)(h1:H1 y=none)(h2:upd H1 y o1 dx=none):Zk H (upd (upd (upd (upd H1 y o1) dx o2) y o3) y o4):=by
 obtain⟨_,h3⟩:=Zdc h2;exact(((s.upd_new (s.free h1)).upd_new (s.free h3)).upd_new (s.free h1)).upd_new (s.free h1)
theorem ZeI{C:Addr}{H H1:Hp}{E:XK}{n:Str}(sm:Zk H H1)(hn:n.length<=1000)
  (q2:∀(dx:Addr)(H':Hp),Zk H H'->H dx=none->H' dx=some (.xd [("name",.str n)])->E (.ref C) (some dx) H') :
  ([V.str n].length<=1000)/\∀y,H1 y=none->ZcG C [.ref y,.str n] (upd H1 y (.ext (Zdg y (.ref C) none)))
   (fun v H2=>v=.non/\∃d,H2 y=some (.ext (Zdg y (.ref C) d))/\E (.ref C) d (upd H2 y (.ext (XO y (.ref C) d)))) E0:=by
 refine⟨(by show 1<=1000;decide),fun y hy=>⟨y,n,rfl,hn,Zb,fun dx hdx hne=>⟨rfl,some dx,Zb,?_⟩⟩⟩;refine q2 dx _ (ZiY sm hy hdx) ?_ ?_
 ·obtain⟨_,h3⟩:=Zdc hdx;exact sm.free h3
 ·rw[Zu hne,Zu hne,Zb]
mutual
theorem ZkR(b:Bool):∀{e:Ex}{n:Str},w8 e->n∈nm b e->n.length<=8
 | .nil,_,_,h=>nomatch h
 | .tag _ i,n,hw,h=>by
  rw[nm] at h
  split at h
  ·exact ZkR b (e:=i) hw.2 h
  ·exact nomatch h
 | .name m,n,hw,h=>by
  rw[List.mem_singleton.mp h];exact hw
 | .several _ ps,n,hw,h=>ZlK b (ps:=ps) hw (by rw[nm] at h;exact h)
 | .rep _ p,n,hw,h=>ZkR b (e:=p) hw (by rw[nm] at h;exact h)
theorem ZlK(b:Bool):∀{ps:Exs}{n:Str},w8s ps->n∈nms b ps->n.length<=8
 | .nil,_,_,h=>nomatch h
 | .cons e r,n,hw,h=>by
  rw[nms] at h;rcases List.mem_append.mp h with h|h
  ·exact ZkR b (e:=e) hw.1 h
  ·exact ZlK b (ps:=r) hw.2 h
end
def twI(ns:List Str):List Str->Option Str
 | []=>none
 | n::r=>if n∈ns then some n else twI (ns ++ [n]) r
def ZjL(K:PySem.W.Frag)(C:Addr):Sp:=fun vs H Q E=>∃p ws bk,vs=[.ref p]/\SqT K H p ws/\BkR K H ws bk/\bk.length<=100/\(∀x∈bk,x.1.length<=8)/\(twI [] (bk.map (·.1))=none->∀H',Zk H H'->Q .non H') /\
 ∀n,twI [] (bk.map (·.1))=some n->∀(dx:Addr)(H':Hp),Zk H H'->H dx=none->H' dx=some (.xd [("name",.str n)])->E (.ref C) (some dx) H'
theorem Zfs{α : Type}{l:List α}{i:Nat}{a : α}(h:l[i]?= some a):l.drop i=a::l.drop (i+1):=by
 obtain⟨h1,h2⟩:=List.getElem?_eq_some_iff.mp h;rw[List.drop_eq_getElem_cons h1,h2]
set_option maxHeartbeats 1000000 in
theorem Zdk(B:∀x∈ZbK,mg x=none)(xc:XC K mg X_GroveError X_NoBook X_TwiceNamed X_NoName X_Ring)(x_TwiceNamed:XMk P w K mg base X_TwiceNamed X_GroveError "TwiceNamed" ["self","name"] 1 (ZcG X_TwiceNamed)) (F:Fun K "refuse_doubles" "refuse_doubles" Zaj f fd):FnOk P w K mg base (CXE P w) 3 f fd ["book"] (ZjL K X_TwiceNamed):=by
 refine F.okX Za3 (fun vs H Q E h=>?_) (fun cdv A outer s H vs Q E hr h=>?_)
 ·obtain⟨p,ws,bk,rfl,_⟩:=h;rfl
 obtain⟨p,ws,bk,rfl,hS,hB,hl,h8,q1,q2⟩:=h;have hu1:(A.deeper (PyProof.Rows.envOfC (Str.ofString "refuse_doubles") (Zf Zaj) s.heap.objs.size f cdv)).units+1<cLine:=by have:=hr.un;lia
 refine⟨_,(Zh (ZD (i:=1) Za3.nd rfl (Or.inl rfl) ZkA)
  (Zi (Zch PassesOwn.leaving rfl (Zdt (pv 0)) (ZdW rfl (Zar (ZV (i:=2) Za3.nd rfl (Or.inl rfl)) (Zar (ZV (i:=3) Za3.nd rfl (Or.inl rfl)) Zb0)))
   (Zh (Zad (ZjB (Zlh hu1 (pv 2) (pv 1)))
     (Zi (Zec x_TwiceNamed Zz hr rfl (Za (pv 2) Zd)))
     Zx)
    (Zi (ZlQ hu1 (pv 1) (pv 2) ZdD rfl)))))),?_⟩
 have hlen:ws.length=bk.length:=Paired.length hB;refine fun pd hpd=>?_;refine⟨_,rfl,p,rfl,⟨ws,TF.same (Zk.new hpd) _ _ hS⟩,ZeR (K:=K) (a:=p) (xs:=ws) (fun i σ H2=>∃v2 v3:Option V,σ =[some (.ref p),some (.ref pd),v2,v3]/\Zk H H2/\H2 pd=some (.dK (((bk.take i).map (·.1)).map fun n=>((Sum.inr n:Key),V.bl true)))/\twI [] (bk.map (·.1))=twI ((bk.take i).map (·.1)) ((bk.drop i).map (·.1)))
  ⟨none,none,rfl,Zk.new hpd,Zb,rfl⟩ ?_ ?_ ?_⟩
 ·rintro i σ H2 _ ⟨v2,v3,_,sm,_⟩;exact TF.same sm _ _ hS
 ·rintro i x σ H2 hx ⟨v2,v3,rfl,sm,hp2,ht⟩;obtain⟨x,hx1,pp,qq,rfl,e1,e2⟩:=ZaP hB hx;obtain⟨hi1,hi2⟩:=List.getElem?_eq_some_iff.mp hx1;rw[Zfs hx1,List.map_cons,twI] at ht;refine⟨pp,_,rfl,SqT.of (sm _ _ e1),rfl,_,_,rfl,_,_,rfl,rfl,?_⟩;refine⟨_,rfl,_,rfl,pd,_,rfl,Zgf.k (k:=.inr x.1) hp2,_,rfl,?_⟩;by_cases hin:x.1∈(bk.take i).map (·.1)
  ·rw[if_pos hin] at ht;have hv:(Zcw (((bk.take i).map (·.1)).map fun n=>((Sum.inr n:Key),V.bl true)) (.inr x.1)).isSome=true:=by
    cases hc:Zcw (((bk.take i).map (·.1)).map fun n=>((Sum.inr n:Key),V.bl true)) (.inr x.1) with
    | none=>exact absurd hin (ZfR.mp hc)
    | some _=>rfl
   rw[hv];refine Zcn ?_;exact⟨_,rfl,ZeI sm (by have:=h8 x (List.mem_of_getElem? hx1);lia) (q2 x.1 ht)⟩
  ·rw[if_neg hin] at ht;have hv:=ZfR.mpr hin;rw[hv];refine ZbO ?_;refine⟨_,rfl,_,rfl,pd,_,rfl,.inl ⟨_,.inr x.1,hp2,rfl,Z3 (by rw[List.length_map,List.length_map,List.length_take];lia),rfl⟩,_,_,rfl,?_,?_,?_⟩
   ·intro b o hb;have:b≠pd:=fun z=>by rw[z,hpd] at hb;cases hb
    rw[Zu this];exact sm _ _ hb
   ·rw[Zb,Zhi _ hv,List.take_succ_eq_append_getElem hi1,hi2,List.map_append,List.map_append];rfl
   ·rw[ht,List.take_succ_eq_append_getElem hi1,hi2,List.map_append];rfl
 ·rintro σ H2 ⟨v2,v3,rfl,sm,_,ht⟩;rw[hlen,List.drop_length] at ht;exact q1 ht H2 sm
def Zkk(bk:List (Str×Ex)):List Str:=bk.flatMap fun x=>nm true x.2
def lkN(ns:List Str)(l:List Str):Option Str:=l.find? fun n=>decide (n∉ns)
def Zi0(K:PySem.W.Frag)(C:Addr):Sp:=fun vs H Q E=>∃p ob ws bk,vs=[.ref p]/\H p=some (.frz ob (.tup ws))/\ob.dict=none/\BkR K H ws bk/\bk.length<=100/\(∀x∈bk,Bk1 x)/\(lkN (bk.map (·.1)) (Zkk bk)=none->∀H',Zk H H'->Q .non H') /\
 ∀n,lkN (bk.map (·.1)) (Zkk bk)=some n->∀(dx:Addr)(H':Hp),Zk H H'->H dx=none->H' dx=some (.xd [("name",.str n)])->E (.ref C) (some dx) H'
theorem Zgm{bk:List (Str×Ex)}{k:Str}{kvs:List (Key×V)}(e:kvs.map (·.1)=bk.map fun x=>(Sum.inr x.1:Key)):(Zcw (putAll kvs) (.inr k)).isSome=decide (k∈bk.map (·.1)):=by
 by_cases h:k∈bk.map (·.1)
 ·rw[putAll_has (f:=fun _=>V.non) h e,decide_eq_true h]
 ·rw[decide_eq_false h];unfold putAll;rw[Zb3];show(false || _)=false;rw[Bool.false_or,List.any_eq_false];intro kv hkv z;have z:=of_decide_eq_true z;have:kv.1∈bk.map fun x=>(Sum.inr x.1:Key):=by rw[<- e];exact List.mem_map.mpr ⟨kv,hkv,rfl⟩
  rw[z] at this;obtain⟨x,hx,hxe⟩:=List.mem_map.mp this;exact h (List.mem_map.mpr ⟨x,hx,Sum.inr.inj hxe⟩)
set_option maxHeartbeats 1000000 in
theorem Zdj(B:∀x∈ZbK,mg x=none)(xc:XC K mg X_GroveError X_NoBook X_TwiceNamed X_NoName X_Ring)(g_names_in:Has P w K mg base "names_in" ["expr"] 17 (Zlr K true 16)) (x_NoName:XMk P w K mg base X_NoName X_GroveError "NoName" ["self","name"] 1 (ZcG X_NoName)) (F:Fun K "refuse_unnamed" "refuse_unnamed" Zal f fd):FnOk P w K mg base (CXE P w) 18 f fd ["book"] (Zi0 K X_NoName):=by
 refine F.okX ZaE (fun vs H Q E h=>?_) (fun cdv A outer s H vs Q E hr h=>?_)
 ·obtain⟨p,ob,ws,bk,rfl,_⟩:=h;rfl
 obtain⟨p,ob,ws,bk,rfl,hf,hob,hB,hl,hn,q1,q2⟩:=h;have hu1:(A.deeper (PyProof.Rows.envOfC (Str.ofString "refuse_unnamed") (Zf Zal) s.heap.objs.size f cdv)).units+1<cLine:=by have:=hr.un;lia
 refine⟨_,(Zh (ZD (i:=1) ZaE.nd rfl (Or.inl rfl) (ZaG (Ze4 rfl) rfl (B "dict" (by decide)) Zju (Za (pv 0) Zd)))
  (Zi (Zch PassesOwn.leaving rfl (Zdt (pv 0)) (ZdW rfl (Zar (ZV (i:=2) ZaE.nd rfl (Or.inl rfl)) (Zar (ZV (i:=3) ZaE.nd rfl (Or.inl rfl)) Zb0)))
   (Zi (Zch PassesOwn.leaving rfl (Zb1 (ZR g_names_in hr rfl (Za (pv 3) Zd))) (ZV (i:=4) ZaE.nd rfl (Or.inl rfl))
     (Zi (Zad (ZjB (Zir hu1 (pv 4) (pv 1)))
       (Zi (Zec x_NoName Zz hr rfl (Za (pv 4) Zd)))
       Zx))))))),?_⟩
 have hlen:ws.length=bk.length:=Paired.length hB;obtain⟨kvs,hk1,hk2⟩:=hB.kvs;have hS:∀H2,Zk H H2->SqT K H2 p ws:=fun H2 s2=>.inl (.inr ⟨ob,s2 _ _ hf⟩);refine⟨_,rfl,p,ob,ws,kvs,rfl,hf,hob,by lia,hk2,fun pd hpd=>?_⟩;have s1:Zk H (upd H pd (.dK (putAll kvs))):=Zk.new hpd;have hd1:upd H pd (.dK (putAll kvs)) pd=some (.dK (putAll kvs)):=Zb;refine⟨_,rfl,p,rfl,⟨ws,hS _ s1⟩,ZeR (K:=K) (a:=p) (xs:=ws) (fun i σ H2=>∃v2 v3 v4:Option V,σ =[some (.ref p),some (.ref pd),v2,v3,v4]/\Zk H H2/\H2 pd=some (.dK (putAll kvs))/\lkN (bk.map (·.1)) (Zkk bk)=lkN (bk.map (·.1)) (Zkk (bk.drop i)))
  ⟨none,none,none,rfl,s1,hd1,rfl⟩ ?_ ?_ ?_⟩
 ·rintro i σ H2 _ ⟨v2,v3,v4,_,sm,_⟩;exact hS _ sm
 ·rintro i x σ H2 hx ⟨v2,v3,v4,rfl,sm,hp2,hlk⟩;obtain⟨x,hx1,pp,qq,rfl,e1,e2⟩:=ZaP hB hx;obtain⟨b1,b2,b3,b4⟩:=hn x (List.mem_of_getElem? hx1);rw[Zfs hx1] at hlk;refine⟨pp,_,rfl,SqT.of (sm _ _ e1),rfl,_,_,rfl,_,_,rfl,rfl,?_⟩;refine⟨_,rfl,qq,x.2,rfl,e2.mono (TF.same sm),b2,b3,fun l H3 s3 f3 e3=>?_⟩;refine⟨l,rfl,⟨_,SqL.of e3⟩,Zg3 (K:=K) (a:=l) (xs:=(nm true x.2).map V.str) (fun j σ H4=>∃v4:Option V,σ =[some (.ref p),some (.ref pd),some (.str x.1),some (.ref qq),v4]/\H4=H3/\lkN (bk.map (·.1)) (Zkk bk)=lkN (bk.map (·.1)) ((nm true x.2).drop j++Zkk (bk.drop (i+1))))
   ⟨_,rfl,rfl,hlk⟩ ?_ ?_ ?_⟩
  ·rintro j σ H4 _ ⟨v4,_,rfl,_⟩;exact SqL.of e3
  ·rintro j y σ H4 hy ⟨v4,rfl,rfl,hj⟩;rw[List.getElem?_map] at hy;obtain⟨m,hm,rfl⟩:=Option.map_eq_some_iff.mp hy;rw[Zfs hm,List.cons_append] at hj;unfold lkN at hj;rw[List.find?_cons] at hj;refine⟨_,rfl,_,rfl,pd,_,rfl,Zgf.k (k:=.inr m) (s3 _ _ hp2),_,rfl,?_⟩;rw[Zgm hk1];by_cases hin:m∈bk.map (·.1)
   ·rw[decide_eq_true hin];rw[decide_eq_false (fun z=>z hin)] at hj;exact ZbO ⟨_,rfl,rfl,hj⟩
   ·rw[decide_eq_false hin];rw[decide_eq_true hin] at hj;refine Zcn ?_;exact⟨_,rfl,ZeI (sm.trans s3) (by have:=ZkR true b4 (List.mem_of_getElem? hm);lia) (q2 m hj)⟩
  ·rintro σ H4 ⟨v4,rfl,rfl,hj⟩;rw[List.length_map,List.drop_length,List.nil_append] at hj;exact⟨_,_,_,rfl,sm.trans s3,s3 _ _ hp2,hj⟩
 ·rintro σ H2 ⟨v2,v3,v4,rfl,sm,_,hlk⟩;rw[hlen,List.drop_length] at hlk;exact q1 hlk H2 sm
def RgC(us:Str->List Str)(rg:List Str):Prop:=(∀(k:Nat) x y,rg[k]?= some x->rg[k+1]?= some y->y∈us x)/\∀x y,rg[0]?= some x->rg[rg.length-1]?= some y->x∈us y
def Zot(us:Str->List Str)(ns rg:List Str):Prop:=rg ≠ []/\rg.Nodup/\(∀n∈rg,n∈ns)/\RgC us rg
theorem Zc3:∀{l ns:List Str},l.Nodup->(∀x∈l,x∈ns)->l.length<=ns.length
 | [],_,_,_=>Nat.zero_le _
 | a::l,ns,hn,h=>by
  rw[List.nodup_cons] at hn;have ha:=h a (List.mem_cons_self ..);have h1:=Zc3 (l:=l) (ns:=ns.erase a) hn.2 fun x hx=>(List.mem_erase_of_ne fun z=>hn.1 (by rw[<- z];exact hx)).mpr (h x (List.mem_cons_of_mem _ hx));rw[List.length_erase_of_mem ha] at h1;have:=List.length_pos_of_mem ha;rw[List.length_cons];lia
def ZgT(K:PySem.W.Frag):Sp:=fun vs H Q _=>∃d l ns us,vs=[.ref d,.ref l]/\UsR H d ns us/\SqL K H l (ns.map V.str)/\ns ≠ []/\ns.length<=100/\(∀n∈ns,∃m∈us n,m∈ns)/\∀l' rg H',Zk H H'->H l'=none->H' l'=some (.lst (rg.map V.str))->Zot us ns rg->Q (.ref l') H'
def RfW(K:PySem.W.Frag)(H:Hp)(d l pl:Addr)(ns:List Str)(us:Str->List Str)(m:Nat)(σ : St)(H2:Hp):Prop := ∃(path:List Str)(n:Str),m=ns.length+1-path.length /\ σ =[some (.ref d),some (.ref l),some (.ref pl),some (.str n)]/\Zk H H2/\H2 pl=some (.lst (path.map V.str))/\path.Nodup/\(∀x∈path,x∈ns)/\n∈ns/\(∀(k:Nat) x y,path[k]?= some x->path[k+1]?= some y->y∈us x)/\∀y,path[path.length-1]?= some y->n∈us y
theorem ZmK{us:Str->List Str}{path:List Str}{n:Str}(hn:path.Nodup)(hm:n∈path)(hc:∀(k:Nat) x y,path[k]?= some x->path[k+1]?= some y->y∈us x)(hl:∀y,path[path.length-1]?= some y->n∈us y){ns:List Str}(hs:∀x∈path,x∈ns):Zot us ns (path.drop (path.idxOf n)):=by
 have hi:path.idxOf n<path.length:=List.idxOf_lt_length_of_mem hm;refine⟨fun z=>?_,hn.sublist (List.drop_sublist _ _),fun x hx=>hs x (List.mem_of_mem_drop hx),fun k x y hx hy=>?_,fun x y hx hy=>?_⟩
 ·have:=congrArg List.length z;rw[List.length_drop] at this;have:path.length-path.idxOf n=0:=this;lia
 ·rw[List.getElem?_drop] at hx hy;exact hc _ x y hx hy
 ·rw[List.getElem?_drop,Nat.add_zero,List.getElem?_eq_getElem hi,List.getElem_idxOf hi] at hx;cases hx;rw[List.getElem?_drop,List.length_drop,show path.idxOf n+(path.length-path.idxOf n-1)=path.length-1 by lia] at hy;exact hl y hy
set_option maxHeartbeats 2000000 in
theorem ZfA(B:∀x∈ZbK,mg x=none)(F:Fun K "ring_from" "ring_from" Zba f fd):FnOk P w K mg base CX0 1 f fd ["uses","names"] (ZgT K):=by
 refine F.ok ZbM (fun vs H Q E h=>?_) (fun cdv A outer s H vs Q E hr h=>?_)
 ·obtain⟨d,l,ns,us,rfl,_⟩:=h;rfl
 obtain⟨d,l,ns,us,rfl,hU,hS,hne,hn,hall,q⟩:=h;have hu1:(A.deeper (PyProof.Rows.envOfC (Str.ofString "ring_from") (Zf Zba) s.heap.objs.size f cdv)).units+1<cLine:=by have:=hr.un;lia
 refine⟨_,(Zh (ZD (i:=2) ZbM.nd rfl (Or.inl rfl) (Zb6 Zd))
  (Zh (ZD (i:=3) ZbM.nd rfl (Or.inl rfl) (Z9 Zaz (pv 1) Zg (fun _ _=>rfl)))
  (Zh (ZbL PassesOwn.never (ZC Zga (pv 3) (pv 2) (by with_unfolding_all rfl))
   (Zh (Zaw (ZbT PySem.F.plainAttrs_list PySem.F.slot_list_append PySem.F.type_list_append ZaM (pv 2) (Za (pv 3) Zd)))
    (Zi (ZD (i:=3) ZbM.nd rfl (Or.inl rfl) (Z9 Zaz (Zes (cl:=_) ["used"] [("names",1)] (Zb1 (Zgz hu1 (pv 0) (pv 3) (fun _ _=>rfl))) (fun _ _ _ _=>(ZV (i:=0) (show List.Nodup (["used","names"]:List Str) by decide) rfl (Or.inl rfl))) (fun _ _ _ _=>(ZC (ZeQ (K:=K) rfl) (pv 0) (pv 1) (by with_unfolding_all rfl))) (fun _ _ _ _=>(pv 0)) rfl rfl (by decide) rfl (by decide) (ZfG (by(repeat' first|exact List.forall_mem_nil _|refine List.forall_mem_cons.mpr ⟨?_,?_⟩) <;> rfl)) (ZdM (by(repeat' first|exact List.forall_mem_nil _|refine List.forall_mem_cons.mpr ⟨?_,?_⟩) <;> first|(intro h;exact⟨_,rfl⟩)|(intro h;exact absurd h (by decide)))) (fun _=>by(repeat' first|exact List.forall_mem_nil _|refine List.forall_mem_cons.mpr ⟨?_,?_⟩) <;> exact⟨rfl,rfl,Or.inl rfl⟩) (fun _=>rfl)) Zg (fun _ _=>rfl))))))
  (Zi (ZL (ZdE Zl8 (pv 2) (ZdQ (ZbT PySem.F.plainAttrs_list PySem.F.slot_list_index PySem.F.type_list_index (ZiS (K:=K) rfl) (pv 2) (Za (pv 3) Zd))) ZgS)))))),?_⟩
 obtain⟨n0,r0,rfl⟩:∃a r,ns=a::r:=by
  cases ns with
  | nil=>exact absurd rfl hne
  | cons a r=>exact⟨a,r,rfl⟩
 refine⟨(by show 0<=sizeLine;decide),fun pl hpl=>?_⟩;have s0:Zk H (upd H pl (.lst [])):=Zk.new hpl;refine⟨_,rfl,l,_,0,_,rfl,rfl,s0.seq hS,at0,?_⟩;refine⟨RfW K H d l pl (n0::r0) us,⟨_,[],n0,rfl,rfl,s0,Zb,List.nodup_nil,(fun _ h=>nomatch h),List.mem_cons_self ..,(fun k x y h _=>by simp at h),(fun y h=>by simp at h)⟩,?_⟩
 rintro m σ H2 ⟨path,n,rfl,rfl,sm,hp2,hnd,hsub,hmem,hch,hlast⟩;have hpl2:=Zc3 hnd hsub;refine⟨_,rfl,_,rfl,pl,_,rfl,.inl (SqL.of hp2),rfl,Zfg path,_,rfl,?_⟩;have e1:(if true=true then !inV (V.str n) (path.map V.str) else inV (V.str n) (path.map V.str))= !path.contains n:=by rw[if_pos rfl,Zd0]
 rw[e1];by_cases hin:n∈path
 ·rw[List.contains_iff_mem.mpr hin];refine ZbO ?_;refine⟨_,rfl,_,rfl,.inl ⟨rfl,_,SqL.of hp2⟩,_,rfl,pl,n,path,rfl,rfl,SqL.of hp2,hin,_,rfl,pl,_,rfl,SqL.of hp2,fun p9 hp9=>?_⟩;have s9:=sm.upd_new (o:=.lst (ZmJ (path.map V.str) (some ((path.idxOf n:Nat):Int)) none)) (sm.free hp9);refine q p9 (path.drop (path.idxOf n)) _ s9 (sm.free hp9) ?_ (ZmK hnd hin hch hlast hsub);rw[Zb,ZkW,List.map_drop]
 ·have hc:path.contains n=false:=by
   cases h:path.contains n with
   | false=>rfl
   | true=>exact absurd (List.contains_iff_mem.mp h) hin
  rw[hc];refine Zcn ⟨fun σ' H'=>∃m',m'<(n0::r0).length+1-path.length/\RfW K H d l pl (n0::r0) us m' σ' H',fun _ _ h=>h,?_⟩;refine⟨_,rfl,.inl ⟨rfl,_,SqL.of hp2⟩,_,rfl,pl,_,_,rfl,rfl,hp2,Z3 (by rw[List.length_map];lia),?_⟩;have e3:upd H2 pl (.lst (path.map V.str ++ [.str n])) pl=some (.lst ((path ++ [n]).map V.str)):=by rw[Zb,List.map_append];rfl
  have sm3:Zk H (upd H2 pl (.lst (path.map V.str ++ [.str n]))):=sm.upd_new hpl;generalize upd H2 pl (.lst (path.map V.str ++ [.str n]))=H3 at e3 sm3 ⊢;obtain⟨kvs,h1,h2⟩:=hU.same sm3;obtain⟨b,k1,k2,k3⟩:=h2 n hmem;refine⟨_,rfl,_,rfl,d,.ref b,rfl,by rw[<- k1];exact Zgf.k (k:=.inr n) h1,b,rfl,⟨_,SqL.of k2⟩,fun p4 hp4=>ZeM (K:=K) (a:=b) (p:=p4) (xs:=(us n).map V.str) (fun i ys σ H4=>∃v0:Option V,σ =[v0,some (.ref l)]/\Zk H3 H4/\H4 p4=some (.lst ys)/\ys=(((us n).take i).filter fun m=>(n0::r0).contains m).map V.str)
   ⟨none,rfl,Zk.new hp4,Zb,rfl⟩ ?_ ?_ ?_⟩
  ·rintro i ys σ H4 _ ⟨v0,_,sm4,h4,_⟩;exact⟨SqL.of (sm4 _ _ k2),h4⟩
  ·rintro i ys x σ H4 hi hx ⟨v0,rfl,sm4,h4,rfl⟩;rw[List.getElem?_map] at hx;obtain⟨y,hx1,rfl⟩:=Option.map_eq_some_iff.mp hx;have fx:=ZdK (g:=fun m=>(n0::r0).contains m) hx1;refine⟨_,rfl,_,rfl,l,_,rfl,.inl ((sm3.trans sm4).seq hS),rfl,Zfg _,_,rfl,?_⟩;have e5:(if false=true then !inV (V.str y) ((n0::r0).map V.str) else inV (V.str y) ((n0::r0).map V.str))=(n0::r0).contains y:=Zd0 _ _
   rw[e5];refine ZaU (fun z=>?_) (fun z=>?_)
   ·rw[if_pos z] at fx;refine⟨_,rfl,h4,Z3 ?_,CW.next hi ⟨_,rfl,sm4.upd_new hp4,Zb,?_⟩⟩
    ·rw[List.length_map];have:=List.length_filter_le (fun m=>(n0::r0).contains m) ((us n).take i);rw[List.length_take] at this;lia
    ·rw[fx,List.map_append];rfl
   ·rw[if_neg z,List.append_nil] at fx;exact CW.next hi ⟨_,rfl,sm4,h4,by rw[fx]⟩
  ·rintro ys σ H4 ⟨v0,_,sm4,h4,rfl⟩;rw[List.length_map,List.take_length] at h4;obtain⟨y,hy1,hy2⟩:=hall n hmem;obtain⟨z,zs,hz⟩:∃z zs,(us n).filter (fun m=>(n0::r0).contains m)=z::zs:=by
    cases hc:(us n).filter (fun m=>(n0::r0).contains m) with
    | nil =>
     have:y∈(us n).filter (fun m=>(n0::r0).contains m):=List.mem_filter.mpr ⟨hy1,List.contains_iff_mem.mpr hy2⟩;rw[hc] at this;exact nomatch this
    | cons z zs=>exact⟨z,zs,rfl⟩
   have hzm:z∈(us n).filter (fun m=>(n0::r0).contains m):=by rw[hz];exact List.mem_cons_self ..
   obtain⟨hz1,hz2⟩:=List.mem_filter.mp hzm;have hz2:=List.contains_iff_mem.mp hz2;rw[hz] at h4;have hnd':(path ++ [n]).Nodup:=by
    refine List.nodup_append.mpr ⟨hnd,List.nodup_cons.mpr ⟨fun h=>(nomatch h),List.nodup_nil⟩,fun x hx y hy e=>?_⟩
    rw[List.mem_singleton.mp hy] at e;exact hin (e ▸ hx)
   have hsub':∀x∈path ++ [n],x∈n0::r0:=fun x hx=>by
    rcases List.mem_append.mp hx with hx|hx
    ·exact hsub x hx
    ·rw[List.mem_singleton.mp hx];exact hmem
   have hpl3:=Zc3 hnd' hsub';rw[List.length_append] at hpl3;have hpl3:path.length+1<=(n0::r0).length:=hpl3;refine⟨p4,_,0,.str z,rfl,rfl,SqL.of h4,at0,_,?_,path ++ [n],z,rfl,rfl,sm3.trans sm4,sm4 _ _ e3,hnd',hsub',hz2,fun k x y hx hy=>?_,fun y hy=>?_⟩
   ·rw[List.length_append];show(n0::r0).length+1-(path.length+1)<_;lia
   ·rcases ZhA hy with⟨hk,hy⟩|⟨hk,rfl⟩
    ·rw[List.getElem?_append_left (by lia)] at hx;exact hch k x y hx hy
    ·rw[List.getElem?_append_left (by lia)] at hx;exact hlast x (by rw[<- hx];congr 1;lia)
   ·rw[List.length_append,List.length_singleton,Nat.add_sub_cancel,List.getElem?_append_right (Nat.le_refl _),Nat.sub_self] at hy;cases hy;exact hz1
def Cyc(us:Str->List Str)(ns:List Str):Prop := ∃S:List Str,S ≠ []/\(∀n∈S,n∈ns)/\∀n∈S,∃m∈us n,m∈S
theorem Zmo{us:Str->List Str}{S ls:List Str}(k:∀n∈S,∃m∈us n,m∈S)(h:∀n∈S,n∈ls):∀n∈S,n∈ZlG us ls:=fun n hn=>by
 obtain⟨m,h1,h2⟩:=k n hn;exact List.mem_filter.mpr ⟨h n hn,List.any_eq_true.mpr ⟨m,h1,List.contains_iff_mem.mpr (h m h2)⟩⟩
theorem ZmX{us:Str->List Str}{ls:List Str}(h : ¬ (ZlG us ls).length<ls.length):∀n∈ls,∃m∈us n,m∈ls:=fun n hn=>by
 by_cases k:((us n).any fun m=>ls.contains m)=true
 ·obtain⟨m,h1,h2⟩:=List.any_eq_true.mp k;exact⟨m,h1,List.contains_iff_mem.mp h2⟩
 ·exact absurd (List.length_filter_lt_length_iff_exists.mpr ⟨n,hn,k⟩) h
theorem Zh7{K:PySem.W.Frag}{C:Addr}{H H1:Hp}{E:XK}{l:Addr}{ns:List Str}(sm:Zk H H1)(hl:H1 l=some (.lst (ns.map V.str)))(h8:ns.length<=8)(hns:∀n∈ns,Upr n/\n.length<=8)
  (q2:∀(dx l2:Addr)(H':Hp),Zk H H'->H dx=none->H l2=none->H' dx=some (.xd [("names",.ref l2)])->H' l2=some (.lst (ns.map V.str))->E (.ref C) (some dx) H') :
  ([V.ref l].length<=1000)/\∀y,H1 y=none->Zfd K C [.ref y,.ref l] (upd H1 y (.ext (Zdg y (.ref C) none)))
   (fun v H2=>v=.non/\∃d,H2 y=some (.ext (Zdg y (.ref C) d))/\E (.ref C) d (upd H2 y (.ext (XO y (.ref C) d)))) E0:=by
 refine⟨(by show 1<=1000;decide),fun y hy=>⟨y,l,ns,rfl,by rw[Zu (ZK hl hy)];exact hl,h8,hns,Zb,fun l2 dx hl2 hdx hne=>⟨rfl,some dx,Zb,?_⟩⟩⟩;obtain⟨n1,f1⟩:=Zdc hl2;obtain⟨n2,f2⟩:=Zdc hdx;obtain⟨_,f3⟩:=Zdc f2;refine q2 dx l2 _ (((((sm.upd_new (sm.free hy)).upd_new (sm.free f1)).upd_new (sm.free f3)).upd_new (sm.free hy)).upd_new (sm.free hy)) (sm.free f3) (sm.free f1) ?_ ?_
 ·rw[Zu hne,Zu hne,Zb]
 ·rw[Zu n1,Zu n1,Zu n2.symm,Zb]
def ZgX(K:PySem.W.Frag)(C:Addr):Sp:=fun vs H Q E=>∃p ws bk,vs=[.ref p]/\SqT K H p ws/\BkR K H ws bk/\bk.length<=8/\(bk.map (·.1)).Nodup/\(∀x∈bk,Bk1 x)/\(∀x∈bk,Upr x.1)/\(¬ Cyc (usB bk) (bk.map (·.1))->∀H',Zk H H'->Q .non H') /\
 (Cyc (usB bk) (bk.map (·.1))->∀(rg:List Str)(dx l2:Addr)(H':Hp),Zk H H'->H dx=none->H l2=none->H' dx=some (.xd [("names",.ref l2)])->H' l2=some (.lst (rg.map V.str))->Zot (usB bk) (bk.map (·.1)) rg->E (.ref C) (some dx) H')
def RgX(K:PySem.W.Frag)(bk:List (Str×Ex))(p d:Addr)(H:Hp)(m:Nat)(σ : St)(H6:Hp):Prop := ∃(ls:List Str)(la ga:Addr),m=ls.length /\ σ =[some (.ref p),some (.ref d),some (.ref la),some (.ref ga)]/\Zk H H6/\UsR H6 d ls (usB bk)/\SqL K H6 la (ls.map V.str)/\H6 ga=some (.lst ((ZlG (usB bk) ls).map V.str))/\(∀n∈ls,n∈bk.map (·.1))/\ls.length<=8/\∀S:List Str,(∀n∈S,n∈bk.map (·.1))->(∀n∈S,∃m∈usB bk n,m∈S)->∀n∈S,n∈ls
set_option maxHeartbeats 2000000 in
theorem Zd8(B:∀x∈ZbK,mg x=none)(xc:XC K mg X_GroveError X_NoBook X_TwiceNamed X_NoName X_Ring)(g_names_outside:Has P w K mg base "names_outside" ["expr"] 17 (Zlr K false 16)) (g_ring_or_before:Has P w K mg base "ring_or_before" ["uses","names"] 1 (ZmB K)) (x_Ring:XMk P w K mg base X_Ring X_GroveError "Ring" ["self","names"] 1 (Zfd K X_Ring)) (g_ring_from:Has P w K mg base "ring_from" ["uses","names"] 1 (ZgT K)) (F:Fun K "refuse_rings" "refuse_rings" ZaN f fd):FnOk P w K mg base (CXE P w) 18 f fd ["book"] (ZgX K X_Ring):=by
 refine F.okX ZaI (fun vs H Q E h=>?_) (fun cdv A outer s H vs Q E hr h=>?_)
 ·obtain⟨p,ws,bk,rfl,_⟩:=h;rfl
 obtain⟨p,ws,bk,rfl,hS,hB,hl,hn,h1,hup,q1,q2⟩:=h;refine⟨_,(Zh (ZD (i:=1) ZaI.nd rfl (Or.inl rfl) (ZaG (Zen rfl) rfl (B "dict" (by decide)) Zju (Za (ZcP (cl:=[]) ["name","expr"] [] (Zdt (pv 0)) (fun _ _ _ _=>(Zgl (K:=K) (n:=2) rfl rfl (Zar (ZV (i:=0) (show List.Nodup (["name","expr"]:List Str) by decide) rfl (Or.inl rfl)) (Zar (ZV (i:=1) (show List.Nodup (["name","expr"]:List Str) by decide) rfl (Or.inl rfl)) Zb0)))) (fun _ _ _ _=>(Zbs (Za (pv 0) (Za (ZR g_names_outside hr rfl (Za (pv 1) Zd)) Zd)))) rfl rfl (by decide) rfl (by decide) (fun _ _ h=>nomatch h) (Zds (by decide)) (fun _ _ h=>nomatch h) (fun _=>rfl)) Zd)))
  (Zh (ZD (i:=2) ZaI.nd rfl (Or.inl rfl) (ZaG (ZfV rfl) rfl (B "list" (by decide)) Zi9 (Za (pv 1) Zd)))
  (Zh (ZD (i:=3) ZaI.nd rfl (Or.inl rfl) (ZR g_ring_or_before hr rfl (Za (pv 1) (Za (pv 2) Zd))))
  (Zh (ZbL PassesOwn.leaving (ZC ZfY (ZS Zac rfl (B "len" (by decide)) PySem.boot_len (Za (pv 3) Zd)) (ZS Zac rfl (B "len" (by decide)) PySem.boot_len (Za (pv 2) Zd)) (ZM _))
   (Zh (ZD (i:=2) ZaI.nd rfl (Or.inl rfl) (pv 3))
    (Zi (ZD (i:=3) ZaI.nd rfl (Or.inl rfl) (ZR g_ring_or_before hr rfl (Za (pv 1) (Za (pv 2) Zd)))))))
  (Zi (Zad (ZW (pv 2) (fun _=>rfl))
   (Zi (Zec x_Ring Zz hr rfl (Za (ZR g_ring_from hr rfl (Za (pv 1) (Za (pv 2) Zd))) Zd)))
   Zx)))))),?_⟩
 have hlen:ws.length=bk.length:=Paired.length hB;refine⟨_,rfl,p,rfl,⟨ws,hS⟩,fun pl hpl=>Zc6 (K:=K) (a:=p) (p:=pl) (xs:=ws) (fun i ys σ H2=>∃(v0 v1:Option V)(kvs:List (Key×V)),σ =[v0,v1]/\Zk H H2/\H2 pl=some (.lst ys)/\Paired (fun(y:V)(kv:Key×V)=>∃t,y=.ref t/\H2 t=some (.tup [kV kv.1,kv.2])) ys kvs/\Paired (KvU pl H2) kvs (bk.take i))
  ⟨none,none,[],rfl,Zk.new hpl,Zb,.nil,.nil⟩ ?_ ?_ ?_⟩
 ·rintro i ys σ H2 _ ⟨v0,v1,kvs,_,sm,hp2,_⟩;exact⟨TF.same sm _ _ hS,hp2⟩
 ·rintro i ys x σ H2 hi hx ⟨v0,v1,kvs,rfl,sm,hp2,P1,P2⟩;obtain⟨x,hx1,pp,qq,rfl,e1,e2⟩:=ZaP hB hx;obtain⟨b1,b2,b3,b4⟩:=h1 x (List.mem_of_getElem? hx1);obtain⟨hi1,hi2⟩:=List.getElem?_eq_some_iff.mp hx1;have hyl:ys.length=i:=by
   rw[Paired.length P1,Paired.length P2,List.length_take];lia
  refine⟨pp,_,rfl,SqT.of (sm _ _ e1),rfl,_,_,rfl,_,_,rfl,rfl,?_⟩;refine⟨_,rfl,_,rfl,qq,x.2,rfl,e2.mono (TF.same sm),b2,b3,fun l3 H3 s3 f3 e3=>⟨(by show(2:Nat)<=sizeLine;decide),fun t4 ht4=>?_⟩⟩;have s4:Zk H3 (upd H3 t4 (.tup [.str x.1,.ref l3])):=Zk.new ht4;have hp4:=s4 _ _ (s3 _ _ hp2);have s24:=s3.trans s4;have n3:l3≠pl:=fun z=>by rw[z,hp2] at f3;cases f3
  have e4:upd H3 t4 (.tup [.str x.1,.ref l3]) t4=some (.tup [.str x.1,.ref l3]):=Zb;generalize upd H3 t4 (.tup [.str x.1,.ref l3])=H4 at s4 hp4 s24 e4 ⊢;refine⟨hp4,Z3 (by rw[hyl];lia),CW.next hi ⟨_,_,kvs ++ [(.inr x.1,.ref l3)],rfl,(sm.trans s24).upd_new hpl,Zb,?_,?_⟩⟩
  ·have tl:∀t ys',H4 t=some (.tup ys')->upd H4 pl (.lst (ys ++ [.ref t4])) t=some (.tup ys'):=fun t ys' ht=>by
    have:t≠pl:=fun z=>by rw[z,hp4] at ht;cases ht
    rw[Zu this];exact ht
   refine Paired.app (Paired.mapP P1 fun y kv z=>?_) (.cons ⟨t4,rfl,tl _ _ e4⟩ .nil);obtain⟨t,rfl,ht⟩:=z;exact⟨t,rfl,tl _ _ (s24 _ _ ht)⟩
  ·have tl:∀t ys',t≠pl->H4 t=some (.lst ys')->upd H4 pl (.lst (ys ++ [.ref t4])) t=some (.lst ys'):=fun t ys' hne ht=>by
    rw[Zu hne];exact ht
   rw[List.take_succ_eq_append_getElem hi1,hi2];refine Paired.app (Paired.mapP P2 fun kv y z=>?_) (.cons ⟨rfl,l3,n3,rfl,tl _ _ n3 (s4 _ _ e3)⟩ .nil);obtain⟨z1,b,z0,z2,z3⟩:=z;exact⟨z1,b,z0,z2,tl _ _ z0 (s24 _ _ z3)⟩
 ·rintro ys σ H2 ⟨v0,v1,kvs,_,sm,hp2,P1,P2⟩;rw[hlen,List.take_length] at P2;have hkl:kvs.length=bk.length:=Paired.length P2;have hkeys:=ZhB P2;have hnk:(kvs.map (·.1)).Nodup:=by
   rw[hkeys];exact List.pairwise_map.mpr (hn.imp fun{x y} hxy z=>hxy (Sum.inr.inj z))
  have hpa:putAll kvs=kvs:=by
   have:=Zf8 kvs [] hnk;rw[List.nil_append] at this;exact this
  refine⟨pl,ys,kvs,rfl,SqL.of hp2,by rw[Paired.length P1];lia,P1,fun d hd=>?_⟩;rw[hpa];have s1:Zk H2 (upd H2 d (.dK kvs)):=Zk.new hd;have e1:upd H2 d (.dK kvs) d=some (.dK kvs):=Zb;generalize upd H2 d (.dK kvs)=H3 at s1 e1 ⊢;refine⟨_,rfl,d,kvs,rfl,e1,fun l hl3=>?_⟩;have s2:Zk H3 (upd H3 l (.lst (kvs.map fun p=>kV p.1))):=Zk.new hl3;have e2:upd H3 l (.lst (kvs.map fun p=>kV p.1)) l=some (.lst ((bk.map (·.1)).map V.str)):=by
   rw[Zb,show(kvs.map fun p=>kV p.1)=(kvs.map (·.1)).map kV by rw[List.map_map];rfl,hkeys,List.map_map];rfl
  generalize upd H3 l (.lst (kvs.map fun p=>kV p.1))=H4 at s2 e2 ⊢;have U:UsR H4 d (bk.map (·.1)) (usB bk):=⟨kvs,s2 _ _ e1,fun n hn'=>by
   obtain⟨x,hx,rfl⟩:=List.mem_map.mp hn';obtain⟨b,h4,h5⟩:=ZjK P2 hn hx;have h6:=ZeN false x.2;have h7:=(h1 x hx).2.2.1;refine⟨b,h4,?_,?_⟩
   ·rw[ZfZ hn hx];exact s2 _ _ (s1 _ _ h5)
   ·rw[ZfZ hn hx];lia⟩
  refine⟨_,rfl,_,rfl,d,l,bk.map (·.1),usB bk,rfl,U,SqL.of e2,by rw[List.length_map];lia,fun l5 H5 s5 e5=>?_⟩;refine⟨RgX K bk p d H,⟨_,bk.map (·.1),l,l5,rfl,rfl,((sm.trans s1).trans s2).trans s5,U.same s5,SqL.of (s5 _ _ e2),e5,fun _ h=>h,by rw[List.length_map];exact hl,fun S h _=>h⟩,?_⟩;rintro m σ H6 ⟨ls,la,ga,rfl,rfl,s6,U6,hla,hga,hsub,hll,hcy⟩;refine⟨_,rfl,ga,_,rfl,.inl (SqL.of hga),_,rfl,la,_,rfl,.inl hla,_,_,rfl,rfl,_,rfl,ZaU (fun z=>?_) (fun z=>?_)⟩
  ·have z:=of_decide_eq_true z;rw[List.length_map,List.length_map] at z;have hs:∀n∈ZlG (usB bk) ls,n∈ls:=fun n hn=>(List.mem_filter.mp hn).1;refine⟨fun σ' H'=>∃m',m'<ls.length/\RgX K bk p d H m' σ' H',fun _ _ h=>h,?_⟩;exact⟨_,rfl,_,rfl,_,rfl,d,ga,ZlG (usB bk) ls,usB bk,rfl,U6.less hs,SqL.of hga,by lia,fun l7 H7 s7 e7=>⟨_,by lia,ZlG (usB bk) ls,ga,l7,rfl,rfl,s6.trans s7,(U6.less hs).same s7,SqL.of (s7 _ _ hga),e7,fun n hn=>hsub n (hs n hn),by lia,fun S h k=>Zmo k (hcy S h k)⟩⟩
  ·have hz : ¬ (ZlG (usB bk) ls).length<ls.length:=fun y=>z (decide_eq_true (by rw[List.length_map,List.length_map];lia));have hfix:=ZmX hz;cases hc:ls with
   | nil =>
    rw[hc] at hla hcy;refine⟨_,rfl,_,.inl ⟨_,hla,rfl⟩,ZbO (q1 ?_ H6 s6)⟩;rintro⟨S,hS1,hS2,hS3⟩;cases S with
    | nil=>exact hS1 rfl
    | cons a r=>exact nomatch hcy (a::r) hS2 hS3 a (List.mem_cons_self ..)
   | cons a r =>
    have hne:ls ≠ []:=fun k=>by rw[k] at hc;cases hc
    refine⟨_,rfl,_,.inl ⟨_,hla,rfl⟩,?_⟩;have e9:(!(ls.map V.str).isEmpty)=true:=by rw[hc];rfl
    rw[e9];refine Zcn ?_;refine⟨_,rfl,_,rfl,d,la,ls,usB bk,rfl,U6,hla,hne,by lia,hfix,fun l7 rg H7 s7 f7 e7 hrg=>?_⟩;have hrl:=Zc3 hrg.2.1 hrg.2.2.1;refine Zh7 (s6.trans s7) e7 (by lia) (fun n hn=>?_) (fun dx l2 H' k1 k2 k3 k4 k5=>q2 ⟨ls,hne,hsub,hfix⟩ rg dx l2 H' k1 k2 k3 k4 k5 ⟨hrg.1,hrg.2.1,fun n hn=>hsub n (hrg.2.2.1 n hn),hrg.2.2.2⟩);obtain⟨x,hx,rfl⟩:=List.mem_map.mp (hsub n (hrg.2.2.1 n hn));exact⟨hup x hx,(h1 x hx).1⟩
theorem Zi1:∀{l ns:List Str},ns.Nodup->twI ns l=none->(ns++l).Nodup
 | [],ns,h,_=>by rw[List.append_nil];exact h
 | n::l,ns,h,k=>by
  rw[twI] at k
  split at k
  ·cases k
  ·rename_i hn
   have:=Zi1 (l:=l) (ns:=ns ++ [n]) (List.nodup_append.mpr ⟨h,List.nodup_cons.mpr ⟨fun h=>(nomatch h),List.nodup_nil⟩,fun x hx y hy e=>by
    rw[List.mem_singleton.mp hy] at e;exact hn (e ▸ hx)⟩) k
   rw[List.append_assoc] at this;exact this
def OkN(bk:List (Str×Ex)):Prop:=twI [] (bk.map (·.1))=none/\lkN (bk.map (·.1)) (Zkk bk)=none /\ ¬ Cyc (usB bk) (bk.map (·.1))
def ZgG(K:PySem.W.Frag)(XB C1 C2 C3:Addr):Sp:=fun vs H Q E=>∃T,vs=[.str T]/\T.length<=5000/\Bnd T/\(∀bk,Gd T bk->∀x∈bk,Upr x.1)/\((∀bk,¬ Gd T bk)->∀H',Zk H H'->E (.ref XB) none H') /\
 (∀bk,Gd T bk -> ¬ OkN bk->∀(Cx dx:Addr)(H':Hp),Cx=C1\/Cx=C2\/Cx=C3->Zk H H'->E (.ref Cx) (some dx) H') /\
 (∀bk,Gd T bk->OkN bk->∀l ws H',Zk H H'->SqT K H' l ws->BkR K H' ws bk->Q (.ref l) H')
set_option maxHeartbeats 1000000 in
theorem ZmH(B:∀x∈ZbK,mg x=none)(g_read_pairs:HasX P w K mg base "read_pairs" ["text"] 66 (ZgA K X_NoBook)) (g_refuse_doubles:HasX P w K mg base "refuse_doubles" ["book"] 3 (ZjL K X_TwiceNamed)) (g_refuse_unnamed:HasX P w K mg base "refuse_unnamed" ["book"] 18 (Zi0 K X_NoName)) (g_refuse_rings:HasX P w K mg base "refuse_rings" ["book"] 18 (ZgX K X_Ring)) (F:Fun K "read" "read" Zex f fd):FnOk P w K mg base (CXE P w) 67 f fd ["text"] (ZgG K X_NoBook X_TwiceNamed X_NoName X_Ring):=by
 refine F.okX ZiC (fun vs H Q E h=>?_) (fun cdv A outer s H vs Q E hr h=>?_)
 ·obtain⟨T,rfl,_⟩:=h;rfl
 obtain⟨T,rfl,hT,hb,hup,q1,q2,q3⟩:=h;refine⟨_,(Zh (ZD (i:=1) ZiC.nd rfl (Or.inl rfl) (ZcL g_read_pairs Zz hr rfl (Za (pv 0) Zd)))
  (Zh (Zaw (ZcL g_refuse_doubles Zz hr rfl (Za (pv 1) Zd)))
  (Zh (Zaw (ZcL g_refuse_unnamed Zz hr rfl (Za (pv 1) Zd)))
  (Zh (Zaw (ZcL g_refuse_rings Zz hr rfl (Za (pv 1) Zd)))
  (Zi (ZL (pv 1))))))),?_⟩
 refine⟨_,rfl,T,rfl,hT,hb,fun bk g l o ws H1 s1 e1 ho hB=>?_,fun hn H1 s1=>q1 hn H1 s1⟩;have hk1:∀x∈bk,Bk1 x:=fun x hx=>((hb g.1 _ g.2.1).2 x hx).1;have hl:bk.length<=8:=g.2.2.2.1;have hS:∀H2,Zk H1 H2->SqT K H2 l ws:=fun H2 s=>.inl (.inr ⟨o,s _ _ e1⟩);refine⟨_,rfl,l,ws,bk,rfl,hS _ (Zk.refl _),hB,by lia,fun x hx=>(hk1 x hx).1,fun ht H2 s2=>?_,fun n hn dx H' k1 k2 k3=>q2 bk g (fun o=>by rw[o.1] at hn;cases hn) _ dx H' (.inl rfl) (s1.trans k1)⟩;have s12:=s1.trans s2;refine⟨_,rfl,l,o,ws,bk,rfl,s2 _ _ e1,ho,hB.same s2,by lia,hk1,fun hu H3 s3=>?_,fun n hn dx H' k1 k2 k3=>q2 bk g (fun o=>by rw[o.2.1] at hn;cases hn) _ dx H' (.inr (.inl rfl)) (s12.trans k1)⟩;have s23:=s2.trans s3;have s13:=s12.trans s3;refine⟨_,rfl,l,ws,bk,rfl,hS _ s23,hB.same s23,hl,Zi1 List.nodup_nil ht,hk1,hup bk g,fun hc H4 s4=>?_,fun hc rg dx l2 H' k1 k2 k3 k4 k5 k6=>q2 bk g (fun o=>o.2.2 hc) _ dx H' (.inr (.inr rfl)) (s13.trans k1)⟩;have s14:=s23.trans s4;exact⟨_,rfl,q3 bk g ⟨ht,hu,hc⟩ l ws H4 (s1.trans s14) (hS _ s14) (hB.same s14)⟩
inductive Alk(K:PySem.W.Frag)(H:Hp):Nat->V->V->Prop
 | str {d:Nat} {s:Str}:Alk K H (d+1) (.str s) (.str s)
 | tup {d:Nat} {p q:Addr} {xs ys:List V}:SqT K H p xs->SqT K H q ys->xs.length=ys.length->xs.length<=1000->(∀(i:Nat) x y,xs[i]?= some x->ys[i]?= some y->Alk K H d x y)->Alk K H (d+1) (.ref p) (.ref q)
theorem Alk.up{K:PySem.W.Frag}{H:Hp}{d:Nat}{x y:V}(h:Alk K H d x y):∀{e:Nat},d<=e->Alk K H e x y:=by
 induction h with
 | str =>
  intro e he;obtain⟨e,rfl⟩:∃e',e=e'+1:=⟨e-1,by lia⟩;exact .str
 | tup h1 h2 h3 h4 _ ih =>
  intro e he;obtain⟨e,rfl⟩:∃e',e=e'+1:=⟨e-1,by lia⟩;exact .tup h1 h2 h3 h4 fun i x y a b=>ih i x y a b (by lia)
theorem Alk.one{K:PySem.W.Frag}{H:Hp}{d:Nat}{p q:Addr}{a b:V}(h1:SqT K H p [a,b]){a' b':V}(h2:SqT K H q [a',b'])(k1:Alk K H d a a')(k2:Alk K H d b b'):Alk K H (d+1) (.ref p) (.ref q) :=
 .tup h1 h2 rfl (by show 2<=1000;decide) fun i x y hx hy=>by
  match i,hx,hy with
  | 0,hx,hy=>cases hx;cases hy;exact k1
  | 1,hx,hy=>cases hx;cases hy;exact k2
  | i+2,hx,_=>simp at hx
mutual
theorem Zhx{K:PySem.W.Frag}{H:Hp}:∀{e:Ex}{p q:Addr},sz e<=500->RepK K H p e->RepK K H q e->Alk K H (2*dp e+2) (.ref p) (.ref q)
 | .nil,_,_,_,.nil h1,.nil h2=>.tup h1 h2 rfl (by show 1<=1000;decide) fun i x y hx hy=>by
  match i,hx,hy with
  | 0,hx,hy=>cases hx;cases hy;exact .str
  | i+1,hx,_=>simp at hx
 | .name n,_,_,_,.name h1,.name h2=>.one h1 h2 .str .str
 | .tag t i,_,_,hs,.tag h1 r1,.tag h2 r2=>by
  have hs:sz i+1<=500:=hs;have:=Zhx (e:=i) (by lia) r1 r2;refine(Alk.tup h1 h2 rfl (by show 3<=1000;decide) (d:=2*dp i+2) fun j x y hx hy=>?_).up (by show _<=2*(dp i+1)+2;lia)
  match j,hx,hy with
  | 0,hx,hy=>cases hx;cases hy;exact .str
  | 1,hx,hy=>cases hx;cases hy;exact .str
  | 2,hx,hy=>cases hx;cases hy;exact this
  | j+3,hx,_=>simp at hx
 | .several b ps,_,_,hs,.several h1 h3 r1,.several h2 h4 r2=>by
  have hs:szs ps+1<=500:=hs;have hc:=Zhl ps;have:=ZjV (ps:=ps) (by lia) r1 r2;refine(Alk.one h1 h2 .str (Alk.tup h3 h4 (by rw[r1.length,r2.length]) (by rw[r1.length];lia) this)).up ?_;show 2*dps ps+2+1+1<=2*(dps ps+1)+2;lia
 | .rep m e,_,_,hs,.rep h1 r1,.rep h2 r2=>by
  have hs:sz e+1<=500:=hs;exact(Alk.one h1 h2 .str (Zhx (e:=e) (by lia) r1 r2)).up (by show _<=2*(dp e+1)+2;lia)
theorem ZjV{K:PySem.W.Frag}{H:Hp}:∀{ps:Exs}{xs ys:List V},szs ps<=500->RepKs K H xs ps->RepKs K H ys ps->∀(i:Nat) x y,xs[i]?= some x->ys[i]?= some y->Alk K H (2*dps ps+2) x y
 | .nil,_,_,_,.nil,.nil,i,x,y,hx,_=>by simp at hx
 | .cons e r,_,_,hs,.cons h1 r1,.cons h2 r2,i,x,y,hx,hy=>by
  have hs:sz e+szs r<=500:=hs;have hm:dp e<=dps (.cons e r)/\dps r<=dps (.cons e r):=by
   show dp e<=max (dp e) (dps r)/\dps r<=max (dp e) (dps r);lia
  match i,hx,hy with
  | 0,hx,hy =>
   cases hx;cases hy;exact(Zhx (e:=e) (by lia) h1 h2).up (by lia)
  | i+1,hx,hy=>exact(ZjV (ps:=r) (by lia) r1 r2 i x y (by simpa using hx) (by simpa using hy)).up (by lia)
end
theorem ZnP{K:PySem.W.Frag}{H:Hp}{p q:Addr}{xs ys:List V}{bk:List (Str×Ex)}(h1:SqT K H p xs)(h2:SqT K H q ys)(r1:BkR K H xs bk)(r2:BkR K H ys bk)(hl:bk.length<=8)(hk:∀x∈bk,Bk1 x):Alk K H 36 (.ref p) (.ref q):=by
 have l1:xs.length=bk.length:=Paired.length r1;have l2:ys.length=bk.length:=Paired.length r2;refine .tup h1 h2 (by lia) (by lia) fun i x y hx hy=>?_;obtain⟨z,hz,p1,q1,rfl,e1,e2⟩:=ZaP r1 hx;obtain⟨z',hz',p2,q2,rfl,e3,e4⟩:=ZaP r2 hy;rw[hz] at hz';cases hz';obtain⟨_,b2,b3,_⟩:=hk z (List.mem_of_getElem? hz);exact(Alk.one (SqT.of e1) (SqT.of e3) .str (Zhx b3 e2 e4)).up (by lia)
theorem Zca{X:Cx}:ZbR X (.builtin "isinstance") (fun xs H Q=>∃x n b,xs=[x,.ty n]/\((∃s,x=.str s/\PySem.W.kitOne X.K (.type "str") (.type n)=some b)\/∃a ys,x=.ref a/\SqT X.K H a ys/\PySem.W.kitOne X.K (.type "tuple") (.type n)=some b)/\Q (.bl b) H):=by
 intro pins s σ H xs us Q I r h;obtain⟨x,n,b,rfl,h,q⟩:=h;obtain⟨u,v,rfl,rx,ry⟩:=Vals.two r;obtain rfl:v=Value.type n:=ry;rcases h with⟨z,rfl,e⟩|⟨a,ys,rfl,hq,e⟩
 ·exact Zjz I rx (.str z) e fun tk=>⟨.bl b,H,I.tok tk,rfl,q⟩
 ·cases (show u=Value.ref a from rx);obtain⟨its,_,⟨o,h1,h2,_⟩,_⟩:=I.tuple hq;exact PySem.W.kia_one PySem.W.kitx_tuple I.kIn ⟨o,h1,h2⟩ e (fun z=>nomatch z) fun tk=>⟨.bl b,H,I.tok tk,rfl,q⟩
def Zfr(K:PySem.W.Frag)(d:Nat):Sp:=fun vs H Q _=>∃x y,vs=[x,y]/\Alk K H d x y/\Q (.bl true) H
set_option maxHeartbeats 1000000 in
theorem Zh9(d:Nat)(B:∀x∈ZbK,mg x=none)(g_l_alike:Has P w K mg base "_law_alike" ["_law_told","_law_due"] d (Zfr K d)) (F:Fun K "_law_alike" "_law_alike" ZbW f fd):FnOk P w K mg base CX0 (d+1) f fd ["_law_told","_law_due"] (Zfr K (d+1)):=by
 refine F.ok ZeH (fun vs H Q E h=>?_) (fun cdv A outer s H vs Q E hr h=>?_)
 ·obtain⟨x,y,rfl,_⟩:=h;rfl
 obtain⟨x,y,rfl,hA,q⟩:=h;have hu:=ZdZ hr;refine⟨_,(Zh (Zad (ZW (ZS K23.Zca rfl (B "isinstance" (by decide)) Zbg (Za (pv 1) (Za (ZkO rfl (B "str" (by decide)) ZlI) Zd))) (fun _=>rfl))
   (Zi (ZL (Zjj (ZS K23.Zca rfl (B "isinstance" (by decide)) Zbg (Za (pv 0) (Za (ZkO rfl (B "str" (by decide)) ZlI) Zd))) (ZiV (Zbo ZaV (pv 0) (pv 1) (ZM _))))))
   Zx)
  (Zh (Zad (PW.pt (Zk5 (Zb4 (ZW (ZS K23.Zca rfl (B "isinstance" (by decide)) Zbg (Za (pv 0) (Za (ZkO rfl (B "tuple" (by decide)) ZbZ) Zd))) (fun _=>rfl))) (Zhj (ZC Zh6 (ZS Zac rfl (B "len" (by decide)) PySem.boot_len (Za (pv 0) Zd)) (ZS Zac rfl (B "len" (by decide)) PySem.boot_len (Za (pv 1) Zd)) (ZM _)))))
   (Zi (ZL ZdD))
   Zx)
  (Zh (Zch PassesOwn.never rfl (Zcb rfl (B "range" (by decide)) (Za (ZS Zac rfl (B "len" (by decide)) PySem.boot_len (Za (pv 1) Zd)) Zd)) (ZV (i:=2) ZeH.nd rfl (Or.inl rfl))
   (Zi (Zad (Zb4 (ZW (ZR g_l_alike hr rfl (Za (Z9 Zaf (pv 0) (pv 2) (fun _ _=>rfl)) (Za (Z9 Zaf (pv 1) (pv 2) (fun _ _=>rfl)) Zd)) (by lia)) (fun _=>rfl)))
     (Zi (ZL ZdD))
     Zx)))
  (Zi (ZL ZdD))))),?_⟩
 cases hA with
 | @str _ z =>
  refine⟨_,rfl,.str z,"str",true,rfl,.inl ⟨z,rfl,rfl⟩,true,rfl,Zcn ?_⟩;refine⟨_,rfl,.str z,"str",true,rfl,.inl ⟨z,rfl,rfl⟩,true,rfl,Zcn ?_⟩;refine⟨_,rfl,_,rfl,rfl,?_⟩;rw[decide_eq_true rfl];exact q
 | @tup _ p qa xs ys h1 h2 h3 h4 k =>
  refine⟨_,rfl,.ref qa,"str",false,rfl,.inr ⟨_,_,rfl,h2,rfl⟩,false,rfl,ZbO ?_⟩;refine⟨_,rfl,.ref p,"tuple",true,rfl,.inr ⟨_,_,rfl,h1,rfl⟩,true,rfl,ZbO ?_⟩;refine⟨_,rfl,p,_,rfl,.inr h1,_,rfl,qa,_,rfl,.inr h2,rfl,_,rfl,ZaU (fun z=>absurd z (by rw[h3];simp)) (fun _=>?_)⟩;refine⟨_,rfl,qa,_,rfl,.inr h2,_,rfl,by lia,by lia,ZcS (lo:=0) (fun i σ H1=>∃(v2:Option V),σ =[some (.ref p),some (.ref qa),v2]/\H1=H) ⟨none,rfl,rfl⟩ ?_ ?_⟩
  ·rintro i σ H1 hi ⟨v2,rfl,rfl⟩;rw[Int.toNat_natCast] at hi;have hx:xs[i]?= some xs[i]:=List.getElem?_eq_getElem (by lia);have hy:ys[i]?= some ys[i]:=List.getElem?_eq_getElem (by lia);have ax:atI xs (0+(i:Int))=some xs[i]:=by rw[Int.zero_add];exact ZbP hx
   have ay:atI ys (0+(i:Int))=some ys[i]:=by rw[Int.zero_add];exact ZbP hy
   exact⟨_,rfl,_,rfl,p,_,_,_,rfl,rfl,h1,ax,_,rfl,_,rfl,qa,_,_,_,rfl,rfl,h2,ay,xs[i],ys[i],rfl,k i _ _ hx hy,true,rfl,ZbO ⟨_,rfl,rfl⟩⟩
  ·rintro σ H1 ⟨v2,rfl,rfl⟩;exact q
theorem ZfL(B:∀x∈ZbK,mg x=none)(F:Fun K "_law_cell_at" "_law_cell_at" Zbr f fd):FnOk P w K mg base CX0 1 f fd ["_law_script","_law_k"] (Zc1 K):=by
 refine F.ok ZfF (fun vs H Q E h=>?_) (fun cdv A outer s H vs Q E hr h=>?_)
 ·obtain⟨a,ns,k,rfl,_⟩:=h;rfl
 obtain⟨a,ns,k,rfl,hS,h63,h0,q⟩:=h;refine⟨_,(Zh (Zad (ZC ZfY (pv 1) (ZS Zac rfl (B "len" (by decide)) PySem.boot_len (Za (pv 0) Zd)) (ZM _))
   (Zi (ZL (Z9 Zaz (pv 0) (pv 1) (fun _ _=>rfl))))
   Zx)
  (Zi (ZL Zg))),?_⟩
 refine⟨_,rfl,_,rfl,a,_,rfl,.inl hS,_,_,rfl,rfl,_,rfl,?_⟩;refine ZaU (fun c=>?_) (fun c=>?_)
 ·have c':=of_decide_eq_true c;rw[List.length_map] at c';obtain⟨v,hv⟩:=ZmO (ns:=ns) h0 c';exact⟨_,rfl,_,rfl,a,_,k,_,rfl,rfl,hS,hv,q v⟩
 ·exact q 0
theorem Zkp{L:Str}{k:Int}(h:L.cps.toList.length=26)(h0:0<=k)(h1:k<26):∃c,atI L.cps.toList k=some c:=by
 obtain⟨n,rfl⟩:=Int.eq_ofNat_of_zero_le h0;have hn:n<L.cps.toList.length:=by lia
 exact⟨_,ZbP (List.getElem?_eq_getElem hn)⟩
theorem ZmQ{α : Type}{xs:List α}{i:Int}{v : α}(h:atI xs i=some v):v∈xs:=by
 unfold atI at h;obtain⟨j,_,h⟩:=Option.bind_eq_some_iff.mp h;exact List.mem_of_getElem? h
def smL:Str:=Str.ofString "abcdefghijklmnopqrstuvwxyz"
def grL:Str:=Str.ofString "ABCDEFGHIJKLMNOPQRSTUVWXYZ"
theorem Znn:∀x∈cs smL,97<=x/\x<=122:=by decide
theorem gr_mem:∀x∈cs grL,65<=x/\x<=90:=by decide
theorem Zfl{t:Str}(h1:1<=t.length)(h:∀x∈cs t,x∈cs smL):Zkl t:=⟨fun e=>by
 have:=congrArg List.length e;rw[show t.cps.toList.length=t.length from Array.length_toList] at this;have:t.length=0:=this;lia,fun c hc=>Znn c (h c hc)⟩
theorem Zng{t:Str}(h1:1<=t.length)(h:∀x∈cs t,x∈cs grL):Upr t:=⟨fun e=>by
 have:=congrArg List.length e;rw[Zas] at this;have:t.length=0:=this;lia,fun c hc=>gr_mem c (h c hc)⟩
def Zid:Sp:=fun vs H Q _=>∃(c:Int)(m:Nat)(L:Str),vs=[.int c,.int (m:Int),.str L]/\L.cps.toList.length=26/\m<=100/\∀t:Str,t.length=m->(∀x∈cs t,x∈cs L)->Q (.str t) H
set_option maxHeartbeats 1000000 in
theorem Ziy(B:∀x∈ZbK,mg x=none)(F:Fun K "_law_word" "_law_word" Zco f fd):FnOk P w K mg base CX0 1 f fd ["_law_cell","_law_many_here","_law_letters"] Zid:=by
 refine F.ok Zcg (fun vs H Q E h=>?_) (fun cdv A outer s H vs Q E hr h=>?_)
 ·obtain⟨c,m,L,rfl,_⟩:=h;rfl
 obtain⟨c,m,L,rfl,hL,hm,q⟩:=h;have hL2:L.length=26:=by rw[<- hL,Array.length_toList];rfl
 refine⟨_,(Zh (ZD (i:=3) Zcg.nd rfl (Or.inl rfl) Zo)
  (Zh (Zch PassesOwn.never rfl (Zcb rfl (B "range" (by decide)) (Za (pv 1) Zd)) (ZV (i:=4) Zcg.nd rfl (Or.inl rfl))
   (Zh (ZD (i:=5) Zcg.nd rfl (Or.inl rfl) (Zw Za9 (Zw ZjT (Zw ZaQ (pv 0) (Zw Za9 (pv 4) Zg)) Zg) (Zw ZjT Zg (pv 4))))
    (Zi (ZD (i:=3) Zcg.nd rfl (Or.inl rfl) (Zw Zr (pv 3) (Z9 Zjr (pv 2) (Zw Zam (Zw Zam (pv 5) Zg) Zg) (fun _ _=>rfl)))))))
  (Zi (ZL (pv 3))))),?_⟩
 refine⟨_,rfl,_,rfl,by lia,by lia,ZcS (lo:=0) (n:=((m:Int)).toNat) (fun i σ H1=>∃(t:Str)(v6 v7:Option V),σ =[some (.int c),some (.int (m:Int)),some (.str L),some (.str t),v6,v7]/\H1=H/\t.length=i/\∀x∈cs t,x∈cs L)
  ⟨"",none,none,rfl,rfl,rfl,fun x h=>nomatch h⟩ ?_ ?_⟩
 ·rintro i σ H1 hi ⟨t,v6,v7,rfl,rfl,hl,hx⟩;refine⟨_,rfl,_,rfl,_,_,rfl,rfl,_,_,rfl,rfl,⟨by lia,by lia⟩,_,_,rfl,rfl,.inr ⟨by decide,by decide⟩,_,rfl,_,_,rfl,rfl,.inl ⟨by decide,by decide⟩,_,_,rfl,rfl,?_⟩;obtain⟨ch,hch⟩:=Zkp (L:=L) (k:=(c / (0+(i:Int)+1)*48271+31*(0+(i:Int))) % 65537 % 26) hL (Int.emod_nonneg _ (by decide)) (Int.emod_lt_of_pos _ (by decide));refine⟨_,rfl,_,rfl,_,rfl,_,_,rfl,rfl,(by show(0:Int)<65537;decide),_,_,rfl,rfl,(by show(0:Int)<26;decide),_,_,ch,rfl,rfl,Zj (by lia),hch,_,_,rfl,rfl,?_,?_⟩
  ·show t.length+1<=sizeLine;exact Zj (by lia)
  ·refine⟨t++⟨#[ch]⟩,_,_,rfl,rfl,?_,fun x hm=>?_⟩
   ·rw[Zn,hl];rfl
   ·rw[ZQ] at hm;rcases List.mem_append.mp hm with hm|hm
    ·exact hx x hm
    ·have:x=ch:=List.mem_singleton.mp hm;rw[this];exact ZmQ hch
 ·rintro σ H1 ⟨t,v6,v7,rfl,rfl,hl,hx⟩;exact⟨_,rfl,q t (by lia) hx⟩
def Wf(x:Str×Ex):Prop:=Upr x.1/\x.1.length<=8/\wfE x.2
theorem ZiM{x:Str×Ex}{r:List Nat}(h:Wf x):pPair (Zbz x.1 x.2++r)=(pX 12 (cs (tx x.2)++r)).map fun y=>((x.1,y.1),y.2):=by
 unfold pPair Zbz;rw[List.append_assoc,List.append_assoc,ZeT h.1 h.2.1 fun c r' e=>by injection e with e _;lia];exact if_pos ⟨_,rfl⟩
theorem Zj3{x:Str×Ex}{r:List Nat}(h:Wf x)(hr:fE r):pPair (Zbz x.1 x.2++r)=some (x,r)\/pPair (Zbz x.1 x.2++r)=none:=by
 rw[ZiM h];rcases Zoj (L:=12) h.2.2 hr with e|e
 ·rw[e];exact .inl rfl
 ·rw[e];exact .inr rfl
theorem Zhf{x:Str×Ex}{r:List Nat}(h:Wf x)(hd:dp x.2<12)(hr:fE r):pPair (Zbz x.1 x.2++r)=some (x,r):=by
 rw[ZiM h,ZlY 12 x.2 r h.2.2 hd hr];rfl
theorem ZeY(td:List (Str×Ex)):fE (td.flatMap fun y=>[59,32]++Zbz y.1 y.2):=by
 cases td with
 | nil=>exact .inl rfl
 | cons x r=>exact .inr ⟨59,_,rfl,.inl rfl⟩
theorem ZdJ:∀bk:List (Str×Ex),bk.length<=(bk.flatMap fun y=>[59,32]++Zbz y.1 y.2).length
 | []=>Nat.zero_le _
 | e::es=>by
  have:=ZdJ es;rw[List.flatMap_cons,List.length_append,List.length_append,List.length_cons];show _<=2+_+_;lia
theorem Zni:∀(bk:List (Str×Ex))(k:Nat)(acc:List (Str×Ex)),(∀x∈bk,Wf x)->bk.length<=k->(pPs k acc (bk.flatMap fun y=>[59,32]++Zbz y.1 y.2)=some (acc++bk,[])\/pPs k acc (bk.flatMap fun y=>[59,32]++Zbz y.1 y.2)=none)/\((∀x∈bk,dp x.2<12)->pPs k acc (bk.flatMap fun y=>[59,32]++Zbz y.1 y.2)=some (acc++bk,[]))
 | [],k,acc,_,_=>by
  have e:pPs k acc []=some (acc ++ [],[]):=by
   rw[List.append_nil];exact Zhc fun⟨_,z⟩=>by cases z
  exact⟨.inl e,fun _=>e⟩
 | x::bk,0,_,_,h=>absurd h (by rw[List.length_cons];lia)
 | x::bk,k+1,acc,h,hk=>by
  have hx:=h x (List.mem_cons_self ..);have ih:=Zni bk k (acc ++ [x]) (fun y hy=>h y (List.mem_cons_of_mem _ hy)) (by rw[List.length_cons] at hk;lia);rw[List.flatMap_cons,List.append_assoc,Zln ⟨_,rfl⟩];show(_\/_)/\_;have e0:List.drop 2 ([59,32]++(Zbz x.1 x.2++bk.flatMap fun y=>[59,32]++Zbz y.1 y.2))=Zbz x.1 x.2++bk.flatMap fun y=>[59,32]++Zbz y.1 y.2:=rfl;rw[e0];rw[List.append_assoc] at ih;refine⟨?_,fun hd=>?_⟩
  ·rcases Zj3 hx (ZeY bk) with e|e
   ·rw[e];exact ih.1
   ·rw[e];exact .inr rfl
  ·rw[Zhf hx (hd x (List.mem_cons_self ..)) (ZeY bk)];exact ih.2 fun y hy=>hd y (List.mem_cons_of_mem _ hy)
theorem ZgI{bk:List (Str×Ex)}(h0:bk ≠ [])(h:∀x∈bk,Wf x):(Zcx (cs (bkT bk))=some (bk,[])\/Zcx (cs (bkT bk))=none)/\((∀x∈bk,dp x.2<12)->Zcx (cs (bkT bk))=some (bk,[])):=by
 cases bk with
 | nil=>exact absurd rfl h0
 | cons x bk =>
  have hx:=h x (List.mem_cons_self ..);have ih:=Zni bk (bk.flatMap fun y=>[59,32]++Zbz y.1 y.2).length [x] (fun y hy=>h y (List.mem_cons_of_mem _ hy)) (ZdJ bk);rw[ZdG];unfold Zcx;refine⟨?_,fun hd=>?_⟩
  ·rcases Zj3 hx (ZeY bk) with e|e
   ·rw[e];exact ih.1
   ·rw[e];exact .inr rfl
  ·rw[Zhf hx (hd x (List.mem_cons_self ..)) (ZeY bk)];exact ih.2 fun y hy=>hd y (List.mem_cons_of_mem _ hy)
structure Wr(bk:List (Str×Ex)):Prop where
 ne:bk ≠ []
 l30:bk.length<=30
 ok:∀x∈bk,Wf x/\Bk1 x
theorem Wr.bnd{bk:List (Str×Ex)}(h:Wr bk):Bnd (bkT bk):=fun _ x e=>by
 rcases(ZgI h.ne fun y hy=>(h.ok y hy).1).1 with e'|e'
 ·rw[e'] at e;cases e;exact⟨h.l30,fun y hy=>⟨(h.ok y hy).2,(h.ok y hy).1.2.2⟩⟩
 ·rw[e'] at e;cases e
theorem Wr.only{bk bk':List (Str×Ex)}(h:Wr bk)(g:Gd (bkT bk) bk'):bk'=bk:=by
 have g2:=g.2.1;rcases(ZgI h.ne fun y hy=>(h.ok y hy).1).1 with e'|e'
 ·rw[e'] at g2;exact(congrArg Prod.fst (Option.some.inj g2)).symm
 ·rw[e'] at g2;cases g2
theorem Wr.gd{bk:List (Str×Ex)}(h:Wr bk)(h4:(bkT bk).length<=400)(h8:bk.length<=8)(hd:∀x∈bk,dp x.2<12):Gd (bkT bk) bk:=⟨h4,(ZgI h.ne fun y hy=>(h.ok y hy).1).2 hd,rfl,h8,hd⟩
theorem Zd3:∀{l ns:List Str},(ns++l).Nodup->twI ns l=none
 | [],_,_=>rfl
 | n::l,ns,h=>by
  rw[twI,if_neg fun hn=>(List.nodup_append.mp h).2.2 n hn n (List.mem_cons_self ..) rfl];exact Zd3 (by rw[List.append_assoc];exact h)
theorem Zj7{bk:List (Str×Ex)}(h:∀x∈bk,∀n∈nm true x.2,n∈bk.map (·.1)):lkN (bk.map (·.1)) (Zkk bk)=none:=by
 unfold lkN;rw[List.find?_eq_none];intro n hn;obtain⟨x,hx,hn⟩:=List.mem_flatMap.mp hn
 simpa using h x hx n hn
theorem Zhp{bk:List (Str×Ex)}{x:Str×Ex}{n:Str}(hx:x∈bk)(hn:n∈nm true x.2)(h:n∉bk.map (·.1)):lkN (bk.map (·.1)) (Zkk bk)≠none:=fun e=>by
 unfold lkN at e;rw[List.find?_eq_none] at e;have:=e n (List.mem_flatMap.mpr ⟨x,hx,hn⟩);exact this (decide_eq_true h)
theorem ZjE{us:Str->List Str}{ns:List Str}(h:∀n m,m∈us n->us m=[]) : ¬ Cyc us ns:=fun⟨S,h0,_,h2⟩=>by
 obtain⟨n,r,rfl⟩:=List.exists_cons_of_ne_nil h0;obtain⟨m,h3,h4⟩:=h2 n (List.mem_cons_self ..);obtain⟨k,h5,_⟩:=h2 m h4;rw[h n m h3] at h5;cases h5
theorem ZgR{bk:List (Str×Ex)}{n m:Str}(h:m∈usB bk n):∃x∈bk,x.1=n/\m∈nm false x.2:=by
 unfold usB at h;cases hf:bk.find? fun x=>decide (x.1=n) with
 | none=>rw[hf] at h;cases h
 | some x =>
  rw[hf] at h;exact⟨x,List.mem_of_find?_eq_some hf,by have:=List.find?_some hf;simpa using this,h⟩
def Mkd(am good:Bool)(T:Str)(bk:List (Str×Ex)):Prop:=T.length<=5000/\Bnd T/\(∀bk',Gd T bk'->∀x∈bk',Upr x.1)/\(good=false->∀bk',¬ Gd T bk')/\(good=true->∃bk',Gd T bk'/\(am=true -> ¬ OkN bk'/\7<T.length)/\(am=false->bk'=bk/\OkN bk))
def PrE(H:Hp)(v:V)(x:Str×Ex):Prop := ∃t q,v=.ref t/\H t=some (.tup [.str x.1,.ref q])/\RepE H q x.2
def BkE(H:Hp)(v:V)(bk:List (Str×Ex)):Prop := ∃p ws,v=.ref p/\H p=some (.tup ws)/\Paired (PrE H) ws bk
def MkR(H:Hp)(r:Addr)(am:Bool):Prop := ∃(m:Addr)(v:V)(T:Str)(good:Bool)(bk:List (Str×Ex)),H r=some (.tup [.ref m,.bl good])/\H m=some (.tup [v,.str T])/\Mkd am good T bk/\(good=true->BkE H v bk)
def Zik(K:PySem.W.Frag):Sp:=fun vs H Q _=>∃(a:Addr)(ns:List Int)(c:Int)(am:Bool),vs=[.ref a,.int c,.bl am]/\SqL K H a (ns.map V.int)/\ns.length<=63/\∀r H',Zk H H'->MkR H' r am->Q (.ref r) H'
theorem Wr.mkd{bk bk0:List (Str×Ex)}{am good:Bool}(h:Wr bk)(hl:(bkT bk).length<=5000)(hg:good=true↔((bkT bk).length<=400/\bk.length<=8/\∀x∈bk,dp x.2<12))(h1:good=true->am=true -> ¬ OkN bk/\7<(bkT bk).length)(h2:good=true->am=false->bk=bk0/\OkN bk):Mkd am good (bkT bk) bk0:=by
 refine⟨hl,h.bnd,fun bk' g x hx=>?_,fun e bk' g=>?_,fun e=>?_⟩
 ·rw[h.only g] at hx;exact(h.ok x hx).1.1
 ·have e1:=h.only g;rw[e1] at g;have:=hg.mpr ⟨g.1,g.2.2.2.1,g.2.2.2.2⟩;rw[this] at e;cases e
 ·obtain⟨k1,k2,k3⟩:=hg.mp e;refine⟨bk,h.gd k1 k2 k3,h1 e,fun ea=>?_⟩;obtain⟨e1,e2⟩:=h2 e ea;exact⟨e1,e1 ▸ e2⟩
def PrT(H:Hp)(r p:Addr)(e:Ex):Prop:=H r=some (.tup [.ref p,.str (tx e)])/\RepE H p e
structure Rnd(e e':Ex):Prop where
 rwf:wfE e->wfE e'
 rdp:dp e'=dp e+1
 rsz:sz e'<=sz e+3
 rln:(tx e').length<=(tx e).length+20
 rnm:∀b,∀n∈nm b e',n∈nm true e\/n= "A"
 rup:∀n∈nm true e,n∈nm true e'
def ZiT:Sp:=fun vs H Q _=>∃(r p:Addr)(e:Ex)(c:Int),vs=[.ref r,.int c]/\PrT H r p e/\(tx e).length<=1000/\sz e<=100 /\
 ∀r' p' e' H',Zk H H'->PrT H' r' p' e'->Rnd e e'->Q (.ref r') H'
mutual
theorem ZkH:∀(e:Ex)(n:Str),n∈nm false e->n∈nm true e
 | .nil,_,h=>h
 | .tag _ i,_,h=>nomatch h
 | .name _,_,h=>h
 | .several _ ps,n,h=>Zlx ps n h
 | .rep _ p,n,h=>ZkH p n h
theorem Zlx:∀(ps:Exs)(n:Str),n∈nms false ps->n∈nms true ps
 | .nil,_,h=>h
 | .cons e r,n,h=>by
  rcases List.mem_append.mp h with h|h
  ·exact List.mem_append.mpr (.inl (ZkH e n h))
  ·exact List.mem_append.mpr (.inr (Zlx r n h))
end
theorem ZhI(b:Bool)(e:Ex)(n:Str)(h:n∈nm b e):n∈nm true e:=by
 cases b with
 | true=>exact h
 | false=>exact ZkH e n h
theorem ZlV(m:Nat)(hm:m<=2)(e:Ex):Rnd e (.rep m e):=by
 refine⟨fun h=>⟨hm,h⟩,rfl,by show sz e+1<=_;lia,?_,fun b n h=>.inl (ZhI b e n h),fun n h=>h⟩;have:=Zcl five (kw e) (tx e);obtain⟨c,_,_,h1⟩:=Zd6 (i:=m) (by lia);rw[tx,Zn,h1];lia
theorem Zmm{t:Str}(ht:Zkl t)(h8:t.length<=8)(e:Ex):Rnd e (.tag t e):=by
 refine⟨fun h=>⟨⟨ht,h8⟩,h⟩,rfl,by show sz e+1<=_;lia,?_,fun b n h=>?_,fun n h=>h⟩
 ·rw[tx]
  split
  ·lia
  ·rw[Zn,Zn,Zn];show _+1+_+1<=_;lia
 ·rw[nm] at h
  split at h
  ·exact .inl (ZhI b e n h)
  ·cases h
def Bsd(x:Ex):Prop:=x=.nil\/x=.name "A"
theorem Bsd.facts{x:Ex}(h:Bsd x):wfE x/\dp x=0/\sz x=1/\(tx x).length<=2/\(∀b,∀n∈nm b x,n= "A")/\∀l:List Str,(l=(["turn","or"]:List Str)\/l=(["or"]:List Str))->brc l (kw x) (tx x)=tx x:=by
 rcases h with rfl|rfl
 ·refine⟨trivial,rfl,rfl,by decide,fun _ _ h=>(nomatch h),fun l hl=>?_⟩
  rcases hl with rfl|rfl <;> rfl
 ·refine⟨⟨⟨by decide,by decide⟩,by decide⟩,rfl,rfl,by decide,fun _ _ h=>List.mem_singleton.mp h,fun l hl=>?_⟩;rcases hl with rfl|rfl <;> rfl
theorem Zji(b fl:Bool){x e:Ex}(hx:Bsd x):Rnd e (.several b (ofL (if fl=true then [x,e] else [e,x]))):=by
 obtain⟨x1,x2,x3,x4,x5,x6⟩:=hx.facts;have hb:=Zcl (Zbk b) (kw e) (tx e);have hs:Zbk b=(["turn","or"]:List Str)\/Zbk b=(["or"]:List Str):=by
  cases b with
  | true=>exact .inl rfl
  | false=>exact .inr rfl
 have h3:(Zg7 b).length<=3:=by cases b <;> decide
 have hj:∀u v:Str,(Txt.join (Zg7 b) [u,v]).length<=u.length+v.length+3:=fun u v=>by
  rw[<- Zas,Zfc,Zd5];simp only[List.flatMap_cons,List.flatMap_nil,List.length_append,List.length_nil,Zas];lia
 cases fl with
 | true =>
  refine⟨fun h=>⟨Nat.le_refl _,x1,h,trivial⟩,?_,?_,?_,fun b' n h=>?_,fun n h=>?_⟩
  ·show max (dp x) (max (dp e) 0)+1=_;lia
  ·show sz x+(sz e+0)+1<=_;lia
  ·show(Txt.join (Zg7 b) [brc (Zbk b) (kw x) (tx x),brc (Zbk b) (kw e) (tx e)]).length<=_;have:=hj (brc (Zbk b) (kw x) (tx x)) (brc (Zbk b) (kw e) (tx e));rw[x6 _ hs] at this ⊢;lia
  ·have h:n∈nm b' x++(nm b' e ++ []):=h;rcases List.mem_append.mp h with h|h
   ·exact .inr (x5 b' n h)
   ·rw[List.append_nil] at h;exact .inl (ZhI b' e n h)
  ·show n∈nm true x++(nm true e ++ []);rw[List.append_nil];exact List.mem_append.mpr (.inr h)
 | false =>
  refine⟨fun h=>⟨Nat.le_refl _,h,x1,trivial⟩,?_,?_,?_,fun b' n h=>?_,fun n h=>?_⟩
  ·show max (dp e) (max (dp x) 0)+1=_;lia
  ·show sz e+(sz x+0)+1<=_;lia
  ·show(Txt.join (Zg7 b) [brc (Zbk b) (kw e) (tx e),brc (Zbk b) (kw x) (tx x)]).length<=_;have:=hj (brc (Zbk b) (kw e) (tx e)) (brc (Zbk b) (kw x) (tx x));rw[x6 _ hs] at this ⊢;lia
  ·have h:n∈nm b' e++(nm b' x ++ []):=h;rcases List.mem_append.mp h with h|h
   ·exact .inl (ZhI b' e n h)
   ·rw[List.append_nil] at h;exact .inr (x5 b' n h)
  ·show n∈nm true e++(nm true x ++ []);exact List.mem_append.mpr (.inl h)
def Zig:List V:=[.str "many",.str "some",.str "maybe",.str "tag",.str "turn",.str "or"]
theorem ZnD{j:Int}(h0:0<=j)(h1:j<6):∃wy:Str,atI Zig j=some (.str wy)/\((∃m,m<=2/\wy=ZbI m)\/wy= "tag" \/ ∃b,wy=ZeF b):=by
 rcases(by lia:j=0\/j=1\/j=2\/j=3\/j=4\/j=5) with rfl|rfl|rfl|rfl|rfl|rfl
 ·exact⟨_,rfl,.inl ⟨0,by decide,rfl⟩⟩
 ·exact⟨_,rfl,.inl ⟨1,by decide,rfl⟩⟩
 ·exact⟨_,rfl,.inl ⟨2,by decide,rfl⟩⟩
 ·exact⟨_,rfl,.inr (.inl rfl)⟩
 ·exact⟨_,rfl,.inr (.inr ⟨true,rfl⟩)⟩
 ·exact⟨_,rfl,.inr (.inr ⟨false,rfl⟩)⟩
def mkK:List (Key×V):=[(.inr "many",.str "*"),(.inr "some",.str "+"),(.inr "maybe",.str "?")]
theorem Zjp{m:Nat}(h:m<=2):Zcw mkK (.inr (ZbI m))=some (.str (Zei m)):=by
 match m,h with
 | 0,_=>rfl
 | 1,_=>rfl
 | 2,_=>rfl
theorem Znm{wy:Str}(h:wy= "tag" \/ ∃b,wy=ZeF b):Zcw mkK (.inr wy)=none:=by
 rcases h with rfl|⟨b,rfl⟩
 ·rfl
 ·cases b <;> rfl
theorem Zn1{e:Ex}{t:Str}(b:Bool)(h:kw e= "or"):brc five (kw e) t=brc (Zbk b) (kw e) t:=by
 rw[h];cases b <;> rfl
theorem ZkT{e:Ex}{t:Str}(h:kw e= "turn"):brc five (kw e) t=brc (Zbk true) (kw e) t:=by
 rw[h];rfl
theorem ZiQ{e:Ex}{t:Str}{b:Bool}(h1:kw e ≠ "or") (h2:b=true->kw e ≠ "turn"):brc (Zbk b) (kw e) t=t:=by
 unfold brc;rw[if_neg];intro h;have h:=List.contains_iff_mem.mp h;cases b with
 | true =>
  rcases List.mem_cons.mp h with h|h
  ·exact h2 rfl h
  ·exact h1 (List.mem_singleton.mp h)
 | false=>exact h1 (List.mem_singleton.mp h)
theorem Znb(b:Bool):atI [V.str " ",.str " | "] (if decide (V.str (ZeF b)=V.str "or")=true then 1 else 0)=some (.str (Zg7 b)):=by
 cases b <;> rfl
set_option maxHeartbeats 4000000 in
theorem Zf2(B:∀x∈ZbK,mg x=none)(g_l_word:Has P w K mg base "_law_word" ["_law_cell","_law_many_here","_law_letters"] 1 Zid) (F:Fun K "_law_wrapped" "_law_wrapped" Zy f fd):FnOk P w K mg base CX0 2 f fd ["_law_made_here","_law_cell"] ZiT:=by
 refine F.ok ZX (fun vs H Q E h=>?_) (fun cdv A outer s H vs Q E hr h=>?_)
 ·obtain⟨r,p,e,c,rfl,_⟩:=h;rfl
 obtain⟨r,p,e,c,rfl,hP,hln,hsz,q⟩:=h;have hu:=ZdZ hr;have hu1:(A.deeper (PyProof.Rows.envOfC (Str.ofString "_law_wrapped") (Zf Zy) s.heap.objs.size f cdv)).units+1<cLine:=by have:=hr.un;lia
 refine ZbA ((Ze Zy).drop 13) (ZaT (ZbQ (Zt (Zc (Zt (Zc (PEi.of (pv 6)) (Zc (Zt (Zc (PEi.of (Z9 Zaf (Z9 Zaz (pv 9) Zg (fun _ _=>rfl)) Zg (fun _ _=>rfl))) (Zc (PEi.of (Z9 Zaf (Z9 Zaz (pv 9) Zg (fun _ _=>rfl)) Zg (fun _ _=>rfl))) Zm))) Zm))) (Zc (PEi.of (ZbT PySem.F.plainAttrs_str PySem.F.slot_str_join PySem.F.type_str_join Zdl (pv 10) (Za (ZcP (cl:=[]) ["_law_part"] [] (Zb1 (pv 9)) (fun _ _ _ _=>(ZV (i:=0) nd1 rfl (Or.inl rfl))) (fun _ _ _ _=>(Z9 (Zjh (K:=K) rfl) (pv 0) Zg (fun _ _=>rfl))) rfl rfl (by decide) rfl (by decide) (fun _ _ h=>nomatch h) (Zds (by decide)) (fun _ _ h=>nomatch h) (fun _=>rfl)) Zd))) Zm))))) (fun u13 h13 e13=>?_)
 refine Zap ((Ze Zy).drop 12) (Zq (ZD (i:=10) ZX.nd rfl (Or.inl rfl) (Z9 Zaz (PEi.to (Zbh (Zc Zv (Zc Zv Zm)))) (ZaG Zc5 rfl (B "int" (by decide)) ZhF (Za (Zbo ZaV (pv 6) Zo (ZM _)) Zd)) (fun _ _=>rfl))) h13) (fun u12 h12 e12=>?_);refine ZgQ ((Za6 ((Ze Zy).getD 11 (.Pass ⟨0,0,0,0⟩))).drop 0) (ZaT (Zay (i:=9) ZX.nd rfl (Or.inl rfl) (Zbh (Zc (PEi.of (pv 8)) (Zc (Zt (Zc (PEi.of (pv 2)) (Zc (PEi.of (pv 3)) Zm))) Zm))))) (fun u11t0 h11t0 e11t0=>?_);refine Zap ((Ze Zy).drop 11) (Zq (Zad (ZC ZaV (Zw Zam (Zw ZaQ (pv 1) Zg) Zg) Zg (ZM _)) h11t0 Zx) h12) (fun u11 h11 e11=>?_);refine ZbA ((Ze Zy).drop 10) (Z0 (Zay (i:=9) ZX.nd rfl (Or.inl rfl) (Zbh (Zc (Zt (Zc (PEi.of (pv 2)) (Zc (PEi.of (pv 3)) Zm))) (Zc (PEi.of (pv 8)) Zm)))) h11) (fun u10 h10 e10=>?_);refine Zap ((Ze Zy).drop 9) (Zq (Zad (PW.pt (Zk5 (ZC ZaV (Z9 Zaf (pv 2) Zg (fun _ _=>rfl)) Zo (ZM _)) (Zhj (PW.pt (Zf7 (ZC ZaV (pv 6) Zo (ZM _)) (ZdL (ZC ZaV (Z9 Zaf (pv 2) Zg (fun _ _=>rfl)) Zo (ZM _)))))))) (Zi (ZD (i:=3) ZX.nd rfl (Or.inl rfl) (pv 4))) Zx) h10) (fun u9 h9 e9=>?_);refine ZgQ ((Za6 ((Ze Zy).getD 8 (.Pass ⟨0,0,0,0⟩))).drop 0) (ZaT (Zay (i:=8) ZX.nd rfl (Or.inl rfl) (Zt (Zc (Zt (Zc Zv (Zc Zv Zm))) (Zc Zv Zm))))) (fun u8t0 h8t0 e8t0=>?_);refine Zap ((Ze Zy).drop 8) (Zq (Zad (ZC ZaV (Zw Zam (Zw ZaQ (pv 1) Zg) Zg) Zg (ZM _)) h8t0 Zx) h9) (fun u8 h8 e8=>?_);refine ZbA ((Ze Zy).drop 7) (Z0 (Zay (i:=8) ZX.nd rfl (Or.inl rfl) (Zt (Zc (Zt (Zc Zv Zm)) (Zc Zv Zm)))) h8) (fun u7 h7 e7=>?_);refine ZbA ((Za6 ((Ze Zy).getD 6 (.Pass ⟨0,0,0,0⟩))).drop 1) (ZaT (ZbQ (Zt (Zc (Zt (Zc Zv (Zc (PEi.of (pv 7)) (Zc (PEi.of (pv 2)) Zm)))) (Zc (PEi.of (Z9 Zaz (PEi.to (Zbh (Zc (PEi.of (Zw Zr (Zw Zr (Zw Zr (pv 7) Zo) (pv 3)) Zo)) (Zc (PEi.of (pv 7)) Zm)))) (ZaG Zc5 rfl (B "int" (by decide)) ZhF (Za (Zbo (Zjo hu) (pv 2) (PEi.to (Zt (Zc Zv Zm))) (ZM _)) Zd)) (fun _ _=>rfl))) Zm))))) (fun u6t1 h6t1 e6t1=>?_);refine ZcJ ((Za6 ((Ze Zy).getD 6 (.Pass ⟨0,0,0,0⟩))).drop 0) (Zq (ZD (i:=7) ZX.nd rfl (Or.inl rfl) (ZR g_l_word hr rfl (Za (Zw ZaQ (pv 1) Zg) (Za (Zw Za9 Zg (Zw Zam (Zw ZaQ (pv 1) Zg) Zg)) (Za Zo Zd))))) h6t1) (fun u6t0 h6t0 e6t0=>?_);refine Zap ((Ze Zy).drop 6) (Zq (Zad (ZC ZaV (pv 6) Zo (ZM _)) h6t0 Zx) h7) (fun u6 h6 e6=>?_);refine ZgQ ((Za6 ((Ze Zy).getD 5 (.Pass ⟨0,0,0,0⟩))).drop 0) (ZaT (ZbQ (Zt (Zc (Zt (Zc (PEi.of (pv 6)) (Zc (PEi.of (pv 2)) Zm))) (Zc (PEi.of (Zw Zr (pv 4) (Zgz hu1 (pv 5) (pv 6) (fun _ _=>rfl)))) Zm))))) (fun u5t0 h5t0 e5t0=>?_);refine Zap ((Ze Zy).drop 5) (Zq (Zad (ZjB (Zlh hu1 (pv 6) (pv 5))) h5t0 Zx) h6) (fun u5 h5 e5=>?_);refine ZbA ((Ze Zy).drop 4) (Z0 (Zay (i:=6) ZX.nd rfl (Or.inl rfl) (ZfB Zaz (Zbh (Zc Zv (Zc Zv (Zc Zv (Zc Zv (Zc Zv (Zc Zv Zm))))))) (Zw Zam (pv 1) Zg) (fun _ _=>rfl))) h5) (fun u4 h4 e4=>?_);refine ZbA ((Ze Zy).drop 3) (Z0 (Zay (i:=5) ZX.nd rfl (Or.inl rfl) Zix) h4) (fun u3 h3 e3=>?_);refine Zap ((Ze Zy).drop 2) (Zq (Zad (ZC Zcm (Z9 Zaf (pv 2) Zg (fun _ _=>rfl)) (PEi.to (Zt (Zc Zv (Zc Zv (Zc Zv (Zc Zv (Zc Zv Zm))))))) (by with_unfolding_all rfl)) (Zi (ZD (i:=4) ZX.nd rfl (Or.inl rfl) (Zw Zr (Zw Zr Zo (pv 3)) Zo))) Zx) h3) (fun u2 h2 e2=>?_)
 refine Zap ((Ze Zy).drop 1) (Zq (ZD (i:=4) ZX.nd rfl (Or.inl rfl) (pv 3)) h2) (fun u1 h1 e1=>?_);refine Zap ((Ze Zy).drop 0) (Zq (Zjl (pv 0) (ZdW rfl (Zar (ZV (i:=2) ZX.nd rfl (Or.inl rfl)) (Zar (ZV (i:=3) ZX.nd rfl (Or.inl rfl)) Zb0)))) h1) (fun u0 h0 e0=>?_);refine ZlX h0 ?_;refine ZF e0 ?_;refine⟨_,rfl,r,_,rfl,SqT.of hP.1,rfl,_,_,rfl,_,_,rfl,rfl,?_⟩;show u1 _ _ _;refine ZF e1 ?_;refine⟨_,rfl,?_⟩;show u2 _ _ _;refine ZF e2 ?_;obtain⟨rr,htop,hre⟩:=hP.2.top;have hbl:=Zcl five (kw e) (tx e);have rest:∀H1,Zk H H1->u3 { nx:=fun _ H'=>Q .non H',rt:=Q } [some (.ref r),some (.int c),some (.ref p),some (.str (tx e)),some (.str (brc five (kw e) (tx e))),none,none,none,none,none,none] H1:=by
  intro H1 s1;refine ZF e3 ?_;refine fun d hd=>⟨Zb,mkK,rfl,by decide,?_⟩;have s2:Zk H1 (upd (upd H1 d (.dK [])) d (.dK mkK)):=fun b o hb=>by
   have:b≠d:=fun z=>by rw[z,hd] at hb;cases hb
   rw[Zu this,Zu this];exact hb
  have x2:upd (upd H1 d (.dK [])) d (.dK mkK) d=some (.dK mkK):=Zb;show u4 _ _ (upd (upd H1 d (.dK [])) d (.dK mkK));generalize upd (upd H1 d (.dK [])) d (.dK mkK)=H2 at s2 x2 ⊢;refine ZF e4 ?_;refine⟨(by show 6<=sizeLine;decide),fun l3 hl3=>?_⟩;have s3:Zk H2 (upd H2 l3 (.lst Zig)):=Zk.new hl3;have x3:upd H2 l3 (.lst Zig) l3=some (.lst Zig):=Zb;obtain⟨wy,hwy,hcase⟩:=ZnD (j:=c % 6) (Int.emod_nonneg _ (by decide)) (Int.emod_lt_of_pos _ (by decide));refine⟨_,rfl,_,_,rfl,rfl,(by show(0:Int)<6;decide),l3,_,_,_,rfl,rfl,SqL.of x3,hwy,?_⟩;show u5 _ _ (upd H2 l3 (.lst Zig));generalize upd H2 l3 (.lst Zig)=H3 at s3 x3 ⊢;have s03:=(s1.trans s2).trans s3;have x2':=s3 _ _ x2;refine ZF e5 ?_;refine⟨_,rfl,_,rfl,d,_,rfl,Zgf.k (k:=.inr wy) x2',_,rfl,?_⟩;rcases hcase with⟨m,hm,rfl⟩|hno
  ·rw[Zjp hm];refine Zcn ?_;refine ZF e5t0 ?_;refine⟨_,rfl,_,rfl,(by show 2<=sizeLine;decide),fun t4 ht4=>?_⟩;have s4:Zk H3 (upd H3 t4 (.tup [.str (ZbI m),.ref p])):=Zk.new ht4;have x4:upd H3 t4 (.tup [.str (ZbI m),.ref p]) t4=some (.tup [.str (ZbI m),.ref p]):=Zb;generalize upd H3 t4 (.tup [.str (ZbI m),.ref p])=H4 at s4 x4 ⊢;refine⟨_,rfl,_,rfl,_,rfl,d,.str (Zei m),rfl,by rw[<- Zjp hm];exact Zgf.k (k:=.inr (ZbI m)) (s4 _ _ x2'),_,_,rfl,rfl,Zj (by obtain⟨_,_,_,h1⟩:=Zd6 (i:=m) (by lia);rw[h1];lia),?_⟩;refine⟨(by show 2<=sizeLine;decide),fun t5 ht5=>?_⟩;have s5:=Zk.new (o:=.tup [.ref t4,.str (brc five (kw e) (tx e)++Zei m)]) ht5;exact q t5 t4 (.rep m e) _ ((s03.trans s4).trans s5) ⟨Zb,.rep (s5 _ _ x4) (hP.2.mono ((s03.trans s4).trans s5).tk)⟩ (ZlV m hm e)
  rw[Znm hno];refine ZbO ?_;show u6 _ _ _;refine ZF e6 ?_;refine⟨_,rfl,rfl,_,rfl,?_⟩;rcases hno with rfl|⟨b,rfl⟩
  ·refine ZaU (fun _=>?_) (fun z=>absurd (decide_eq_true rfl) z);refine ZF e6t0 ?_;have m0:=Int.emod_nonneg (c / 6) (by decide:(8:Int)≠0);have m1:=Int.emod_lt_of_pos (c / 6) (by decide:(0:Int)<8);refine⟨_,rfl,_,_,rfl,rfl,⟨by decide,by decide⟩,_,rfl,_,_,rfl,rfl,⟨by decide,by decide⟩,_,_,rfl,rfl,(by show(0:Int)<8;decide),_,_,rfl,rfl,c / 6,(1+c / 6 % 8).toNat,smL,?_,rfl,by lia,fun t ht hx=>?_⟩
   ·rw[Int.toNat_of_nonneg (by lia)];rfl
   have hL:=Zfl (t:=t) (by lia) hx;show u6t1 _ _ _;refine ZF e6t1 ?_;refine⟨_,rfl,_,rfl,(by show 3<=sizeLine;decide),fun t4 ht4=>?_⟩;have s4:Zk H3 (upd H3 t4 (.tup [.str "tag",.str t,.ref p])):=Zk.new ht4;have x4:upd H3 t4 (.tup [.str "tag",.str t,.ref p]) t4=some (.tup [.str "tag",.str t,.ref p]):=Zb;generalize upd H3 t4 (.tup [.str "tag",.str t,.ref p])=H4 at s4 x4 ⊢;have l1:(t ++ "(").length<=20:=by rw[Zn];show _+1<=_;lia
   have l2:(t ++ "(" ++ tx e).length<=2000:=by rw[Zn];lia
   refine⟨_,rfl,_,_,rfl,rfl,Zj (by show _+1<=_;lia),_,rfl,_,_,rfl,rfl,Zj (by lia),_,_,rfl,rfl,Zj (by show _+1<=_;lia),_,rfl,(by show 2<=sizeLine;decide),fun l5 hl5=>?_⟩;have s5:Zk H4 (upd H4 l5 (.lst [.str (t ++ "(" ++ tx e ++ ")"),.str t])):=Zk.new hl5;have x5:upd H4 l5 (.lst [.str (t ++ "(" ++ tx e ++ ")"),.str t]) l5=some (.lst [.str (t ++ "(" ++ tx e ++ ")"),.str t]):=Zb;generalize upd H4 l5 (.lst [.str (t ++ "(" ++ tx e ++ ")"),.str t])=H5 at s5 x5 ⊢;refine⟨_,rfl,(by show 1<=sizeLine;decide),fun t6 ht6=>?_⟩;have s6:Zk H5 (upd H5 t6 (.tup [.str "nil"])):=Zk.new ht6;have x6:upd H5 t6 (.tup [.str "nil"]) t6=some (.tup [.str "nil"]):=Zb;generalize upd H5 t6 (.tup [.str "nil"])=H6 at s6 x6 ⊢;have s06:=((s03.trans s4).trans s5).trans s6;refine⟨p,t6,kw e,rr,"nil",rfl,rfl,SqT.of (s06 _ _ htop),SqT.of x6,?_⟩;rw[hre,Zio];have hat:atI [V.str (t ++ "(" ++ tx e ++ ")"),.str t] (if Zck e=true then 1 else 0)=some (.str (tx (.tag t e))):=by
    rw[tx];by_cases hn:Zck e=true
    ·rw[if_pos hn,if_pos hn];rfl
    ·rw[if_neg hn,if_neg hn];rfl
   refine⟨_,rfl,l5,_,_,_,rfl,rfl,SqL.of (s6 _ _ x5),hat,?_⟩;refine⟨(by show 2<=sizeLine;decide),fun t7 ht7=>?_⟩;have s7:=Zk.new (o:=.tup [.ref t4,.str (tx (.tag t e))]) ht7;exact q t7 t4 (.tag t e) _ (s06.trans s7) ⟨Zb,.tag (((s5.trans s6).trans s7) _ _ x4) (hP.2.mono (s06.trans s7).tk)⟩ (Zmm hL (by lia) e)
  ·refine ZaU (fun z=>absurd (of_decide_eq_true z) (by cases b <;> decide)) (fun _=>?_)
   have fin:∀(H7:Hp)(l y1 y2 q1 q2:Addr)(e1 e2:Ex)(v3 v8:Option V),Zk H H7->H7 l=some (.lst [.ref y1,.ref y2])->H7 y1=some (.tup [.ref q1,.str (brc (Zbk b) (kw e1) (tx e1))])->H7 y2=some (.tup [.ref q2,.str (brc (Zbk b) (kw e2) (tx e2))])->RepE H7 q1 e1->RepE H7 q2 e2->Rnd e (.several b (ofL [e1,e2]))->(tx e1).length<=1000->(tx e2).length<=1000 ->
     u12 { nx:=fun _ H'=>Q .non H',rt:=Q } [some (.ref r),some (.int c),some (.ref p),v3,some (.str (brc five (kw e) (tx e))),some (.ref d),some (.str (ZeF b)),none,v8,some (.ref l),none] H7:=by
    intro H7 l y1 y2 q1 q2 e1 e2 v3 v8 s7 hl hy1 hy2 r1 r2 hR n1 n2;refine ZF e12 ?_;refine⟨(by show 2<=sizeLine;decide),fun l8 hl8=>?_⟩;have s8:Zk H7 (upd H7 l8 (.lst [.str " ",.str " | "])):=Zk.new hl8;have x8:upd H7 l8 (.lst [.str " ",.str " | "]) l8=some (.lst [.str " ",.str " | "]):=Zb;generalize upd H7 l8 (.lst [.str " ",.str " | "])=H8 at s8 x8 ⊢;refine⟨_,rfl,rfl,_,rfl,l8,_,_,_,rfl,rfl,SqL.of x8,Znb b,?_⟩;show u13 _ _ _;refine ZF e13 ?_;refine⟨_,rfl,_,rfl,l,_,0,_,rfl,rfl,SqL.of (s8 _ _ hl),at0,y1,_,0,_,rfl,rfl,SqT.of (s8 _ _ hy1),at0,_,rfl,l,_,1,_,rfl,rfl,SqL.of (s8 _ _ hl),rfl,y2,_,0,_,rfl,rfl,SqT.of (s8 _ _ hy2),at0,(by show 2<=sizeLine;decide),fun t9 ht9=>?_⟩;have s9:Zk H8 (upd H8 t9 (.tup [.ref q1,.ref q2])):=Zk.new ht9;have x9:upd H8 t9 (.tup [.ref q1,.ref q2]) t9=some (.tup [.ref q1,.ref q2]):=Zb;generalize upd H8 t9 (.tup [.ref q1,.ref q2])=H9 at s9 x9 ⊢;refine⟨(by show 2<=sizeLine;decide),fun t10 ht10=>?_⟩;have s10:Zk H9 (upd H9 t10 (.tup [.str (ZeF b),.ref t9])):=Zk.new ht10;have x10:upd H9 t10 (.tup [.str (ZeF b),.ref t9]) t10=some (.tup [.str (ZeF b),.ref t9]):=Zb;generalize upd H9 t10 (.tup [.str (ZeF b),.ref t9])=H10 at s10 x10 ⊢;have s710:=(s8.trans s9).trans s10;have hl10:=s710 _ _ hl;refine⟨_,rfl,rfl,_,rfl,l,rfl,⟨_,SqL.of hl10⟩,fun pl hpl=>Zcd (K:=K) (a:=l) (p:=pl) (xs:=[.ref y1,.ref y2]) (fun i ys σ H'=>∃v0:Option V,σ =[v0]/\Zk H10 H'/\H' pl=some (.lst ys)/\ys=(([brc (Zbk b) (kw e1) (tx e1),brc (Zbk b) (kw e2) (tx e2)]:List Str).take i).map V.str)
     ⟨none,rfl,Zk.new hpl,Zb,rfl⟩ ?_ ?_ ?_⟩
    ·rintro i ys σ H' _ ⟨v0,_,sm,hp',_⟩;exact⟨SqL.of (sm _ _ hl10),hp'⟩
    ·rintro i ys x σ H' hi hx ⟨v0,rfl,sm,hp',rfl⟩
     match i,hx with
     | 0,hx =>
      cases hx;exact⟨_,rfl,y1,_,1,_,rfl,rfl,SqT.of (sm _ _ (s710 _ _ hy1)),rfl,hp',Z3 (by show 0<=_;lia),CW.next hi ⟨_,rfl,sm.upd_new hpl,Zb,rfl⟩⟩
     | 1,hx =>
      cases hx;exact⟨_,rfl,y2,_,1,_,rfl,rfl,SqT.of (sm _ _ (s710 _ _ hy2)),rfl,hp',Z3 (by show 1<=_;lia),CW.next hi ⟨_,rfl,sm.upd_new hpl,Zb,rfl⟩⟩
     | i+2,hx=>cases hx
    ·rintro ys σ H' ⟨v0,_,sm,hp',rfl⟩;have hb1:=Zcl (Zbk b) (kw e1) (tx e1);have hb2:=Zcl (Zbk b) (kw e2) (tx e2);have h3:(Zg7 b).length<=3:=by cases b <;> decide
     refine⟨Zg7 b,pl,[brc (Zbk b) (kw e1) (tx e1),brc (Zbk b) (kw e2) (tx e2)],rfl,rfl,SqL.of hp',?_,?_⟩
     ·simp only[List.map_cons,List.map_nil,List.sum_cons,List.sum_nil,List.length_cons,List.length_nil];exact Zj (by lia)
     refine⟨(by show 2<=sizeLine;decide),fun t11 ht11=>?_⟩;have s11:=Zk.new (o:=.tup [.ref t10,.str (Txt.join (Zg7 b) [brc (Zbk b) (kw e1) (tx e1),brc (Zbk b) (kw e2) (tx e2)])]) ht11;have s711:=(s710.trans sm).trans s11;exact q t11 t10 (.several b (ofL [e1,e2])) _ (s7.trans s711) ⟨Zb,.several ((sm.trans s11) _ _ x10) (((s10.trans sm).trans s11) _ _ x9) (.cons (r1.mono s711.tk) (.cons (r2.mono s711.tk) .nil))⟩ hR
   have r10:∀(H5:Hp)(bt bp:Addr)(x:Ex),Zk H H5->Bsd x->PrT H5 bt bp x->u10 { nx:=fun _ H'=>Q .non H',rt:=Q } [some (.ref r),some (.int c),some (.ref p),some (.str (brc (Zbk b) (kw e) (tx e))),some (.str (brc five (kw e) (tx e))),some (.ref d),some (.str (ZeF b)),none,some (.ref bt),none,none] H5:=by
    intro H5 bt bp x s5 hx hbt;have hs:Zbk b=(["turn","or"]:List Str)\/Zbk b=(["or"]:List Str):=by
     cases b with
     | true=>exact .inl rfl
     | false=>exact .inr rfl
    have hx6:=hx.facts.2.2.2.2.2 _ hs;have hx4:=hx.facts.2.2.2.1;refine ZF e10 ?_;refine⟨_,rfl,_,rfl,(by show 2<=sizeLine;decide),fun y6 hy6=>?_⟩;have s6:Zk H5 (upd H5 y6 (.tup [.ref p,.str (brc (Zbk b) (kw e) (tx e))])):=Zk.new hy6;have x6:upd H5 y6 (.tup [.ref p,.str (brc (Zbk b) (kw e) (tx e))]) y6=some (.tup [.ref p,.str (brc (Zbk b) (kw e) (tx e))]):=Zb;generalize upd H5 y6 (.tup [.ref p,.str (brc (Zbk b) (kw e) (tx e))])=H6 at s6 x6 ⊢;refine⟨_,rfl,(by show 2<=sizeLine;decide),fun l7 hl7=>?_⟩;have s7:Zk H6 (upd H6 l7 (.lst [.ref y6,.ref bt])):=Zk.new hl7;have x7:upd H6 l7 (.lst [.ref y6,.ref bt]) l7=some (.lst [.ref y6,.ref bt]):=Zb;show u11 _ _ (upd H6 l7 (.lst [.ref y6,.ref bt]));generalize upd H6 l7 (.lst [.ref y6,.ref bt])=H7 at s7 x7 ⊢;have s57:=s6.trans s7;have hb7:H7 bt=some (.tup [.ref bp,.str (brc (Zbk b) (kw x) (tx x))]):=by rw[hx6];exact s57 _ _ hbt.1
    refine ZF e11 ?_;refine⟨_,rfl,_,_,rfl,rfl,⟨by decide,by decide⟩,_,_,rfl,rfl,(by show(0:Int)<2;decide),rfl,_,rfl,ZaU (fun _=>?_) (fun _=>?_)⟩
    ·refine ZF e11t0 ?_;refine⟨_,rfl,_,rfl,_,rfl,(by show 2<=sizeLine;decide),fun y8 hy8=>?_⟩;have s8:Zk H7 (upd H7 y8 (.tup [.ref p,.str (brc (Zbk b) (kw e) (tx e))])):=Zk.new hy8;have x8:upd H7 y8 (.tup [.ref p,.str (brc (Zbk b) (kw e) (tx e))]) y8=some (.tup [.ref p,.str (brc (Zbk b) (kw e) (tx e))]):=Zb;generalize upd H7 y8 (.tup [.ref p,.str (brc (Zbk b) (kw e) (tx e))])=H8 at s8 x8 ⊢;refine⟨(by show 2<=sizeLine;decide),fun l9 hl9=>?_⟩;have s9:Zk H8 (upd H8 l9 (.lst [.ref bt,.ref y8])):=Zk.new hl9;have s59:=s57.trans (s8.trans s9);exact fin _ l9 bt y8 bp p x e _ _ (s5.trans s59) Zb ((s8.trans s9) _ _ hb7) (s9 _ _ x8) (hbt.2.mono s59.tk) (hP.2.mono (s5.trans s59).tk) (Zji b true hx) (by lia) hln
    ·exact fin H7 l7 y6 bt p bp e x _ _ (s5.trans s57) x7 (s7 _ _ x6) hb7 (hP.2.mono (s5.trans s57).tk) (hbt.2.mono s57.tk) (Zji b false hx) hln (by lia)
   have r9:∀(H5:Hp)(bt bp:Addr)(x:Ex),Zk H H5->Bsd x->PrT H5 bt bp x->u9 { nx:=fun _ H'=>Q .non H',rt:=Q } [some (.ref r),some (.int c),some (.ref p),some (.str (tx e)),some (.str (brc five (kw e) (tx e))),some (.ref d),some (.str (ZeF b)),none,some (.ref bt),none,none] H5:=by
    intro H5 bt bp x s5 hx hbt;refine ZF e9 ?_;refine⟨_,rfl,p,_,0,_,rfl,rfl,SqT.of (s5 _ _ htop),at0,rfl,_,rfl,?_⟩;have go:=r10 H5 bt bp x s5 hx hbt;by_cases hor:kw e= "or"
    ·rw[decide_eq_true (show V.str (kw e)=V.str "or" by rw[hor])];refine Zcn (Zcn ⟨_,rfl,?_⟩);rw[Zn1 b hor] at go ⊢;exact go
    ·rw[decide_eq_false (show ¬ V.str (kw e)=V.str "or" from fun z=>hor (by injection z))];refine ZbO ⟨_,rfl,rfl,_,rfl,?_⟩;cases b with
     | false =>
      rw[ZiQ (b:=false) hor (fun z=>Bool.noConfusion z)] at go;exact ZaU (fun z=>absurd (of_decide_eq_true z) (by decide)) (fun _=>ZbO go)
     | true =>
      refine ZaU (fun _=>⟨_,rfl,p,_,0,_,rfl,rfl,SqT.of (s5 _ _ htop),at0,rfl,_,rfl,?_⟩) (fun z=>absurd (by decide) z);by_cases htu:kw e= "turn"
      ·rw[decide_eq_true (show V.str (kw e)=V.str "turn" by rw[htu])];refine Zcn ⟨_,rfl,?_⟩;rw[ZkT htu] at go ⊢;exact go
      ·rw[decide_eq_false (show ¬ V.str (kw e)=V.str "turn" from fun z=>htu (by injection z))];rw[ZiQ hor (fun _=>htu)] at go;exact ZbO go
   show u7 _ _ _;refine ZF e7 ?_;refine⟨(by show 1<=sizeLine;decide),fun b4 hb4=>?_⟩;have s4:Zk H3 (upd H3 b4 (.tup [.str "nil"])):=Zk.new hb4;have x4:upd H3 b4 (.tup [.str "nil"]) b4=some (.tup [.str "nil"]):=Zb;generalize upd H3 b4 (.tup [.str "nil"])=H4 at s4 x4 ⊢;refine⟨(by show 2<=sizeLine;decide),fun t5 ht5=>?_⟩;have s5:Zk H4 (upd H4 t5 (.tup [.ref b4,.str "{}"])):=Zk.new ht5;have x5:upd H4 t5 (.tup [.ref b4,.str "{}"]) t5=some (.tup [.ref b4,.str "{}"]):=Zb;show u8 _ _ (upd H4 t5 (.tup [.ref b4,.str "{}"]));generalize upd H4 t5 (.tup [.ref b4,.str "{}"])=H5 at s5 x5 ⊢;have s05:=(s03.trans s4).trans s5;refine ZF e8 ?_;refine⟨_,rfl,_,_,rfl,rfl,⟨by decide,by decide⟩,_,_,rfl,rfl,(by show(0:Int)<2;decide),rfl,_,rfl,ZaU (fun _=>?_) (fun _=>?_)⟩
   ·refine ZF e8t0 ?_;refine⟨(by show 2<=sizeLine;decide),fun b6 hb6=>?_⟩;have s6:Zk H5 (upd H5 b6 (.tup [.str "name",.str "A"])):=Zk.new hb6;have x6:upd H5 b6 (.tup [.str "name",.str "A"]) b6=some (.tup [.str "name",.str "A"]):=Zb;generalize upd H5 b6 (.tup [.str "name",.str "A"])=H6 at s6 x6 ⊢;refine⟨(by show 2<=sizeLine;decide),fun t7 ht7=>?_⟩;have s7:Zk H6 (upd H6 t7 (.tup [.ref b6,.str "A"])):=Zk.new ht7;exact r9 _ t7 b6 (.name "A") (s05.trans (s6.trans s7)) (.inr rfl) ⟨Zb,.name (s7 _ _ x6)⟩
   ·exact r9 H5 t5 b4 .nil s05 (.inl rfl) ⟨x5,.nil (s5 _ _ x4)⟩
 refine⟨_,rfl,p,_,0,_,rfl,rfl,SqT.of htop,at0,(by show 5<=sizeLine;decide),fun t1 ht1=>?_⟩;have s1:Zk H (upd H t1 (.tup (five.map V.str))):=Zk.new ht1;have x1:upd H t1 (.tup (five.map V.str)) t1=some (.tup (five.map V.str)):=Zb;refine⟨t1,_,rfl,.inr (SqT.of x1),rfl,rfl,_,rfl,?_⟩;rw[Zd0];have go:=rest _ s1;cases hc:five.contains (kw e) with
 | true =>
  have hb:brc five (kw e) (tx e)= "{" ++ tx e ++ "}" := by unfold brc;rw[if_pos hc]
  rw[hb] at go;refine Zcn ⟨_,rfl,_,_,rfl,rfl,Zj (by show 1+_<=_;lia),_,_,rfl,rfl,?_,go⟩;exact Zj (by show("{" ++ tx e:Str).length+1<=_;rw[Zn];show 1+_+1<=_;lia)
 | false =>
  have hb:brc five (kw e) (tx e)=tx e:=by unfold brc;rw[hc];rfl
  rw[hb] at go;exact ZbO go
mutual
theorem Zfh:∀{e:Ex},wfE e->w8 e
 | .nil,_=>trivial
 | .tag _ i,h=>⟨h.1.2,Zfh h.2⟩
 | .name _,h=>h.2
 | .several _ ps,h=>Zi7 h.2
 | .rep _ p,h=>Zfh (e:=p) h.2
theorem Zi7:∀{ps:Exs},Zm3 ps->w8s ps
 | .nil,_=>trivial
 | .cons e r,h=>⟨Zfh h.1,Zi7 h.2⟩
end
theorem Znc(n1 n2:Str)(e1 e2:Ex):bkT [(n1,e1),(n2,e2)]=n1 ++ " = " ++ tx e1 ++ "; " ++ n2 ++ " = " ++ tx e2:=by
 apply Zb5;rw[ZdG];unfold Zbz;simp only[List.flatMap_cons,List.flatMap_nil,List.append_nil,ZQ,List.append_assoc];rfl
theorem Zmu(n1:Str)(e1:Ex):bkT [(n1,e1)]=n1 ++ " = " ++ tx e1:=by
 apply Zb5;rw[ZdG];unfold Zbz;simp only[List.flatMap_nil,List.append_nil,ZQ,List.append_assoc];rfl
theorem Zlk(e:Ex):bkT [("B",e),("A",.nil)] = "B = " ++ tx e ++ "; A = {}" := by
 rw[Znc];apply Zb5;simp only[ZQ,List.append_assoc];rfl
theorem ZgW:Upr (Str.ofString "A"):=⟨by decide,by decide⟩
theorem Zou:Upr (Str.ofString "B"):=⟨by decide,by decide⟩
theorem Zkx{am:Bool}{c:Int}{e:Ex}(hw:wfE e)(hd:(dp e:Int)=8+c % 7)(hs:sz e<=100)(hl:(tx e).length<=300)(h1:am=true->(Str.ofString "Z")∈nm true e) (h2:am=false->∀n∈nm true e,n= "A"):Mkd am (decide (c % 7<4)) ("B = " ++ tx e ++ "; A = {}") [("B",e),("A",.nil)]:=by
 have m0:=Int.emod_nonneg c (by decide:(7:Int)≠0);have m1:=Int.emod_lt_of_pos c (by decide:(0:Int)<7);have hlen:(bkT [("B",e),("A",.nil)]).length=(tx e).length+12:=by
  rw[Zlk,Zn,Zn];show 4+_+8=_;lia
 have hW:Wr [("B",e),("A",.nil)]:=by
  refine⟨List.cons_ne_nil _ _,by show 2<=30;decide,fun x hx=>?_⟩;rcases List.mem_cons.mp hx with rfl|hx
  ·exact⟨⟨Zou,by show 1<=8;decide,hw⟩,by show 1<=8;decide,by show dp e<16;lia,by show sz e<=500;lia,Zfh hw⟩
  ·rw[List.mem_singleton.mp hx];exact⟨⟨ZgW,by show 1<=8;decide,trivial⟩,by show 1<=8;decide,by show 0<16;decide,by show 1<=500;decide,trivial⟩
 have hnd:(([("B",e),("A",.nil)]:List (Str×Ex)).map (·.1)).Nodup:=by show(["B","A"]:List Str).Nodup;decide
 rw[<- Zlk];refine hW.mkd (by lia) ⟨fun z=>⟨by lia,by show 2<=8;decide,fun x hx=>?_⟩,fun z=>?_⟩ (fun _ ha=>⟨fun o=>?_,by lia⟩) (fun _ ha=>⟨rfl,?_⟩)
 ·have z:=of_decide_eq_true z;rcases List.mem_cons.mp hx with rfl|hx
  ·show dp e<12;lia
  ·rw[List.mem_singleton.mp hx];show 0<12
   decide
 ·have:=z.2.2 ("B",e) (List.mem_cons_self ..);have:dp e<12:=this;exact decide_eq_true (by lia)
 ·exact Zhp (x:=("B",e)) (n := "Z") (List.mem_cons_self ..) (h1 ha) (by show ¬ (Str.ofString "Z")∈(["B","A"]:List Str);decide) o.2.1
 ·refine⟨Zd3 (by rw[List.nil_append];exact hnd),Zj7 fun x hx n hn=>?_,ZjE fun n m hm=>?_⟩
  ·rcases List.mem_cons.mp hx with rfl|hx
   ·rw[h2 ha n hn];show(Str.ofString "A")∈(["B","A"]:List Str)
    decide
   ·rw[List.mem_singleton.mp hx] at hn;exact nomatch hn
  ·obtain⟨x,hx,_,h⟩:=ZgR hm;rcases List.mem_cons.mp hx with rfl|hx
   ·rw[h2 ha m (ZkH _ _ h)];exact ZfZ (x:=("A",.nil)) hnd (List.mem_cons_of_mem _ (List.mem_cons_self ..))
   ·rw[List.mem_singleton.mp hx] at h;exact nomatch h
set_option maxHeartbeats 2000000 in
theorem Zja(B:∀x∈ZbK,mg x=none)(g_l_wrapped:Has P w K mg base "_law_wrapped" ["_law_made_here","_law_cell"] 2 ZiT) (g_l_cell_at:Has P w K mg base "_law_cell_at" ["_law_script","_law_k"] 1 (Zc1 K)) (F:Fun K "_law_deep" "_law_deep" ZaJ f fd):FnOk P w K mg base CX0 3 f fd ["_law_script","_law_cell","_law_amiss"] (Zik K):=by
 refine F.ok ZbH (fun vs H Q E h=>?_) (fun cdv A outer s H vs Q E hr h=>?_)
 ·obtain⟨a,ns,c,am,rfl,_⟩:=h;rfl
 obtain⟨a,ns,c,am,rfl,hS,h63,q⟩:=h;refine ZbA ((Ze ZaJ).drop 5) (ZaT (ZbQ (Zt (Zc (Zt (Zc (PEi.of (pv 5)) (Zc (PEi.of (Zw Zr (Zw Zr Zo (Z9 Zaf (pv 3) Zg (fun _ _=>rfl))) Zo)) Zm))) (Zc (PEi.of (Zbo ZfY (Zw Zam (pv 1) Zg) Zg (ZM _))) Zm))))) (fun u5 h5 e5=>?_);refine ZbA ((Ze ZaJ).drop 4) (Z0 (Zay (i:=5) ZbH.nd rfl (Or.inl rfl) (Zt (Zc (Zt (Zc Zv (Zc (PEi.of (Z9 Zaf (pv 3) Zg (fun _ _=>rfl))) Zm))) (Zc (Zt (Zc Zv (Zc (Zt (Zc Zv Zm)) Zm))) Zm)))) h5) (fun u4 h4 e4=>?_);refine ZcJ ((Za6 ((Ze ZaJ).getD 3 (.Pass ⟨0,0,0,0⟩))).drop 0) (Zi (ZD (i:=3) ZbH.nd rfl (Or.inl rfl) (ZR g_l_wrapped hr rfl (Za (pv 3) (Za (ZR g_l_cell_at hr rfl (Za (pv 0) (Za (Zw Za9 Zg (pv 4)) Zd))) Zd))))) (fun u3_0 h3_0 e3_0=>?_);refine Zap ((Ze ZaJ).drop 3) (Zq (Zch PassesOwn.never rfl (Zcb rfl (B "range" (by decide)) (Za (Zw Za9 Zg (Zw Zam (pv 1) Zg)) Zd)) (ZV (i:=4) ZbH.nd rfl (Or.inl rfl)) h3_0) h4) (fun u3 h3 e3=>?_);refine ZgQ ((Za6 ((Ze ZaJ).getD 2 (.Pass ⟨0,0,0,0⟩))).drop 0) (ZaT (Zay (i:=3) ZbH.nd rfl (Or.inl rfl) (Zt (Zc (Zt (Zc Zv (Zc Zv Zm))) (Zc Zv Zm))))) (fun u2t0 h2t0 e2t0=>?_);refine Zap ((Ze ZaJ).drop 2) (Zq (Zad (ZW (pv 2) (fun _=>rfl)) h2t0 Zx) h3) (fun u2 h2 e2=>?_);refine ZgQ ((Za6 ((Ze ZaJ).getD 1 (.Pass ⟨0,0,0,0⟩))).drop 0) (ZaT (Zay (i:=3) ZbH.nd rfl (Or.inl rfl) (Zt (Zc (Zt (Zc Zv (Zc Zv Zm))) (Zc Zv Zm))))) (fun u1t0 h1t0 e1t0=>?_);refine Zap ((Ze ZaJ).drop 1) (Zq (Zad (ZC ZaV (Zw Zam (Zw ZaQ (pv 1) Zg) Zg) Zg (ZM _)) h1t0 Zx) h2) (fun u1 h1 e1=>?_);refine ZbA ((Ze ZaJ).drop 0) (Z0 (Zay (i:=3) ZbH.nd rfl (Or.inl rfl) (Zt (Zc (Zt (Zc Zv Zm)) (Zc Zv Zm)))) h1) (fun u0 h0 e0=>?_);refine ZlX h0 ?_;have r3:∀(H1:Hp)(mt mp:Addr)(x:Ex),Zk H H1->PrT H1 mt mp x->wfE x->dp x=0->sz x=1->(tx x).length<=2->(am=true->(Str.ofString "Z")∈nm true x)->(am=false->∀n∈nm true x,n= "A")->u3 { nx:=fun _ H'=>Q .non H',rt:=Q } [some (.ref a),some (.int c),some (.bl am),some (.ref mt),none,none] H1:=by
  intro H1 mt mp x s1 hP hw hd hs hl h1 h2;refine ZF e3 ?_;have m0:=Int.emod_nonneg c (by decide:(7:Int)≠0);have m1:=Int.emod_lt_of_pos c (by decide:(0:Int)<7);refine⟨_,rfl,_,_,rfl,rfl,(by show(0:Int)<7;decide),_,_,rfl,rfl,_,rfl,by lia,by lia,ZcS (lo:=0) (n:=(8+c % 7).toNat) (fun i σ H'=>∃(v4:Option V)(mt mp:Addr)(e:Ex),σ =[some (.ref a),some (.int c),some (.bl am),some (.ref mt),v4,none]/\Zk H H'/\PrT H' mt mp e/\wfE e/\dp e=i/\sz e<=1+3*i/\(tx e).length<=2+20*i/\(am=true->(Str.ofString "Z")∈nm true e)/\(am=false->∀n∈nm true e,n= "A"))
   ⟨none,mt,mp,x,rfl,s1,hP,hw,hd,by lia,by lia,h1,h2⟩ ?_ ?_⟩
  ·rintro i σ H' hi ⟨v4,mt,mp,e,rfl,sm,hP,hw,hd,hs,hl,h1,h2⟩;refine ZF e3_0 ?_;refine⟨_,rfl,_,rfl,_,rfl,_,_,rfl,rfl,a,ns,_,rfl,sm.seq hS,h63,by lia,fun v=>?_⟩;refine⟨mt,mp,e,v,rfl,hP,by lia,by lia,fun r' p' e' H2 s2 hP' hR=>?_⟩;refine⟨_,r',p',e',rfl,sm.trans s2,hP',hR.rwf hw,by rw[hR.rdp,hd],by have:=hR.rsz;lia,by have:=hR.rln;lia,fun ha=>hR.rup _ (h1 ha),fun ha n hn=>?_⟩;rcases hR.rnm true n hn with h|h
   ·exact h2 ha n h
   ·exact h
  ·rintro σ H2 ⟨v4,mt,mp,e,rfl,sm,hP,hw,hd,hs,hl,h1,h2⟩;show u4 _ _ _;refine ZF e4 ?_;refine⟨_,rfl,mt,_,0,_,rfl,rfl,SqT.of hP.1,at0,(by show 2<=sizeLine;decide),fun t3 ht3=>?_⟩;have s3:Zk H2 (upd H2 t3 (.tup [.str "B",.ref mp])):=Zk.new ht3;have x3:upd H2 t3 (.tup [.str "B",.ref mp]) t3=some (.tup [.str "B",.ref mp]):=Zb;generalize upd H2 t3 (.tup [.str "B",.ref mp])=H3 at s3 x3 ⊢;refine⟨(by show 1<=sizeLine;decide),fun t4 ht4=>?_⟩;have s4:Zk H3 (upd H3 t4 (.tup [.str "nil"])):=Zk.new ht4;have x4:upd H3 t4 (.tup [.str "nil"]) t4=some (.tup [.str "nil"]):=Zb;generalize upd H3 t4 (.tup [.str "nil"])=H4 at s4 x4 ⊢;refine⟨(by show 2<=sizeLine;decide),fun t5 ht5=>?_⟩;have s5:Zk H4 (upd H4 t5 (.tup [.str "A",.ref t4])):=Zk.new ht5;have x5:upd H4 t5 (.tup [.str "A",.ref t4]) t5=some (.tup [.str "A",.ref t4]):=Zb;generalize upd H4 t5 (.tup [.str "A",.ref t4])=H5 at s5 x5 ⊢;refine⟨(by show 2<=sizeLine;decide),fun t6 ht6=>?_⟩;have s6:Zk H5 (upd H5 t6 (.tup [.ref t3,.ref t5])):=Zk.new ht6;have x6:upd H5 t6 (.tup [.ref t3,.ref t5]) t6=some (.tup [.ref t3,.ref t5]):=Zb;show u5 _ _ (upd H5 t6 (.tup [.ref t3,.ref t5]));generalize upd H5 t6 (.tup [.ref t3,.ref t5])=H6 at s6 x6 ⊢;have s26:=((s3.trans s4).trans s5).trans s6;refine ZF e5 ?_;have l1:("B = " ++ tx e:Str).length<=1000:=by rw[Zn];show 4+_<=_;lia
   refine⟨_,rfl,_,rfl,mt,_,1,_,rfl,rfl,SqT.of (s26 _ _ hP.1),rfl,_,_,rfl,rfl,Zj (by show 4+_<=_;lia),_,_,rfl,rfl,Zj (by show _+8<=_;lia),(by show 2<=sizeLine;decide),fun t7 ht7=>?_⟩;have s7:Zk H6 (upd H6 t7 (.tup [.ref t6,.str ("B = " ++ tx e ++ "; A = {}")])):=Zk.new ht7;have x7:upd H6 t7 (.tup [.ref t6,.str ("B = " ++ tx e ++ "; A = {}")]) t7=some (.tup [.ref t6,.str ("B = " ++ tx e ++ "; A = {}")]):=Zb;generalize upd H6 t7 (.tup [.ref t6,.str ("B = " ++ tx e ++ "; A = {}")])=H7 at s7 x7 ⊢;refine⟨_,rfl,_,_,rfl,rfl,(by show(0:Int)<7;decide),_,_,rfl,rfl,(by show 2<=sizeLine;decide),fun t8 ht8=>?_⟩;have s8:=Zk.new (o:=.tup [.ref t7,.bl (decide (c % 7<4))]) ht8;have s28:=(s26.trans s7).trans s8;have s38:=((s4.trans s5).trans s6).trans (s7.trans s8);refine q t8 _ (sm.trans s28) ⟨t7,.ref t6,_,_,[("B",e),("A",.nil)],Zb,s8 _ _ x7,Zkx hw (by lia) (by lia) (by lia) h1 h2,fun _=>⟨t6,_,rfl,(s7.trans s8) _ _ x6,.cons ⟨t3,mp,rfl,s38 _ _ x3,hP.2.mono s28.tk⟩ (.cons ⟨t5,t4,rfl,((s6.trans s7).trans s8) _ _ x5,.nil (((s5.trans s6).trans (s7.trans s8)) _ _ x4)⟩ .nil)⟩⟩
 have r2:∀(H1:Hp)(mt mp:Addr)(x:Ex),Zk H H1->PrT H1 mt mp x->Bsd x->u2 { nx:=fun _ H'=>Q .non H',rt:=Q } [some (.ref a),some (.int c),some (.bl am),some (.ref mt),none,none] H1:=by
  intro H1 mt mp x s1 hP hx;obtain⟨x1,x2,x3,x4,x5,_⟩:=hx.facts;refine ZF e2 ?_;refine⟨_,rfl,_,rfl,?_⟩;cases am with
  | false=>exact ZbO (r3 H1 mt mp x s1 hP x1 x2 x3 x4 (fun z=>nomatch z) (fun _=>x5 true))
  | true =>
   refine Zcn ?_;refine ZF e2t0 ?_;refine⟨(by show 2<=sizeLine;decide),fun b6 hb6=>?_⟩;have s6:Zk H1 (upd H1 b6 (.tup [.str "name",.str "Z"])):=Zk.new hb6;have x6:upd H1 b6 (.tup [.str "name",.str "Z"]) b6=some (.tup [.str "name",.str "Z"]):=Zb;generalize upd H1 b6 (.tup [.str "name",.str "Z"])=H6 at s6 x6 ⊢;refine⟨(by show 2<=sizeLine;decide),fun t7 ht7=>?_⟩;have s7:Zk H6 (upd H6 t7 (.tup [.ref b6,.str "Z"])):=Zk.new ht7;exact r3 _ t7 b6 (.name "Z") (s1.trans (s6.trans s7)) ⟨Zb,.name (s7 _ _ x6)⟩ ⟨⟨by decide,by decide⟩,by decide⟩ rfl rfl (by decide) (fun _=>List.mem_cons_self ..) (fun z=>nomatch z)
 refine ZF e0 ?_;refine⟨(by show 1<=sizeLine;decide),fun b4 hb4=>?_⟩;have s4:Zk H (upd H b4 (.tup [.str "nil"])):=Zk.new hb4;have x4:upd H b4 (.tup [.str "nil"]) b4=some (.tup [.str "nil"]):=Zb;generalize upd H b4 (.tup [.str "nil"])=H4 at s4 x4 ⊢;refine⟨(by show 2<=sizeLine;decide),fun t5 ht5=>?_⟩;have s5:Zk H4 (upd H4 t5 (.tup [.ref b4,.str "{}"])):=Zk.new ht5;have x5:upd H4 t5 (.tup [.ref b4,.str "{}"]) t5=some (.tup [.ref b4,.str "{}"]):=Zb;show u1 _ _ (upd H4 t5 (.tup [.ref b4,.str "{}"]));generalize upd H4 t5 (.tup [.ref b4,.str "{}"])=H5 at s5 x5 ⊢;have s05:=s4.trans s5;refine ZF e1 ?_;refine⟨_,rfl,_,_,rfl,rfl,⟨by decide,by decide⟩,_,_,rfl,rfl,(by show(0:Int)<2;decide),rfl,_,rfl,ZaU (fun _=>?_) (fun _=>?_)⟩
 ·refine ZF e1t0 ?_;refine⟨(by show 2<=sizeLine;decide),fun b6 hb6=>?_⟩;have s6:Zk H5 (upd H5 b6 (.tup [.str "name",.str "A"])):=Zk.new hb6;have x6:upd H5 b6 (.tup [.str "name",.str "A"]) b6=some (.tup [.str "name",.str "A"]):=Zb;generalize upd H5 b6 (.tup [.str "name",.str "A"])=H6 at s6 x6 ⊢;refine⟨(by show 2<=sizeLine;decide),fun t7 ht7=>?_⟩;have s7:Zk H6 (upd H6 t7 (.tup [.ref b6,.str "A"])):=Zk.new ht7;exact r2 _ t7 b6 (.name "A") (s05.trans (s6.trans s7)) ⟨Zb,.name (s7 _ _ x6)⟩ (.inr rfl)
 ·exact r2 H5 t5 b4 .nil s05 ⟨x5,.nil (s5 _ _ x4)⟩ (.inl rfl)
theorem ZiI{x:Str}{j:Int}(h:(x.length:Int)<=j):PySem.StrLaws.sliceText x none (some j)=PySem.StrLaws.sliceText x none (some (x.length:Int)):=by
 have e:Builtin.Str.strSliceIndices none (some j) 1 x.length=Builtin.Str.strSliceIndices none (some (x.length:Int)) 1 x.length:=by
  unfold Builtin.Str.strSliceIndices;have h1 : ¬ j<0:=by lia
  have h2 : ¬ (x.length:Int)<0:=by lia
  simp only[h1,h2,if_false,show(1:Int) > 0 from by decide,if_true];rw[show max 0 (min j (x.length:Int))=max 0 (min (x.length:Int) (x.length:Int)) by lia]
 unfold PySem.StrLaws.sliceText;rw[e]
theorem Zn0{t:Str}{j:Int}(h0:0<=j)(h:j<=t.length):cs (PySem.StrLaws.sliceText t none (some j))=(cs t).take j.toNat:=by
 have hlt:t.cps.toList.length=t.length:=by rw[Array.length_toList];rfl
 rw[PySem.StrLaws.sliceText_to (x:=t) (j:=j) ⟨h0,by rw[hlt];lia⟩];show((t.cps.toList.drop 0).take _).toArray.toList=_;rw[List.drop_zero];simp[cs]
theorem Zil{t:Str}(n:Nat):cs (PySem.StrLaws.sliceText t none (some (n:Int)))=(cs t).take n:=by
 by_cases h:(n:Int)<=t.length
 ·rw[Zn0 (by lia) h,Int.toNat_natCast]
 ·rw[ZiI (by lia),Zn0 (by lia) (Int.le_refl _),Int.toNat_natCast,List.take_of_length_le (by rw[Zas];exact Nat.le_refl _),List.take_of_length_le (by rw[Zas];lia)]
theorem Zox(j:Nat)(h:j<26):atI grL.cps.toList (j:Int)=some (65+j):=by
 refine ZbP ?_;have:∀j:Fin 26,grL.cps.toList[j.val]?= some (65+j.val):=by decide
 exact this ⟨j,h⟩
def MnO(x:Str×Ex):Prop:=Upr x.1/\x.1.length<=8/\∃t,x.2=.tag t .nil/\Zkl t/\t.length<=8
def HdN(c:Int)(j:Nat)(n:Str):Prop := ∃r,cs n=(65+((c / 7+(j:Int)) % 26).toNat)::r
theorem MnO.wr{x:Str×Ex}(h:MnO x):Wf x/\Bk1 x/\dp x.2=1/\(∀b,nm b x.2=[])/\(prT x).length<=19:=by
 obtain⟨h1,h2,t,h3,h4,h5⟩:=h;have hw:wfE x.2:=by rw[h3];exact⟨⟨h4,h5⟩,trivial⟩
 refine⟨⟨h1,h2,hw⟩,⟨h2,by rw[h3];show 0+1<16;decide,by rw[h3];show 1+1<=500;decide,Zfh hw⟩,by rw[h3];rfl,fun b=>by rw[h3];cases b <;> rfl,?_⟩
 unfold prT;rw[Zn,Zn,h3];show _+3+t.length<=_;lia
theorem Zlb{bk:List (Str×Ex)}(h:∀x∈bk,∀b,nm b x.2=[]):lkN (bk.map (·.1)) (Zkk bk)=none /\ ¬ Cyc (usB bk) (bk.map (·.1)):=by
 refine⟨Zj7 fun x hx n hn=>(by rw[h x hx] at hn;cases hn),ZjE fun n m hm=>?_⟩;obtain⟨x,hx,_,hm⟩:=ZgR hm;rw[h x hx] at hm;cases hm
theorem Zi3:∀{l:List Str},(∀x∈l,x.length<=19)->(l.map (·.length)).sum<=19*l.length
 | [],_=>Nat.le_refl _
 | a::l,h=>by
  have h1:=h a (List.mem_cons_self ..);have h2:=Zi3 (l:=l) fun x hx=>h x (List.mem_cons_of_mem _ hx);simp only[List.map_cons,List.sum_cons,List.length_cons];lia
theorem Zjf(m:Str)(e:Ex):3<=(Zbz m e).length:=by
 unfold Zbz;rw[List.length_append,List.length_append];show 3<=_+(3+_);lia
theorem Zkr{am:Bool}{c:Int}{bk:List (Str×Ex)}(hl:(bk.length:Int)=5+c % 7)(hk:∀x∈bk,MnO x)(h1:am=false->∀(j:Nat) x,bk[j]?= some x->HdN c j x.1)(h2:am=true->∃d x y,d<4/\bk[4]?= some x/\bk[d]?= some y/\x.1=y.1):Mkd am (decide (c % 7<4)) (bkT bk) bk:=by
 have m0:=Int.emod_nonneg c (by decide:(7:Int)≠0);have m1:=Int.emod_lt_of_pos c (by decide:(0:Int)<7);have hlen:(bkT bk).length<=300/\7<(bkT bk).length:=by
  have h19:=Zi3 (l:=bk.map prT) fun x hx=>by
   obtain⟨y,hy,rfl⟩:=List.mem_map.mp hx;exact(hk y hy).wr.2.2.2.2
  have h2:=ZeP (Str.ofString "; ") (bk.map prT);rw[List.length_map] at h2 h19;have h3:bk.length*(Str.ofString "; ").length=bk.length*2:=rfl;have h4:(bkT bk).length=(Txt.join (Str.ofString "; ") (bk.map prT)).length:=rfl;refine⟨by lia,?_⟩;cases bk with
  | nil=>exact absurd hl (by show ¬ (0:Int)=_;lia)
  | cons x bk =>
   have:=congrArg List.length (ZdG x bk);rw[Zas,List.length_append] at this;have h4:=ZdJ bk;have h5:7<=(bk.flatMap fun y=>[59,32]++Zbz y.1 y.2).length:=by
    cases bk with
    | nil=>exact absurd hl (by show ¬ (1:Int)=_;lia)
    | cons y bk =>
     have h6:=ZdJ bk;have h7:=Zjf y.1 y.2;rw[List.flatMap_cons,List.length_append,List.length_append];rw[List.length_cons,List.length_cons] at hl;show 7<=2+_+_;lia
   have h6:=Zjf x.1 x.2;lia
 have hW:Wr bk:=⟨fun e=>by rw[e] at hl;exact absurd hl (by show ¬ (0:Int)=_;lia),by lia,fun x hx=>⟨(hk x hx).wr.1,(hk x hx).wr.2.1⟩⟩;refine hW.mkd (by lia) ⟨fun z=>⟨by lia,by have:=of_decide_eq_true z;lia,fun x hx=>by rw[(hk x hx).wr.2.2.1];decide⟩,fun z=>decide_eq_true (by have:=z.2.1;lia)⟩ (fun _ ha=>⟨fun o=>?_,hlen.2⟩) (fun _ ha=>⟨rfl,?_⟩)
 ·obtain⟨d,x,y,hd,hx,hy,e⟩:=h2 ha;have hnd:=Zi1 List.nodup_nil o.1;rw[List.nil_append] at hnd;obtain⟨i1,i2⟩:=List.getElem?_eq_some_iff.mp hx;obtain⟨j1,j2⟩:=List.getElem?_eq_some_iff.mp hy;refine List.pairwise_iff_getElem.mp hnd d 4 (by rw[List.length_map];exact j1) (by rw[List.length_map];exact i1) hd ?_;rw[List.getElem_map,List.getElem_map,i2,j2];exact e.symm
 ·have hu:=Zlb fun x hx=>(hk x hx).wr.2.2.2.1;refine⟨Zd3 ?_,hu.1,hu.2⟩;rw[List.nil_append];refine List.pairwise_iff_getElem.mpr fun i j hi hj hij e=>?_;rw[List.length_map] at hi hj;rw[List.getElem_map,List.getElem_map] at e;obtain⟨r1,e1⟩:=h1 ha i _ (List.getElem?_eq_getElem hi);obtain⟨r2,e2⟩:=h1 ha j _ (List.getElem?_eq_getElem hj);rw[e,e2] at e1;injection e1 with e1 _;have n1:=Int.emod_nonneg (c / 7+(i:Int)) (by decide:(26:Int)≠0);have n2:=Int.emod_nonneg (c / 7+(j:Int)) (by decide:(26:Int)≠0);lia
theorem PrE.tk{H H':Hp}(k:TK H H'){vs:List V}{bk:List (Str×Ex)}(h:Paired (PrE H) vs bk):Paired (PrE H') vs bk:=Paired.mapP h fun _ _ z=>by
 obtain⟨p,q,e,h1,h2⟩:=z;exact⟨p,q,e,k _ _ h1,h2.mono k⟩
set_option maxHeartbeats 2000000 in
theorem ZiK(B:∀x∈ZbK,mg x=none)(g_l_cell_at:Has P w K mg base "_law_cell_at" ["_law_script","_law_k"] 1 (Zc1 K)) (g_l_word:Has P w K mg base "_law_word" ["_law_cell","_law_many_here","_law_letters"] 1 Zid) (F:Fun K "_law_many" "_law_many" Zav f fd):FnOk P w K mg base CX0 2 f fd ["_law_script","_law_cell","_law_amiss"] (Zik K):=by
 refine F.ok Zbi (fun vs H Q E h=>?_) (fun cdv A outer s H vs Q E hr h=>?_)
 ·obtain⟨a,ns,c,am,rfl,_⟩:=h;rfl
 obtain⟨a,ns,c,am,rfl,hS,h63,q⟩:=h;refine ZbA ((Ze Zav).drop 4) (ZaT (ZbQ (Zt (Zc (Zt (Zc (Zev Zbf rfl (B "tuple" (by decide)) ZbZ (Zc (PEi.of (pv 4)) Zm)) (Zc (PEi.of (ZbT PySem.F.plainAttrs_str PySem.F.slot_str_join PySem.F.type_str_join Zdl Zo (Za (pv 5) Zd))) Zm))) (Zc (PEi.of (Zbo ZfY (Zw Zam (pv 1) Zg) Zg (ZM _))) Zm))))) (fun u4 h4 e4=>?_);refine Zap ((Za6 ((Ze Zav).getD 3 (.Pass ⟨0,0,0,0⟩))).drop 5) (Zi (Zaw (ZbT PySem.F.plainAttrs_list PySem.F.slot_list_append PySem.F.type_list_append ZaM (pv 5) (Za (Zw Zr (Zw Zr (pv 7) Zo) (pv 8)) Zd)))) (fun u3_5 h3_5 e3_5=>?_);refine Zap ((Za6 ((Ze Zav).getD 3 (.Pass ⟨0,0,0,0⟩))).drop 4) (Zq (Zaw (ZbT PySem.F.plainAttrs_list PySem.F.slot_list_append PySem.F.type_list_append ZaM (pv 4) (Za (PEi.to (Zt (Zc (PEi.of (pv 7)) (Zc (Zt (Zc Zv (Zc (PEi.of (pv 8)) (Zc (Zt (Zc Zv Zm)) Zm)))) Zm)))) Zd))) h3_5) (fun u3_4 h3_4 e3_4=>?_);refine Zap ((Za6 ((Ze Zav).getD 3 (.Pass ⟨0,0,0,0⟩))).drop 3) (Zq (ZD (i:=8) Zbi.nd rfl (Or.inl rfl) (ZdE Zjd (ZR g_l_word hr rfl (Za (ZR g_l_cell_at hr rfl (Za (pv 0) (Za (Zw Za9 Zg (pv 6)) Zd))) (Za (Zw Za9 Zg (pv 6)) (Za Zo Zd)))) ZgS (ZdQ Zg))) h3_4) (fun u3_3 h3_3 e3_3=>?_);refine Zap ((Za6 ((Ze Zav).getD 3 (.Pass ⟨0,0,0,0⟩))).drop 2) (Zq (Zad (PW.pt (Zf7 (ZW (pv 2) (fun _=>rfl)) (ZdL (ZC ZaV (pv 6) Zg (ZM _))))) (Zi (ZD (i:=7) Zbi.nd rfl (Or.inl rfl) (Z9 Zaf (Z9 Zaz (pv 4) (Zw Zam (Zw ZaQ (pv 1) Zg) Zg) (fun _ _=>rfl)) Zg (fun _ _=>rfl)))) Zx) h3_3) (fun u3_2 h3_2 e3_2=>?_);refine Zap ((Za6 ((Ze Zav).getD 3 (.Pass ⟨0,0,0,0⟩))).drop 1) (Zq (Zad (ZC ZaV (Zw Zam (ZR g_l_cell_at hr rfl (Za (pv 0) (Za (Zw Za9 Zg (pv 6)) Zd))) Zg) Zg (ZM _)) (Zi (ZD (i:=7) Zbi.nd rfl (Or.inl rfl) (Zw Zr (pv 7) (ZR g_l_word hr rfl (Za (ZR g_l_cell_at hr rfl (Za (pv 0) (Za (Zw Za9 Zg (pv 6)) Zd))) (Za Zg (Za (pv 3) Zd))))))) Zx) h3_2) (fun u3_1 h3_1 e3_1=>?_);refine ZcJ ((Za6 ((Ze Zav).getD 3 (.Pass ⟨0,0,0,0⟩))).drop 0) (Zq (ZD (i:=7) Zbi.nd rfl (Or.inl rfl) (Z9 Zjr (pv 3) (Zw Zam (Zw Za9 (Zw ZaQ (pv 1) Zg) (pv 6)) Zg) (fun _ _=>rfl))) h3_1) (fun u3_0 h3_0 e3_0=>?_);refine Zap ((Ze Zav).drop 3) (Zq (Zch PassesOwn.never rfl (Zcb rfl (B "range" (by decide)) (Za (Zw Za9 Zg (Zw Zam (pv 1) Zg)) Zd)) (ZV (i:=6) Zbi.nd rfl (Or.inl rfl)) h3_0) h4) (fun u3 h3 e3=>?_);refine ZbA ((Ze Zav).drop 2) (Z0 (Zay (i:=5) Zbi.nd rfl (Or.inl rfl) (Zbh Zm)) h3) (fun u2 h2 e2=>?_);refine ZbA ((Ze Zav).drop 1) (Z0 (Zay (i:=4) Zbi.nd rfl (Or.inl rfl) (Zbh Zm)) h2) (fun u1 h1 e1=>?_);refine Zap ((Ze Zav).drop 0) (Zq (ZD (i:=3) Zbi.nd rfl (Or.inl rfl) Zo) h1) (fun u0 h0 e0=>?_);refine ZlX h0 ?_;have m0:=Int.emod_nonneg c (by decide:(7:Int)≠0);have m1:=Int.emod_lt_of_pos c (by decide:(0:Int)<7);refine ZF e0 ?_;show u1 _ _ _;refine ZF e1 ?_;refine⟨(by show 0<=sizeLine;decide),fun pl hpl=>?_⟩;have s1:Zk H (upd H pl (.lst [])):=Zk.new hpl;have x1:upd H pl (.lst []) pl=some (.lst []):=Zb;show u2 _ _ (upd H pl (.lst []));generalize upd H pl (.lst [])=H1 at s1 x1 ⊢;refine ZF e2 ?_;refine⟨(by show 0<=sizeLine;decide),fun xl hxl=>?_⟩;have npx:pl≠xl:=fun z=>by rw[<- z,x1] at hxl;cases hxl
 have fxl:H xl=none:=s1.free hxl;have s2:Zk H (upd H1 xl (.lst [])):=s1.upd_new fxl;have x2:upd H1 xl (.lst []) xl=some (.lst []):=Zb;have y2:upd H1 xl (.lst []) pl=some (.lst []):=by rw[Zu npx];exact x1
 show u3 _ _ (upd H1 xl (.lst []));generalize upd H1 xl (.lst [])=H2 at s2 x2 y2 ⊢;refine ZF e3 ?_;refine⟨_,rfl,_,_,rfl,rfl,(by show(0:Int)<7;decide),_,_,rfl,rfl,_,rfl,by lia,by lia,ZcS (lo:=0) (n:=(5+c % 7).toNat) (fun i σ H'=>∃(bk:List (Str×Ex))(ts:List V)(v6 v7 v8:Option V),σ =[some (.ref a),some (.int c),some (.bl am),some (.str grL),some (.ref pl),some (.ref xl),v6,v7,v8]/\Zk H H'/\H' pl=some (.lst ts)/\H' xl=some (.lst ((bk.map prT).map V.str))/\Paired (PrE H') ts bk/\bk.length=i/\(∀x∈bk,MnO x)/\(∀(j:Nat) x,bk[j]?= some x->(am=true->j≠4)->HdN c j x.1)/\(am=true->4<i->∃d x y,d<4/\bk[4]?= some x/\bk[d]?= some y/\x.1=y.1))
  ⟨[],[],none,none,none,rfl,s2,y2,x2,.nil,rfl,(fun _ h=>nomatch h),(fun _ _ h=>by cases h),fun _ h=>absurd h (Nat.not_lt_zero _)⟩ ?_ ?_⟩
 ·rintro i σ H3 hi ⟨bk,ts,v6,v7,v8,rfl,sm,hp3,hx3,hP,hbl,hk,hh,hdup⟩;have htl:ts.length=bk.length:=Paired.length hP;refine ZF e3_0 ?_;have k0:=Int.emod_nonneg (c / 7+(0+(i:Int))) (by decide:(26:Int)≠0);have k1:=Int.emod_lt_of_pos (c / 7+(0+(i:Int))) (by decide:(0:Int)<26);have hch:atI grL.cps.toList ((c / 7+(0+(i:Int))) % 26)=some (65+((c / 7+(0+(i:Int))) % 26).toNat):=by
   have:=Zox ((c / 7+(0+(i:Int))) % 26).toNat (by lia);rw[Int.toNat_of_nonneg k0] at this;exact this
  have hhd:((c / 7+(0+(i:Int))) % 26).toNat=((c / 7+(i:Int)) % 26).toNat:=by rw[Int.zero_add]
  refine⟨_,rfl,_,rfl,_,_,rfl,rfl,⟨by decide,by decide⟩,_,rfl,_,_,rfl,rfl,_,_,rfl,rfl,(by show(0:Int)<26;decide),_,_,_,rfl,rfl,Zj (by decide),hch,?_⟩;have hu0:Upr (⟨#[65+((c / 7+(0+(i:Int))) % 26).toNat]⟩:Str):=⟨(fun z=>by cases z),fun x hx=>by
   have:x=65+((c / 7+(0+(i:Int))) % 26).toNat:=List.mem_singleton.mp hx;lia⟩
  show u3_1 _ _ _;refine((fun key=>?first:(∀(n:Str),Upr n->n.length<=8->((am=true->i≠4)->HdN c i n)->(am=true->i=4->∃d y,d<4/\bk[d]?= some y/\n=y.1)->u3_3 ?D [some (.ref a),some (.int c),some (.bl am),some (.str grL),some (.ref pl),some (.ref xl),some (.int (0+(i:Int))),some (.str n),v8] H3)->_) ?second)
  case first =>
   refine((fun key2=>?first2:(∀(n:Str),Upr n->n.length<=8->HdN c i n->u3_2 ?D2 [some (.ref a),some (.int c),some (.bl am),some (.str grL),some (.ref pl),some (.ref xl),some (.int (0+(i:Int))),some (.str n),v8] H3)->_) ?second2)
   case first2 =>
    refine ZF e3_1 ?_;refine⟨_,rfl,_,rfl,_,_,rfl,rfl,a,ns,_,rfl,sm.seq hS,h63,by lia,fun v=>?_⟩;refine⟨_,_,rfl,rfl,(by show(0:Int)<2;decide),rfl,_,rfl,ZaU (fun _=>?_) (fun _=>?_)⟩
    ·refine⟨_,rfl,_,rfl,_,rfl,_,_,rfl,rfl,a,ns,_,rfl,sm.seq hS,h63,by lia,fun v2=>?_⟩;refine⟨_,rfl,v2,7,grL,rfl,rfl,by decide,fun t ht hx=>?_⟩;refine⟨_,_,rfl,rfl,Zj (by show 1+_<=_;lia),?_⟩;show u3_2 _ _ _;refine key2 _ ⟨?_,fun x hx'=>?_⟩ ?_ ?_
     ·rw[ZQ];exact fun z=>by cases z
     ·rw[ZQ] at hx';rcases List.mem_append.mp hx' with h|h
      ·exact hu0.2 x h
      ·exact gr_mem x (hx x h)
     ·rw[Zn,ht];exact Nat.le_refl _
     ·refine⟨cs t,?_⟩;rw[ZQ,<- hhd];rfl
    ·show u3_2 _ _ _;exact key2 _ hu0 (by show 1<=8;decide) ⟨[],by rw[<- hhd];rfl⟩
   case second2 =>
    intro n hn hn8 hnh;refine ZF e3_2 ?_;refine⟨_,rfl,_,rfl,ZaU (fun ham=>⟨_,rfl,rfl,_,rfl,?_⟩) (fun ham=>ZbO (by show u3_3 _ _ _;exact key n hn hn8 (fun _=>hnh) (fun z=>absurd z ham)))⟩
    ·by_cases h4:i=4
     ·subst h4;refine ZaU (fun _=>?_) (fun z=>absurd (decide_eq_true rfl) z);have d0:=Int.emod_nonneg (c / 182) (by decide:(4:Int)≠0);have d1:=Int.emod_lt_of_pos (c / 182) (by decide:(0:Int)<4);obtain⟨d,hd⟩:∃d:Nat,c / 182 % 4=(d:Int):=⟨(c / 182 % 4).toNat,by lia⟩;have hdl:d<ts.length:=by lia
      obtain⟨y,hy,t1,q1,e1,e2,e3⟩:=ZaP hP (List.getElem?_eq_getElem hdl);refine⟨_,rfl,_,rfl,_,_,rfl,rfl,⟨by decide,by decide⟩,_,_,rfl,rfl,(by show(0:Int)<4;decide),pl,_,(d:Int),_,rfl,congrArg V.int hd,SqL.of hp3,ZbP (by rw[List.getElem?_eq_getElem hdl,e1]),t1,_,0,_,rfl,rfl,SqT.of e2,at0,?_⟩;show u3_3 _ _ _;exact key y.1 (hk y (List.mem_of_getElem? hy)).1 (hk y (List.mem_of_getElem? hy)).2.1 (fun z=>absurd rfl (z ham)) (fun _ _=>⟨d,y,by lia,hy,rfl⟩)
     ·refine ZaU (fun z=>absurd (of_decide_eq_true z) fun z=>?_) (fun _=>by show u3_3 _ _ _;exact key n hn hn8 (fun _=>hnh) (fun _ z=>absurd z h4));injection z with z;lia
  case second =>
   intro n hn hn8 hnh hnd;refine ZF e3_3 ?_;refine⟨_,rfl,_,rfl,_,_,rfl,rfl,a,ns,_,rfl,sm.seq hS,h63,by lia,fun v=>?_⟩;refine⟨_,rfl,_,_,rfl,rfl,v,(1+(0+(i:Int))).toNat,smL,?_,rfl,by lia,fun t0 ht0 hx=>?_⟩
   ·rw[Int.toNat_of_nonneg (by lia)];rfl
   refine⟨_,rfl,t0,rfl,Zj (by lia),?_⟩;have ec:cs (PySem.StrLaws.sliceText t0 none (some 8))=(cs t0).take 8:=Zil 8;generalize PySem.StrLaws.sliceText t0 none (some 8)=t at ec ⊢;have htl2:=congrArg List.length ec;rw[Zas,List.length_take,Zas] at htl2;have hL:Zkl t:=Zfl (by lia) fun x hx'=>by
    rw[ec] at hx';exact hx x (List.mem_of_mem_take hx')
   show u3_4 _ _ _;refine ZF e3_4 ?_;refine⟨_,rfl,.inl ⟨rfl,_,SqL.of hp3⟩,_,rfl,_,rfl,(by show 1<=sizeLine;decide),fun t4 ht4=>?_⟩;have s4:Zk H3 (upd H3 t4 (.tup [.str "nil"])):=Zk.new ht4;have x4:upd H3 t4 (.tup [.str "nil"]) t4=some (.tup [.str "nil"]):=Zb;generalize upd H3 t4 (.tup [.str "nil"])=H4 at s4 x4 ⊢;refine⟨(by show 3<=sizeLine;decide),fun t5 ht5=>?_⟩;have s5:Zk H4 (upd H4 t5 (.tup [.str "tag",.str t,.ref t4])):=Zk.new ht5;have x5:upd H4 t5 (.tup [.str "tag",.str t,.ref t4]) t5=some (.tup [.str "tag",.str t,.ref t4]):=Zb;generalize upd H4 t5 (.tup [.str "tag",.str t,.ref t4])=H5 at s5 x5 ⊢;refine⟨(by show 2<=sizeLine;decide),fun t6 ht6=>?_⟩;have s6:Zk H5 (upd H5 t6 (.tup [.str n,.ref t5])):=Zk.new ht6;have x6:upd H5 t6 (.tup [.str n,.ref t5]) t6=some (.tup [.str n,.ref t5]):=Zb;generalize upd H5 t6 (.tup [.str n,.ref t5])=H6 at s6 x6 ⊢;have s36:=(s4.trans s5).trans s6;have hp6:=s36 _ _ hp3;have hx6:=s36 _ _ hx3;refine⟨pl,ts,_,rfl,rfl,hp6,Z3 (by lia),?_⟩;have tk7:TK H6 (upd H6 pl (.lst (ts ++ [.ref t6]))):=TK.lst hp6;have x7:upd H6 pl (.lst (ts ++ [.ref t6])) pl=some (.lst (ts ++ [.ref t6])):=Zb;have y7:upd H6 pl (.lst (ts ++ [.ref t6])) xl=some (.lst ((bk.map prT).map V.str)):=by rw[Zu npx.symm];exact hx6
   have s7:Zk H (upd H6 pl (.lst (ts ++ [.ref t6]))):=(sm.trans s36).upd_new hpl;show u3_5 _ _ (upd H6 pl (.lst (ts ++ [.ref t6])));generalize upd H6 pl (.lst (ts ++ [.ref t6]))=H7 at tk7 x7 y7 s7 ⊢;refine ZF e3_5 ?_;have hl1:(n ++ " = " : Str).length<=11:=by rw[Zn];show _+3<=_;lia
   refine⟨_,rfl,.inl ⟨rfl,_,SqL.of y7⟩,_,rfl,_,_,rfl,rfl,Zj (by show _+3<=_;lia),_,rfl,_,_,rfl,rfl,Zj (by lia),xl,_,_,rfl,rfl,y7,Z3 (by rw[List.length_map,List.length_map];lia),?_⟩;have tk8:TK H7 (upd H7 xl (.lst ((bk.map prT).map V.str ++ [.str (n ++ " = " ++ t)]))):=TK.lst y7;have tk:=(s36.tk.trans tk7).trans tk8;have tk68:=tk7.trans tk8;refine⟨bk ++ [(n,.tag t .nil)],ts ++ [.ref t6],_,_,_,rfl,s7.upd_new fxl,by rw[Zu npx];exact x7,by rw[Zb,List.map_append,List.map_append];rfl,Paired.app (PrE.tk tk hP) (.cons ⟨t6,t5,rfl,tk68 _ _ x6,.tag ((s6.tk.trans tk68) _ _ x5) (.nil (((s5.trans s6).tk.trans tk68) _ _ x4))⟩ .nil),by rw[List.length_append,hbl];rfl,fun x hx'=>?_,fun j x hj hne=>?_,fun ha h5=>?_⟩
   ·rcases List.mem_append.mp hx' with h|h
    ·exact hk x h
    ·rw[List.mem_singleton.mp h];exact⟨hn,hn8,t,rfl,hL,by lia⟩
   ·rcases ZhA hj with⟨_,h⟩|⟨h,rfl⟩
    ·exact hh j x h hne
    ·rw[h,hbl];exact hnh fun ha z=>hne ha (by lia)
   ·by_cases h4:i=4
    ·obtain⟨d,y,hd,hy,e⟩:=hnd ha h4;refine⟨d,(n,.tag t .nil),y,hd,?_,?_,e⟩
     ·rw[List.getElem?_append_right (by lia),hbl,h4];rfl
     ·rw[List.getElem?_append_left (List.getElem?_eq_some_iff.mp hy).1];exact hy
    ·obtain⟨d,x,y,hd,hx',hy,e⟩:=hdup ha (by lia);refine⟨d,x,y,hd,?_,?_,e⟩
     ·rw[List.getElem?_append_left (List.getElem?_eq_some_iff.mp hx').1];exact hx'
     ·rw[List.getElem?_append_left (List.getElem?_eq_some_iff.mp hy).1];exact hy
 ·rintro σ H3 ⟨bk,ts,v6,v7,v8,rfl,sm,hp3,hx3,hP,hbl,hk,hh,hdup⟩;show u4 _ _ _;refine ZF e4 ?_;have htl:ts.length=bk.length:=Paired.length hP;refine⟨_,rfl,pl,_,rfl,.inl ⟨SqL.of hp3,fun t4 ht4=>?_⟩⟩;have s4:Zk H3 (upd H3 t4 (.tup ts)):=Zk.new ht4;have x4:upd H3 t4 (.tup ts) t4=some (.tup ts):=Zb;generalize upd H3 t4 (.tup ts)=H4 at s4 x4 ⊢;have hx4:=s4 _ _ hx3;have h19:=Zi3 (l:=bk.map prT) fun x hx=>by
   obtain⟨y,hy,rfl⟩:=List.mem_map.mp hx;exact(hk y hy).wr.2.2.2.2
  rw[List.length_map] at h19;refine⟨rfl,_,rfl,Str.ofString "; ",xl,bk.map prT,rfl,rfl,SqL.of hx4,?_,?_⟩
  ·rw[List.length_map];show _+_*2<=_;exact Zj (by lia)
  refine⟨(by show 2<=sizeLine;decide),fun t5 ht5=>?_⟩;have s5:Zk H4 (upd H4 t5 (.tup [.ref t4,.str (Txt.join (Str.ofString "; ") (bk.map prT))])):=Zk.new ht5;have x5:upd H4 t5 (.tup [.ref t4,.str (Txt.join (Str.ofString "; ") (bk.map prT))]) t5=some (.tup [.ref t4,.str (Txt.join (Str.ofString "; ") (bk.map prT))]):=Zb;generalize upd H4 t5 (.tup [.ref t4,.str (Txt.join (Str.ofString "; ") (bk.map prT))])=H5 at s5 x5 ⊢;refine⟨_,rfl,_,_,rfl,rfl,(by show(0:Int)<7;decide),_,_,rfl,rfl,(by show 2<=sizeLine;decide),fun t6 ht6=>?_⟩;have s6:=Zk.new (o:=.tup [.ref t5,.bl (decide (c % 7<4))]) ht6;have s36:=(s4.trans s5).trans s6;exact q t6 _ (sm.trans s36) ⟨t5,.ref t4,_,_,bk,Zb,s6 _ _ x5,Zkr (by lia) hk (fun ha j x hx=>hh j x hx fun z=>by rw[ha] at z;cases z) (fun ha=>hdup ha (by lia)),fun _=>⟨t4,_,rfl,(s5.trans s6) _ _ x4,PrE.tk s36.tk hP⟩⟩
theorem Zfb{am:Bool}{T:Str}{bk:List (Str×Ex)}(hl:T.length<=5000)(h:T.length<=400->Zcx (cs T)=none):Mkd am false T bk:=by
 refine⟨hl,(fun h4 x e=>by rw[h h4] at e;cases e),fun bk' g=>?_,fun _ bk' g=>?_,(fun e=>by cases e)⟩
 ·have:=g.2.1;rw[h g.1] at this;cases this
 ·have:=g.2.1;rw[h g.1] at this;cases this
theorem Zi5{f:Rdr}{t r:List Nat}(ht:∀c∈t,97<=c/\c<=122)(h8:8<t.length)(hr:∀c r',r=c::r' -> ¬ (97<=c/\c<=122)):Zby f (t++r)=none:=by
 have e1:(t++r).takeWhile ZdF=t:=Zhn (fun c hc=>ZgO (ht c hc)) fun c r' e=>Ze6 (hr c r' e);cases t with
 | nil=>exact absurd h8 (by decide)
 | cons c t =>
  have hc:=ht c (List.mem_cons_self ..);unfold Zby;rw[if_neg fun⟨_,z⟩=>by injection z with z _;lia,if_neg fun⟨_,z⟩=>by injection z with z _;lia,e1,if_neg (List.cons_ne_nil _ _),if_neg (by lia)]
theorem ZmZ{t r:List Nat}(ht:∀c∈t,97<=c/\c<=122)(h8:8<t.length)(hr:∀c r',r=c::r' -> ¬ (97<=c/\c<=122)):∀L:Nat,pX L (t++r)=none
 | 0=>rfl
 | L+1=>by
  show ZbJ (pX L) (t++r)=none;unfold ZbJ ZaZ Zbq;rw[Zi5 ht h8 hr];rfl
theorem ZiN{t r:List Nat}(ht:∀c∈t,65<=c/\c<=90)(h8:8<t.length)(hr:∀c r',r=c::r' -> ¬ (65<=c/\c<=90)):Zc7 (t++r)=none:=by
 have e1:(t++r).takeWhile isUp=t:=Zhn (fun c hc=>ZjO (ht c hc)) fun c r' e=>Zhu (hr c r' e);unfold Zc7;rw[e1,if_neg fun c=>by lia]
theorem Zeq{t r:List Nat}(ht:∀c∈t,65<=c/\c<=90)(h8:8<t.length)(hr:∀c r',r=c::r' -> ¬ (65<=c/\c<=90)):Zcx (t++r)=none:=by
 unfold Zcx pPair;rw[ZiN ht h8 hr]
theorem Zc4{m:Str}{t r:List Nat}(hm:Upr m)(hm8:m.length<=8)(ht:∀c∈t,97<=c/\c<=122)(h8:8<t.length)(hr:∀c r',r=c::r' -> ¬ (97<=c/\c<=122)):Zcx (cs m++([32,61,32]++(t++r)))=none:=by
 unfold Zcx pPair;rw[ZeT hm hm8 fun c r' e=>by injection e with e _;lia];show(match (if [32,61,32] <+: ([32,61,32]++(t++r)) then(pX 12 (([32,61,32]++(t++r)).drop 3)).map fun y=>((m,y.1),y.2) else none) with|none=>none|some x=>pPs x.2.length [x.1] x.2)=none
 rw[if_pos ⟨_,rfl⟩];show(match (pX 12 (t++r)).map (fun y=>((m,y.1),y.2)) with|none=>none|some x=>pPs x.2.length [x.1] x.2)=none
 rw[ZmZ ht h8 hr];rfl
def rsQ(am:Bool):Str:=if am=true then " {} QQ" else ""
def addQ(am:Bool)(e:Ex):Ex:=if am=true then .several true (ofL [e,.nil,.name "QQ"]) else e
theorem Zjn{am:Bool}{e:Ex}(h:(["turn","or"]:List Str).contains (kw e)=false):tx (addQ am e)=tx e++rsQ am:=by
 cases am with
 | false =>
  apply Zb5;rw[ZQ];show cs (tx e)=cs (tx e) ++ [];rw[List.append_nil]
 | true =>
  apply Zb5;have:=Zcr true e (ofL [.nil,.name "QQ"]);show cs (tx (.several true (.cons e (ofL [.nil,.name "QQ"]))))=_;rw[this,ZQ,show tL (Zbk true) e=cs (tx e) from ZcA h];rfl
theorem ZiH{am:Bool}{e:Ex}(hw:wfE e)(hd:dp e<=3)(hs:sz e<=10):wfE (addQ am e)/\dp (addQ am e)<=4/\sz (addQ am e)<=20:=by
 cases am with
 | false=>exact⟨hw,by show dp e<=4;lia,by show sz e<=20;lia⟩
 | true =>
  refine⟨⟨by show 2<=3;decide,hw,trivial,⟨⟨by decide,by decide⟩,by decide⟩,trivial⟩,?_,?_⟩
  ·show max (dp e) (max 0 (max 0 0))+1<=4;lia
  ·show sz e+(1+(1+0))+1<=20;lia
theorem Zi6(e:Ex):(Str.ofString "QQ")∈nm true (addQ true e):=by
 show(Str.ofString "QQ")∈nm true e++([]++([Str.ofString "QQ"] ++ []));exact List.mem_append.mpr (.inr (List.mem_cons_self ..))
theorem ZhD{am good:Bool}{m:Str}{e:Ex}(hm:Upr m)(hm8:m.length<=8)(hw:wfE e)(hd:dp e<=3)(hs:sz e<=10)(hn:∀b,nm b e=[])(hk:(["turn","or"]:List Str).contains (kw e)=false) (hl:(tx e).length<=50) (hg:good=true) (hq:m ≠ "QQ") (h1:1<=(tx e).length):Mkd am good (m ++ " = " ++ tx e++rsQ am) [(m,e)]:=by
 obtain⟨a1,a2,a3⟩:=ZiH (am:=am) hw hd hs;have hrl:(rsQ am).length<=6:=by cases am <;> decide
 have hT:m ++ " = " ++ tx e++rsQ am=bkT [(m,addQ am e)]:=by
  rw[Zmu,Zjn hk];apply Zb5;simp only[ZQ,List.append_assoc]
 have hlen:(m ++ " = " ++ tx e++rsQ am).length<=100:=by
  rw[Zn,Zn,Zn];show _+3+_+_<=_;lia
 have hW:Wr [(m,addQ am e)]:=⟨List.cons_ne_nil _ _,by show 1<=30;decide,fun x hx=>by
  rw[List.mem_singleton.mp hx];exact⟨⟨hm,hm8,a1⟩,hm8,by show dp (addQ am e)<16;lia,by show sz (addQ am e)<=500;lia,Zfh a1⟩⟩
 have hm1:1<=m.length:=by
  rw[<- Zas];exact List.length_pos_iff.mpr hm.1
 have hdd:∀x ∈ [(m,addQ am e)],dp x.2<12:=fun x hx=>by
  rw[List.mem_singleton.mp hx];show dp (addQ am e)<12;lia
 rw[hT] at hlen ⊢;refine hW.mkd (by lia) ⟨fun _=>⟨by lia,by show 1<=8;decide,hdd⟩,fun _=>hg⟩ (fun _ ha=>⟨fun o=>?_,?_⟩) (fun _ ha=>⟨?_,?_⟩)
 ·subst ha;exact Zhp (x:=(m,addQ true e)) (List.mem_cons_self ..) (Zi6 e) (fun h=>hq (List.mem_singleton.mp h).symm) o.2.1
 ·subst ha;rw[<- hT,Zn,Zn,Zn];show 7<_+3+_+6;lia
 ·subst ha;rfl
 ·subst ha;have hu:=Zlb (bk:=[(m,addQ false e)]) fun x hx b=>by
   rw[List.mem_singleton.mp hx];exact hn b
  exact⟨Zd3 (by show([m]:List Str).Nodup;exact List.nodup_cons.mpr ⟨(fun h=>nomatch h),List.nodup_nil⟩),hu.1,hu.2⟩
theorem Zlf{am good:Bool}{m n t:Str}(hm:Upr m)(hm4:m.length<=4)(hn:Upr n)(hn6:6<=n.length)(hn8:n.length<=8)(ht:Zkl t)(ht8:t.length<=8)(hm3:3<=m.length)(hg:good=true):Mkd am good (m ++ " = " ++ t ++ "(" ++ n ++ "); " ++ n ++ " = {}" ++ rsQ am) [(m,.tag t (.name n)),(n,.nil)]:=by
 obtain⟨a1,a2,a3⟩:=ZiH (am:=am) (e:=.nil) trivial (by decide) (by decide);have hrl:(rsQ am).length<=6:=by cases am <;> decide
 have hne:m≠n:=fun e=>by rw[e] at hm4;lia
 have hT:m ++ " = " ++ t ++ "(" ++ n ++ "); " ++ n ++ " = {}" ++ rsQ am=bkT [(m,.tag t (.name n)),(n,addQ am .nil)]:=by
  rw[Znc,Zjn rfl];apply Zb5;rw[show tx (.tag t (.name n))=t ++ "(" ++ n ++ ")" from rfl];simp only[ZQ,List.append_assoc];rfl
 have hlen:(m ++ " = " ++ t ++ "(" ++ n ++ "); " ++ n ++ " = {}" ++ rsQ am).length<=100/\7<(m ++ " = " ++ t ++ "(" ++ n ++ "); " ++ n ++ " = {}" ++ rsQ am).length:=by
  rw[Zn,Zn,Zn,Zn,Zn,Zn,Zn,Zn];show _+3+_+1+_+3+_+5+_<=_/\_<_+3+_+1+_+3+_+5+_;lia
 have hwt:wfE (.tag t (.name n)):=⟨⟨ht,ht8⟩,hn,hn8⟩;have hW:Wr [(m,.tag t (.name n)),(n,addQ am .nil)]:=⟨List.cons_ne_nil _ _,by show 2<=30;decide,fun x hx=>by
  rcases List.mem_cons.mp hx with rfl|hx
  ·exact⟨⟨hm,by show m.length<=8;lia,hwt⟩,by show m.length<=8;lia,by show 0+1<16;decide,by show 1+1<=500;decide,Zfh hwt⟩
  ·rw[List.mem_singleton.mp hx];exact⟨⟨hn,hn8,a1⟩,hn8,by show dp (addQ am .nil)<16;lia,by show sz (addQ am .nil)<=500;lia,Zfh a1⟩⟩
 have hdd:∀x ∈ [(m,Ex.tag t (.name n)),(n,addQ am .nil)],dp x.2<12:=fun x hx=>by
  rcases List.mem_cons.mp hx with rfl|hx
  ·show 0+1<12
   decide
  ·rw[List.mem_singleton.mp hx];show dp (addQ am .nil)<12;lia
 have hnd:([m,n]:List Str).Nodup:=List.nodup_cons.mpr ⟨fun h=>hne (List.mem_singleton.mp h),List.nodup_cons.mpr ⟨(fun h=>nomatch h),List.nodup_nil⟩⟩
 have hq:Str.ofString "QQ" ∉ ([m,n]:List Str):=fun h=>by
  rcases List.mem_cons.mp h with h|h
  ·rw[<- h] at hm3;exact absurd hm3 (by decide)
  ·rw[<- List.mem_singleton.mp h] at hn6;exact absurd hn6 (by decide)
 rw[hT] at hlen ⊢;refine hW.mkd (by lia) ⟨fun _=>⟨by lia,by show 2<=8;decide,hdd⟩,fun _=>hg⟩ (fun _ ha=>⟨fun o=>?_,hlen.2⟩) (fun _ ha=>⟨?_,?_⟩)
 ·subst ha;exact Zhp (bk:=[(m,.tag t (.name n)),(n,addQ true .nil)]) (x:=(n,addQ true .nil)) (List.mem_cons_of_mem _ (List.mem_cons_self ..)) (Zi6 .nil) hq o.2.1
 ·subst ha;rfl
 ·subst ha;refine⟨Zd3 hnd,Zj7 fun x hx k hk=>?_,ZjE fun k j hj=>?_⟩
  ·rcases List.mem_cons.mp hx with rfl|hx
   ·have:k=n:=List.mem_singleton.mp hk;rw[this];exact List.mem_cons_of_mem _ (List.mem_cons_self ..)
   ·rw[List.mem_singleton.mp hx] at hk;cases hk
  ·obtain⟨x,hx,_,h⟩:=ZgR hj;rcases List.mem_cons.mp hx with rfl|hx
   ·cases h
   ·rw[List.mem_singleton.mp hx] at h;cases h
theorem Zl6(am:Bool):atI [V.str "",.str " {} QQ"] (if am=true then 1 else 0)=some (.str (rsQ am)):=by
 cases am <;> rfl
theorem Zk1:Txt.lower grL=smL:=by decide +kernel
theorem ZmS(am:Bool):(rsQ am).length<=6:=by cases am <;> decide
set_option maxHeartbeats 2000000 in
theorem Ze0(B:∀x∈ZbK,mg x=none)(g_l_word:Has P w K mg base "_law_word" ["_law_cell","_law_many_here","_law_letters"] 1 Zid) (g_l_cell_at:Has P w K mg base "_law_cell_at" ["_law_script","_law_k"] 1 (Zc1 K)) (F:Fun K "_law_lettered" "_law_lettered" ZG f fd):FnOk P w K mg base CX0 2 f fd ["_law_script","_law_cell","_law_amiss"] (Zik K):=by
 refine F.ok Z5 (fun vs H Q E h=>?_) (fun cdv A outer s H vs Q E hr h=>?_)
 ·obtain⟨a,ns,c,am,rfl,_⟩:=h;rfl
 obtain⟨a,ns,c,am,rfl,hS,h63,q⟩:=h;refine ZbA ((Ze ZG).drop 10) (ZaT (ZbQ (Zt (Zc (Zt (Zc (PEi.of (pv 9)) (Zc (PEi.of (Zw Zr (Zw Zr (Zw Zr (Zw Zr (Zw Zr (Zw Zr (Zw Zr (Zw Zr (pv 10) Zo) (pv 6)) Zo) (pv 5)) Zo) (pv 5)) Zo) (pv 8))) Zm))) (Zc (PEi.of (Zbo ZfY (Zw Zam (pv 1) Zg) Zg (ZM _))) Zm))))) (fun u10 h10 e10=>?_);refine ZbA ((Ze ZG).drop 9) (Z0 (Zay (i:=9) Z5.nd rfl (Or.inl rfl) (Zt (Zc (Zt (Zc (PEi.of (pv 10)) (Zc (Zt (Zc Zv (Zc (PEi.of (pv 6)) (Zc (Zt (Zc Zv (Zc (PEi.of (pv 5)) Zm))) Zm)))) Zm))) (Zc (Zt (Zc (PEi.of (pv 5)) (Zc (Zt (Zc Zv Zm)) Zm))) Zm)))) h10) (fun u9 h9 e9=>?_);refine Zap ((Ze ZG).drop 8) (Zq (ZD (i:=10) Z5.nd rfl (Or.inl rfl) (Zw Zr Zo (ZdE Zjd (pv 5) ZgS (ZdQ Zg)))) h9) (fun u8 h8 e8=>?_);refine ZbA ((Za6 ((Ze ZG).getD 7 (.Pass ⟨0,0,0,0⟩))).drop 1) (ZaT (ZbQ (Zt (Zc (Zt (Zc (PEi.of (pv 9)) (Zc (PEi.of (Zw Zr (Zw Zr (Zw Zr Zo (pv 6)) Zo) (pv 8))) Zm))) (Zc (PEi.of (Zbo ZfY (Zw Zam (pv 1) Zg) Zg (ZM _))) Zm))))) (fun u7t1 h7t1 e7t1=>?_);refine ZgQ ((Za6 ((Ze ZG).getD 7 (.Pass ⟨0,0,0,0⟩))).drop 0) (Z0 (Zay (i:=9) Z5.nd rfl (Or.inl rfl) (Zt (Zc (Zt (Zc Zv (Zc (Zt (Zc Zv (Zc (Zt (Zc Zv (Zc (PEi.of (pv 6)) (Zc (Zt (Zc Zv Zm)) Zm)))) Zm))) Zm))) Zm))) h7t1) (fun u7t0 h7t0 e7t0=>?_);refine Zap ((Ze ZG).drop 7) (Zq (Zad (ZC ZaV (pv 7) Zg (ZM _)) h7t0 Zx) h8) (fun u7 h7 e7=>?_);refine ZbA ((Za6 ((Ze ZG).getD 6 (.Pass ⟨0,0,0,0⟩))).drop 1) (ZaT (ZbQ (Zt (Zc (Zt (Zc (PEi.of (pv 9)) (Zc (PEi.of (Zw Zr (Zw Zr (pv 5) Zo) (pv 8))) Zm))) (Zc (PEi.of (Zbo ZfY (Zw Zam (pv 1) Zg) Zg (ZM _))) Zm))))) (fun u6t1 h6t1 e6t1=>?_);refine ZgQ ((Za6 ((Ze ZG).getD 6 (.Pass ⟨0,0,0,0⟩))).drop 0) (Z0 (Zay (i:=9) Z5.nd rfl (Or.inl rfl) (Zt (Zc (Zt (Zc (PEi.of (pv 5)) (Zc (Zt (Zc Zv (Zc Zv (Zc (Zt (Zc Zv Zm)) Zm)))) Zm))) Zm))) h6t1) (fun u6t0 h6t0 e6t0=>?_);refine Zap ((Ze ZG).drop 6) (Zq (Zad (ZC ZaV (pv 7) Zg (ZM _)) h6t0 Zx) h7) (fun u6 h6 e6=>?_);refine Zap ((Ze ZG).drop 5) (Zq (ZD (i:=8) Z5.nd rfl (Or.inl rfl) (Z9 Zaz (PEi.to (Zbh (Zc Zv (Zc Zv Zm)))) (ZaG Zc5 rfl (B "int" (by decide)) ZhF (Za (pv 2) Zd)) (fun _ _=>rfl))) h6) (fun u5 h5 e5=>?_);refine Zap ((Ze ZG).drop 4) (Zq (ZD (i:=7) Z5.nd rfl (Or.inl rfl) (Zw Zam (ZR g_l_cell_at hr rfl (Za (pv 0) (Za Zg Zd))) Zg)) h5) (fun u4 h4 e4=>?_);refine Zap ((Ze ZG).drop 3) (Zq (ZD (i:=6) Z5.nd rfl (Or.inl rfl) (ZR g_l_word hr rfl (Za (Zw ZaQ (pv 1) Zg) (Za (pv 4) (Za (ZlD PySem.F.plainAttrs_str PySem.F.slot_str_lower PySem.F.type_str_lower Zk4 (pv 3)) Zd))))) h4) (fun u3 h3 e3=>?_);refine Zap ((Ze ZG).drop 2) (Zq (ZD (i:=5) Z5.nd rfl (Or.inl rfl) (ZR g_l_word hr rfl (Za (Zw ZaQ (pv 1) Zg) (Za (pv 4) (Za (pv 3) Zd))))) h3) (fun u2 h2 e2=>?_);refine Zap ((Ze ZG).drop 1) (Zq (ZD (i:=4) Z5.nd rfl (Or.inl rfl) (Zw Za9 Zg (Zw Zam (pv 1) Zg))) h2) (fun u1 h1 e1=>?_);refine Zap ((Ze ZG).drop 0) (Zq (ZD (i:=3) Z5.nd rfl (Or.inl rfl) Zo) h1) (fun u0 h0 e0=>?_);refine ZlX h0 ?_;have m0:=Int.emod_nonneg c (by decide:(6:Int)≠0);have m1:=Int.emod_lt_of_pos c (by decide:(0:Int)<6);refine ZF e0 ?_;show u1 _ _ _;refine ZF e1 ?_;refine⟨_,rfl,_,_,rfl,rfl,(by show(0:Int)<6;decide),_,_,rfl,rfl,?_⟩;obtain⟨mh,hmh⟩:∃mh:Nat,6+c % 6=(mh:Int):=⟨(6+c % 6).toNat,by lia⟩;show u2 _ [some (.ref a),some (.int c),some (.bl am),some (.str grL),some (.int (6+c % 6)),none,none,none,none,none,none] _;rw[hmh];refine ZF e2 ?_;refine⟨_,rfl,_,_,rfl,rfl,⟨by decide,by decide⟩,_,rfl,_,rfl,c / 6,mh,grL,rfl,rfl,by lia,fun nm1 hn1 hnx=>?_⟩;have hup:=Zng (t:=nm1) (by lia) hnx;show u3 _ _ _;refine ZF e3 ?_;refine⟨_,rfl,_,_,rfl,rfl,⟨by decide,by decide⟩,_,rfl,_,rfl,rfl,grL,smL,rfl,rfl,Zk1,by decide,c / 6,mh,smL,rfl,rfl,by lia,fun tg htg hgx=>?_⟩;have hlt:=Zfl (t:=tg) (by lia) hgx;show u4 _ _ _;refine ZF e4 ?_;refine⟨_,rfl,a,ns,_,rfl,hS,h63,by lia,fun v=>?_⟩;refine⟨_,_,rfl,rfl,(by show(0:Int)<3;decide),?_⟩;show u5 _ _ _;refine ZF e5 ?_;refine⟨(by show 2<=sizeLine;decide),fun l5 hl5=>?_⟩;have s5:Zk H (upd H l5 (.lst [.str "",.str " {} QQ"])):=Zk.new hl5;have x5:upd H l5 (.lst [.str "",.str " {} QQ"]) l5=some (.lst [.str "",.str " {} QQ"]):=Zb;generalize upd H l5 (.lst [.str "",.str " {} QQ"])=H5 at s5 x5 ⊢;refine⟨_,rfl,_,rfl,l5,_,_,_,rfl,rfl,SqL.of x5,Zl6 am,?_⟩;have hrl:=ZmS am;show u6 _ _ _;refine ZF e6 ?_;refine⟨_,rfl,rfl,_,rfl,ZaU (fun _=>?_) (fun _=>?_)⟩
 ·refine ZF e6t0 ?_;refine⟨_,rfl,(by show 1<=sizeLine;decide),fun t6 ht6=>?_⟩;have s6:Zk H5 (upd H5 t6 (.tup [.str "nil"])):=Zk.new ht6;have x6:upd H5 t6 (.tup [.str "nil"]) t6=some (.tup [.str "nil"]):=Zb;generalize upd H5 t6 (.tup [.str "nil"])=H6 at s6 x6 ⊢;refine⟨(by show 3<=sizeLine;decide),fun t7 ht7=>?_⟩;have s7:Zk H6 (upd H6 t7 (.tup [.str "tag",.str "a",.ref t6])):=Zk.new ht7;have x7:upd H6 t7 (.tup [.str "tag",.str "a",.ref t6]) t7=some (.tup [.str "tag",.str "a",.ref t6]):=Zb;generalize upd H6 t7 (.tup [.str "tag",.str "a",.ref t6])=H7 at s7 x7 ⊢;refine⟨(by show 2<=sizeLine;decide),fun t8 ht8=>?_⟩;have s8:Zk H7 (upd H7 t8 (.tup [.str nm1,.ref t7])):=Zk.new ht8;have x8:upd H7 t8 (.tup [.str nm1,.ref t7]) t8=some (.tup [.str nm1,.ref t7]):=Zb;generalize upd H7 t8 (.tup [.str nm1,.ref t7])=H8 at s8 x8 ⊢;refine⟨(by show 1<=sizeLine;decide),fun t9 ht9=>?_⟩;have s9:Zk H8 (upd H8 t9 (.tup [.ref t8])):=Zk.new ht9;have x9:upd H8 t9 (.tup [.ref t8]) t9=some (.tup [.ref t8]):=Zb;show u6t1 _ _ (upd H8 t9 (.tup [.ref t8]));generalize upd H8 t9 (.tup [.ref t8])=H9 at s9 x9 ⊢;refine ZF e6t1 ?_;have b1:(nm1 ++ " = a").length<=20:=by rw[Zn];show _+4<=_;lia
  refine⟨_,rfl,_,rfl,_,_,rfl,rfl,Zj (by show _+4<=_;lia),_,rfl,_,_,rfl,rfl,Zj (by lia),(by show 2<=sizeLine;decide),fun t10 ht10=>?_⟩;have s10:Zk H9 (upd H9 t10 (.tup [.ref t9,.str (nm1 ++ " = a" ++ rsQ am)])):=Zk.new ht10;have x10:upd H9 t10 (.tup [.ref t9,.str (nm1 ++ " = a" ++ rsQ am)]) t10=some (.tup [.ref t9,.str (nm1 ++ " = a" ++ rsQ am)]):=Zb;generalize upd H9 t10 (.tup [.ref t9,.str (nm1 ++ " = a" ++ rsQ am)])=H10 at s10 x10 ⊢;refine⟨_,rfl,_,_,rfl,rfl,(by show(0:Int)<6;decide),_,_,rfl,rfl,(by show 2<=sizeLine;decide),fun t11 ht11=>?_⟩;have s11:=Zk.new (o:=.tup [.ref t10,.bl (decide (c % 6<3))]) ht11;have hM:Mkd am (decide (c % 6<3)) (nm1 ++ " = a" ++ rsQ am) [(nm1,.tag "a" .nil)]:=by
   by_cases hg:c % 6<3
   ·have hT:nm1 ++ " = a" ++ rsQ am=nm1 ++ " = " ++ tx (.tag "a" .nil)++rsQ am:=by
     apply Zb5;simp only[ZQ,List.append_assoc];rfl
    rw[hT];exact ZhD hup (by lia) ⟨⟨⟨by decide,by decide⟩,by decide⟩,trivial⟩ (by decide) (by decide) (fun b=>by cases b <;> rfl) rfl (by decide) (decide_eq_true hg) (fun z=>by rw[z] at hn1;exact absurd hn1 (by show ¬ 2=mh;lia)) (by decide)
   ·rw[decide_eq_false hg];refine Zfb (by rw[Zn];lia) fun _=>?_;rw[ZQ,ZQ,List.append_assoc];exact Zeq hup.2 (by rw[Zas];lia) fun c' r' e=>by
     have e:(32:Nat)::([61,32,97]++cs (rsQ am))=c'::r':=e;injection e with e _;lia
  have s711:=((s8.trans s9).trans s10).trans s11;exact q t11 _ ((((s5.trans s6).trans s7).trans s711)) ⟨t10,.ref t9,_,_,_,Zb,s11 _ _ x10,hM,fun _=>⟨t9,_,rfl,(s10.trans s11) _ _ x9,.cons ⟨t8,t7,rfl,((s9.trans s10).trans s11) _ _ x8,.tag (s711 _ _ x7) (.nil ((s7.trans s711) _ _ x6))⟩ .nil⟩⟩
 ·show u7 _ _ _;refine ZF e7 ?_;refine⟨_,rfl,rfl,_,rfl,ZaU (fun _=>?_) (fun _=>?_)⟩
  ·refine ZF e7t0 ?_;refine⟨_,rfl,(by show 1<=sizeLine;decide),fun t6 ht6=>?_⟩;have s6:Zk H5 (upd H5 t6 (.tup [.str "nil"])):=Zk.new ht6;have x6:upd H5 t6 (.tup [.str "nil"]) t6=some (.tup [.str "nil"]):=Zb;generalize upd H5 t6 (.tup [.str "nil"])=H6 at s6 x6 ⊢;refine⟨(by show 3<=sizeLine;decide),fun t7 ht7=>?_⟩;have s7:Zk H6 (upd H6 t7 (.tup [.str "tag",.str tg,.ref t6])):=Zk.new ht7;have x7:upd H6 t7 (.tup [.str "tag",.str tg,.ref t6]) t7=some (.tup [.str "tag",.str tg,.ref t6]):=Zb;generalize upd H6 t7 (.tup [.str "tag",.str tg,.ref t6])=H7 at s7 x7 ⊢;refine⟨(by show 2<=sizeLine;decide),fun t8 ht8=>?_⟩;have s8:Zk H7 (upd H7 t8 (.tup [.str "many",.ref t7])):=Zk.new ht8;have x8:upd H7 t8 (.tup [.str "many",.ref t7]) t8=some (.tup [.str "many",.ref t7]):=Zb;generalize upd H7 t8 (.tup [.str "many",.ref t7])=H8 at s8 x8 ⊢;refine⟨(by show 2<=sizeLine;decide),fun t9 ht9=>?_⟩;have s9:Zk H8 (upd H8 t9 (.tup [.str "A",.ref t8])):=Zk.new ht9;have x9:upd H8 t9 (.tup [.str "A",.ref t8]) t9=some (.tup [.str "A",.ref t8]):=Zb;generalize upd H8 t9 (.tup [.str "A",.ref t8])=H9 at s9 x9 ⊢;refine⟨(by show 1<=sizeLine;decide),fun t10 ht10=>?_⟩;have s10:Zk H9 (upd H9 t10 (.tup [.ref t9])):=Zk.new ht10;have x10:upd H9 t10 (.tup [.ref t9]) t10=some (.tup [.ref t9]):=Zb;show u7t1 _ _ (upd H9 t10 (.tup [.ref t9]));generalize upd H9 t10 (.tup [.ref t9])=H10 at s10 x10 ⊢;refine ZF e7t1 ?_;have b1:("A = " ++ tg:Str).length<=20:=by rw[Zn];show 4+_<=_;lia
   have b2:("A = " ++ tg ++ "*" : Str).length<=30:=by rw[Zn];show _+1<=_;lia
   refine⟨_,rfl,_,rfl,_,_,rfl,rfl,Zj (by show 4+_<=_;lia),_,_,rfl,rfl,Zj (by show _+1<=_;lia),_,rfl,_,_,rfl,rfl,Zj (by lia),(by show 2<=sizeLine;decide),fun t11 ht11=>?_⟩;have s11:Zk H10 (upd H10 t11 (.tup [.ref t10,.str ("A = " ++ tg ++ "*" ++ rsQ am)])):=Zk.new ht11;have x11:upd H10 t11 (.tup [.ref t10,.str ("A = " ++ tg ++ "*" ++ rsQ am)]) t11=some (.tup [.ref t10,.str ("A = " ++ tg ++ "*" ++ rsQ am)]):=Zb;generalize upd H10 t11 (.tup [.ref t10,.str ("A = " ++ tg ++ "*" ++ rsQ am)])=H11 at s11 x11 ⊢;refine⟨_,rfl,_,_,rfl,rfl,(by show(0:Int)<6;decide),_,_,rfl,rfl,(by show 2<=sizeLine;decide),fun t12 ht12=>?_⟩;have s12:=Zk.new (o:=.tup [.ref t11,.bl (decide (c % 6<3))]) ht12;have hM:Mkd am (decide (c % 6<3)) ("A = " ++ tg ++ "*" ++ rsQ am) [("A",.rep 0 (.tag tg .nil))]:=by
    by_cases hg:c % 6<3
    ·have hT : "A = " ++ tg ++ "*" ++ rsQ am= "A" ++ " = " ++ tx (.rep 0 (.tag tg .nil))++rsQ am:=by
      apply Zb5;rw[show tx (.rep 0 (.tag tg .nil))=tg ++ "*" from rfl];simp only[ZQ,List.append_assoc];rfl
     rw[hT];have hx:(tx (.rep 0 (.tag tg .nil))).length=tg.length+1:=by rw[show tx (.rep 0 (.tag tg .nil))=tg ++ "*" from rfl,Zn];rfl
     exact ZhD ZgW (by decide) ⟨by decide,⟨hlt,by lia⟩,trivial⟩ (by show 0+1+1<=3;decide) (by show 1+1+1<=10;decide) (fun b=>by cases b <;> rfl) rfl (by lia) (decide_eq_true hg) (by decide) (by lia)
    ·rw[decide_eq_false hg];refine Zfb (by rw[Zn];lia) fun _=>?_;have:=Zc4 (m := "A") (t:=cs tg) (r:=42::cs (rsQ am)) ZgW (by decide) (fun c hc=>hlt.2 c hc) (by rw[Zas];lia) (fun c' r' e=>by injection e with e _;lia);rw[ZQ,ZQ,ZQ,List.append_assoc,List.append_assoc];exact this
   have s712:=(((s8.trans s9).trans s10).trans s11).trans s12;exact q t12 _ (((s5.trans s6).trans s7).trans s712) ⟨t11,.ref t10,_,_,_,Zb,s12 _ _ x11,hM,fun _=>⟨t10,_,rfl,(s11.trans s12) _ _ x10,.cons ⟨t9,t8,rfl,((s10.trans s11).trans s12) _ _ x9,.rep (m:=0) (((s9.trans s10).trans (s11.trans s12)) _ _ x8) (.tag (s712 _ _ x7) (.nil ((s7.trans s712) _ _ x6)))⟩ .nil⟩⟩
  ·show u8 _ _ _;refine ZF e8 ?_;have ec:cs (PySem.StrLaws.sliceText nm1 none (some 3))=(cs nm1).take 3:=Zil 3;have hsl:=congrArg List.length ec;rw[Zas,List.length_take,Zas] at hsl;refine⟨_,rfl,_,rfl,nm1,rfl,Zj (by lia),_,_,rfl,rfl,Zj (by show 1+_<=_;lia),?_⟩;generalize PySem.StrLaws.sliceText nm1 none (some 3)=sl at ec hsl ⊢;have hf4:("A" ++ sl:Str).length=4:=by rw[Zn];show 1+_=_;lia
   have hfu:Upr ("A" ++ sl:Str):=⟨(by rw[ZQ];exact fun z=>by cases z),fun x hx=>by
    rw[ZQ,ec] at hx;rcases List.mem_append.mp hx with h|h
    ·rw[show x=65 from List.mem_singleton.mp h]
     decide
    ·exact hup.2 x (List.mem_of_mem_take h)⟩
   show u9 _ [some (.ref a),some (.int c),some (.bl am),some (.str grL),some (.int (mh:Int)),some (.str nm1),some (.str tg),_,some (.str (rsQ am)),none,some (.str ("A" ++ sl))] _;generalize ("A" ++ sl:Str)=fs at hf4 hfu ⊢;refine ZF e9 ?_;refine⟨_,rfl,_,rfl,_,rfl,(by show 2<=sizeLine;decide),fun t6 ht6=>?_⟩;have s6:Zk H5 (upd H5 t6 (.tup [.str "name",.str nm1])):=Zk.new ht6;have x6:upd H5 t6 (.tup [.str "name",.str nm1]) t6=some (.tup [.str "name",.str nm1]):=Zb;generalize upd H5 t6 (.tup [.str "name",.str nm1])=H6 at s6 x6 ⊢;refine⟨(by show 3<=sizeLine;decide),fun t7 ht7=>?_⟩;have s7:Zk H6 (upd H6 t7 (.tup [.str "tag",.str tg,.ref t6])):=Zk.new ht7;have x7:upd H6 t7 (.tup [.str "tag",.str tg,.ref t6]) t7=some (.tup [.str "tag",.str tg,.ref t6]):=Zb;generalize upd H6 t7 (.tup [.str "tag",.str tg,.ref t6])=H7 at s7 x7 ⊢;refine⟨(by show 2<=sizeLine;decide),fun t8 ht8=>?_⟩;have s8:Zk H7 (upd H7 t8 (.tup [.str fs,.ref t7])):=Zk.new ht8;have x8:upd H7 t8 (.tup [.str fs,.ref t7]) t8=some (.tup [.str fs,.ref t7]):=Zb;generalize upd H7 t8 (.tup [.str fs,.ref t7])=H8 at s8 x8 ⊢;refine⟨_,rfl,(by show 1<=sizeLine;decide),fun t9 ht9=>?_⟩;have s9:Zk H8 (upd H8 t9 (.tup [.str "nil"])):=Zk.new ht9;have x9:upd H8 t9 (.tup [.str "nil"]) t9=some (.tup [.str "nil"]):=Zb;generalize upd H8 t9 (.tup [.str "nil"])=H9 at s9 x9 ⊢;refine⟨(by show 2<=sizeLine;decide),fun t10 ht10=>?_⟩;have s10:Zk H9 (upd H9 t10 (.tup [.str nm1,.ref t9])):=Zk.new ht10;have x10:upd H9 t10 (.tup [.str nm1,.ref t9]) t10=some (.tup [.str nm1,.ref t9]):=Zb;generalize upd H9 t10 (.tup [.str nm1,.ref t9])=H10 at s10 x10 ⊢;refine⟨(by show 2<=sizeLine;decide),fun t11 ht11=>?_⟩;have s11:Zk H10 (upd H10 t11 (.tup [.ref t8,.ref t10])):=Zk.new ht11;have x11:upd H10 t11 (.tup [.ref t8,.ref t10]) t11=some (.tup [.ref t8,.ref t10]):=Zb;show u10 _ _ (upd H10 t11 (.tup [.ref t8,.ref t10]));generalize upd H10 t11 (.tup [.ref t8,.ref t10])=H11 at s11 x11 ⊢;refine ZF e10 ?_;have b1:(fs ++ " = " : Str).length<=10:=by rw[Zn];show _+3<=_;lia
   have b2:(fs ++ " = " ++ tg:Str).length<=30:=by rw[Zn];lia
   have b3:(fs ++ " = " ++ tg ++ "(" : Str).length<=31:=by rw[Zn];show _+1<=_;lia
   have b4:(fs ++ " = " ++ tg ++ "(" ++ nm1:Str).length<=51:=by rw[Zn];lia
   have b5:(fs ++ " = " ++ tg ++ "(" ++ nm1 ++ "); " : Str).length<=54:=by rw[Zn];show _+3<=_;lia
   have b6:(fs ++ " = " ++ tg ++ "(" ++ nm1 ++ "); " ++ nm1:Str).length<=74:=by rw[Zn];lia
   have b7:(fs ++ " = " ++ tg ++ "(" ++ nm1 ++ "); " ++ nm1 ++ " = {}" : Str).length<=79:=by rw[Zn];show _+5<=_;lia
   refine⟨_,rfl,_,rfl,_,_,rfl,rfl,Zj (by show _+3<=_;lia),_,rfl,_,_,rfl,rfl,Zj (by lia),_,_,rfl,rfl,Zj (by show _+1<=_;lia),_,rfl,_,_,rfl,rfl,Zj (by lia),_,_,rfl,rfl,Zj (by show _+3<=_;lia),_,rfl,_,_,rfl,rfl,Zj (by lia),_,_,rfl,rfl,Zj (by show _+5<=_;lia),_,rfl,_,_,rfl,rfl,Zj (by lia),(by show 2<=sizeLine;decide),fun t12 ht12=>?_⟩;have s12:Zk H11 (upd H11 t12 (.tup [.ref t11,.str (fs ++ " = " ++ tg ++ "(" ++ nm1 ++ "); " ++ nm1 ++ " = {}" ++ rsQ am)])):=Zk.new ht12;have x12:upd H11 t12 (.tup [.ref t11,.str (fs ++ " = " ++ tg ++ "(" ++ nm1 ++ "); " ++ nm1 ++ " = {}" ++ rsQ am)]) t12=some (.tup [.ref t11,.str (fs ++ " = " ++ tg ++ "(" ++ nm1 ++ "); " ++ nm1 ++ " = {}" ++ rsQ am)]):=Zb;generalize upd H11 t12 (.tup [.ref t11,.str (fs ++ " = " ++ tg ++ "(" ++ nm1 ++ "); " ++ nm1 ++ " = {}" ++ rsQ am)])=H12 at s12 x12 ⊢;refine⟨_,rfl,_,_,rfl,rfl,(by show(0:Int)<6;decide),_,_,rfl,rfl,(by show 2<=sizeLine;decide),fun t13 ht13=>?_⟩;have s13:=Zk.new (o:=.tup [.ref t12,.bl (decide (c % 6<3))]) ht13;have hM:Mkd am (decide (c % 6<3)) (fs ++ " = " ++ tg ++ "(" ++ nm1 ++ "); " ++ nm1 ++ " = {}" ++ rsQ am) [(fs,.tag tg (.name nm1)),(nm1,.nil)]:=by
    by_cases hg:c % 6<3
    ·exact Zlf hfu (by lia) hup (by lia) (by lia) hlt (by lia) (by lia) (decide_eq_true hg)
    ·rw[decide_eq_false hg];refine Zfb (by rw[Zn];lia) fun _=>?_;have:=Zc4 (m:=fs) (t:=cs tg) (r:=40::(cs nm1++(cs (Str.ofString "); ")++(cs nm1++(cs (Str.ofString " = {}")++cs (rsQ am)))))) hfu (by lia) (fun c hc=>hlt.2 c hc) (by rw[Zas];lia) (fun c' r' e=>by injection e with e _;lia);rw[ZQ,ZQ,ZQ,ZQ,ZQ,ZQ,ZQ,ZQ];simp only[List.append_assoc];exact this
   have s713:=((((s8.trans s9).trans s10).trans s11).trans s12).trans s13;exact q t13 _ (((s5.trans s6).trans s7).trans s713) ⟨t12,.ref t11,_,_,_,Zb,s13 _ _ x12,hM,fun _=>⟨t11,_,rfl,(s12.trans s13) _ _ x11,.cons ⟨t8,t7,rfl,(((s9.trans s10).trans (s11.trans s12)).trans s13) _ _ x8,.tag (s713 _ _ x7) (.name ((s7.trans s713) _ _ x6))⟩ (.cons ⟨t10,t9,rfl,((s11.trans s12).trans s13) _ _ x10,.nil (((s10.trans s11).trans (s12.trans s13)) _ _ x9)⟩ .nil)⟩⟩
theorem Zjw:∀{ws:List Str},ws ≠ []->(Txt.join (Str.ofString " ") ws).length+1=(ws.map (·.length)).sum+ws.length
 | [],h=>absurd rfl h
 | y::ys,_=>by
  have h2:∀l:List Str,(l.flatMap fun z=>cs (Str.ofString " ")++cs z).length=(l.map (·.length)).sum+l.length:=by
   intro l
   induction l with
   | nil=>rfl
   | cons a l ih =>
    have hca:=Zas a;rw[List.flatMap_cons,List.length_append,List.length_append,ih,List.map_cons,List.sum_cons,List.length_cons];show 1+_+_=_;lia
  rw[<- Zas,Zfc,Zd5,List.length_append,h2,Zas,List.map_cons,List.sum_cons,List.length_cons];lia
def LgO(e:Ex):Prop:=(∃t,e=.tag t .nil/\Zkl t/\t.length<=8)\/∃n,e=.name n/\Upr n/\n.length<=8
theorem LgO.facts{e:Ex}(h:LgO e):wfE e/\dp e<=1/\sz e<=2/\brc ["turn","or"] (kw e) (tx e)=tx e:=by
 rcases h with⟨t,rfl,h1,h2⟩|⟨n,rfl,h1,h2⟩
 ·exact⟨⟨⟨h1,h2⟩,trivial⟩,by show 0+1<=1;decide,by show 1+1<=2;decide,rfl⟩
 ·exact⟨⟨h1,h2⟩,by show 0<=1;decide,by show 1<=2;decide,rfl⟩
theorem ZiF:∀{es:List Ex},(∀e∈es,wfE e)->Zm3 (ofL es)
 | [],_=>trivial
 | e::r,h=>⟨h e (List.mem_cons_self ..),ZiF fun x hx=>h x (List.mem_cons_of_mem _ hx)⟩
theorem ZjP:∀{es:List Ex},(∀e∈es,dp e<=1)->dps (ofL es)<=1
 | [],_=>Nat.zero_le _
 | e::r,h=>by
  have h1:=h e (List.mem_cons_self ..);have h2:=ZjP (es:=r) fun x hx=>h x (List.mem_cons_of_mem _ hx);show max (dp e) (dps (ofL r))<=1;lia
theorem ZiB:∀{es:List Ex},(∀e∈es,sz e<=2)->szs (ofL es)<=2*es.length
 | [],_=>Nat.le_refl _
 | e::r,h=>by
  have h1:=h e (List.mem_cons_self ..);have h2:=ZiB (es:=r) fun x hx=>h x (List.mem_cons_of_mem _ hx);show sz e+szs (ofL r)<=_;rw[List.length_cons];lia
theorem Zlg:∀es:List Ex,cnt (ofL es)=es.length
 | []=>rfl
 | e::r=>by show cnt (ofL r)+1=_;rw[Zlg r];rfl
theorem ZlA:∀{es:List Ex},(∀e∈es,LgO e)->txs ["turn","or"] (ofL es)=es.map tx
 | [],_=>rfl
 | e::r,h=>by
  show brc ["turn","or"] (kw e) (tx e)::txs ["turn","or"] (ofL r)=_;rw[(h e (List.mem_cons_self ..)).facts.2.2.2,ZlA fun x hx=>h x (List.mem_cons_of_mem _ hx)];rfl
theorem ZgV{b:Bool}{es:List Ex}{n:Str}:n∈nms b (ofL es)↔∃e∈es,n∈nm b e:=by
 rw[ZeS,Zhk];exact List.mem_flatMap
theorem ZkZ{am:Bool}{c:Int}{es:List Ex}{ts:List Str}(hes:∀e∈es,LgO e)(h2:2<=es.length)(hl:(((es.map tx).map (·.length)).sum+es.length:Nat)=((391+c % 13).toNat))(h1:am=true->∃n,Ex.name n∈es)(h0:am=false->es=ts.map fun t=>.tag t .nil):Mkd am (decide (c % 13<7)) ("A = " ++ Txt.join (Str.ofString " ") (es.map tx)) [("A",.several true (ofL (ts.map fun t=>.tag t .nil)))]:=by
 have m0:=Int.emod_nonneg c (by decide:(13:Int)≠0);have m1:=Int.emod_lt_of_pos c (by decide:(0:Int)<13);have hne:es.map tx ≠ []:=fun e=>by
  have:=congrArg List.length e;rw[List.length_map] at this;have:es.length=0:=this;lia
 have hjl:=Zjw hne;rw[List.length_map] at hjl;have hT : "A = " ++ Txt.join (Str.ofString " ") (es.map tx)=bkT [("A",.several true (ofL es))]:=by
  rw[Zmu,show tx (.several true (ofL es))=Txt.join (Zg7 true) (txs (Zbk true) (ofL es)) from rfl,show Zbk true=(["turn","or"]:List Str) from rfl,ZlA hes];apply Zb5;simp only[ZQ,List.append_assoc];rfl
 have hw:wfE (.several true (ofL es)):=⟨by rw[Zlg];exact h2,ZiF fun e he=>(hes e he).facts.1⟩;have hd:=ZjP fun e he=>(hes e he).facts.2.1;have hs:=ZiB fun e he=>(hes e he).facts.2.2.1;have hsum:es.length<=((es.map tx).map (·.length)).sum:=by
  have:∀l:List Ex,(∀e∈l,LgO e)->l.length<=((l.map tx).map (·.length)).sum:=by
   intro l
   induction l with
   | nil=>intro _;exact Nat.le_refl _
   | cons a l ih =>
    intro h;have h1:=ih fun x hx=>h x (List.mem_cons_of_mem _ hx);have h2:1<=(tx a).length:=by
     rcases h a (List.mem_cons_self ..) with⟨t,rfl,k1,_⟩|⟨n,rfl,k1,_⟩
     ·show 1<=t.length;rw[<- Zas];exact List.length_pos_iff.mpr k1.1
     ·show 1<=n.length;rw[<- Zas];exact List.length_pos_iff.mpr k1.1
    simp only[List.map_cons,List.sum_cons,List.length_cons];lia
  exact this es hes
 have hlen:(bkT [("A",.several true (ofL es))]).length=4+(Txt.join (Str.ofString " ") (es.map tx)).length:=by
  rw[<- hT,Zn];rfl
 have hW:Wr [("A",.several true (ofL es))]:=⟨List.cons_ne_nil _ _,by show 1<=30;decide,fun x hx=>by
  rw[List.mem_singleton.mp hx];exact⟨⟨ZgW,by show 1<=8;decide,hw⟩,by show 1<=8;decide,by show dps (ofL es)+1<16;lia,by show szs (ofL es)+1<=500;lia,Zfh hw⟩⟩
 rw[hT];refine hW.mkd (by lia) ⟨fun z=>⟨?_,by show 1<=8;decide,fun x hx=>?_⟩,fun z=>?_⟩ (fun _ ha=>⟨fun o=>?_,by lia⟩) (fun _ ha=>⟨?_,?_⟩)
 ·have z:=of_decide_eq_true z;lia
 ·rw[List.mem_singleton.mp hx];show dps (ofL es)+1<12;lia
 ·have:=z.1;exact decide_eq_true (by lia)
 ·obtain⟨n,hn⟩:=h1 ha;have hn1:n∈nm true (.several true (ofL es)):=ZgV.mpr ⟨_,hn,List.mem_cons_self ..⟩;have hn2:n∈nm false (.several true (ofL es)):=ZgV.mpr ⟨_,hn,List.mem_cons_self ..⟩;by_cases hA:n= "A"
  ·refine o.2.2 ⟨["A"],List.cons_ne_nil _ _,fun k hk=>hk,fun k hk=>⟨"A",?_,List.mem_cons_self ..⟩⟩;rw[List.mem_singleton.mp hk];rw[ZfZ (x:=("A",.several true (ofL es))) (by show(["A"]:List Str).Nodup;decide) (List.mem_cons_self ..),<- hA];exact hn2
  ·exact Zhp (bk:=[("A",.several true (ofL es))]) (List.mem_cons_self ..) hn1 (fun h=>hA (List.mem_singleton.mp h)) o.2.1
 ·rw[h0 ha]
 ·have hu:=Zlb (bk:=[("A",.several true (ofL es))]) fun x hx b=>by
   rw[List.mem_singleton.mp hx];refine List.eq_nil_iff_forall_not_mem.mpr fun n hn=>?_;obtain⟨e,he,hne⟩:=ZgV.mp hn;rw[h0 ha] at he;obtain⟨t,_,rfl⟩:=List.mem_map.mp he;cases b <;> cases hne
  exact⟨Zd3 (by show(["A"]:List Str).Nodup;decide),hu.1,hu.2⟩
def SzO(zs:List Nat):Prop := ∀z∈zs,1<=z/\z<=8
theorem SzO.snoc{zs:List Nat}{z:Nat}(h:SzO zs)(h1:1<=z)(h2:z<=8):SzO (zs ++ [z]):=fun x hx=>by
 rcases List.mem_append.mp hx with hx|hx
 ·exact h x hx
 ·rw[List.mem_singleton.mp hx];exact⟨h1,h2⟩
theorem Ze7(zs:List Nat)(z:Nat):(zs ++ [z]).sum=zs.sum+z:=by
 rw[List.sum_append];simp
def iv(z:Nat):V:=.int (z:Int)
theorem Zgj(zs:List Nat)(z:Nat):zs.map iv ++ [V.int (z:Int)]=(zs ++ [z]).map iv:=by
 rw[List.map_append];rfl
theorem ZmY(zs:List Nat)(z:Nat):atI ((zs ++ [z]).map iv) (-1)=some (.int (z:Int)):=by
 rw[List.map_append];exact Zk7 _ _
set_option maxHeartbeats 4000000 in
theorem ZjY(B:∀x∈ZbK,mg x=none)(g_l_cell_at:Has P w K mg base "_law_cell_at" ["_law_script","_law_k"] 1 (Zc1 K)) (g_l_word:Has P w K mg base "_law_word" ["_law_cell","_law_many_here","_law_letters"] 1 Zid) (F:Fun K "_law_long" "_law_long" Z4 f fd):FnOk P w K mg base CX0 2 f fd ["_law_script","_law_cell","_law_amiss"] (Zik K):=by
 refine F.ok ZaW (fun vs H Q E h=>?_) (fun cdv A outer s H vs Q E hr h=>?_)
 ·obtain⟨a,ns,c,am,rfl,_⟩:=h;rfl
 obtain⟨a,ns,c,am,rfl,hS,h63,q⟩:=h;refine ZbA ((Ze Z4).drop 10) (ZaT (ZbQ (Zt (Zc (Zt (Zc (Zt (Zc (Zt (Zc Zv (Zc (PEi.of (pv 8)) Zm))) Zm)) (Zc (PEi.of (Zw Zr Zo (ZbT PySem.F.plainAttrs_str PySem.F.slot_str_join PySem.F.type_str_join Zdl Zo (Za (pv 7) Zd)))) Zm))) (Zc (PEi.of (Zbo ZfY (Zw Zam (pv 1) Zg) Zg (ZM _))) Zm))))) (fun u10 h10 e10=>?_);refine Zap ((Za6 ((Ze Z4).getD 9 (.Pass ⟨0,0,0,0⟩))).drop 1) (Zi (Zjl (ZlD PySem.F.plainAttrs_str PySem.F.slot_str_upper PySem.F.type_str_upper ZkJ (Z9 Zaz (pv 7) (pv 9) (fun _ _=>rfl))) (Zns (pv 7) (pv 9) set_list))) (fun u9t1 h9t1 e9t1=>?_);refine ZcJ ((Za6 ((Ze Z4).getD 9 (.Pass ⟨0,0,0,0⟩))).drop 0) (Zq (ZD (i:=9) ZaW.nd rfl (Or.inl rfl) (Zw Zam (Zw ZaQ (pv 1) Zg) (ZS Zac rfl (B "len" (by decide)) PySem.boot_len (Za (pv 7) Zd)))) h9t1) (fun u9t0 h9t0 e9t0=>?_);refine Zap ((Ze Z4).drop 9) (Zq (Zad (ZW (pv 2) (fun _=>rfl)) h9t0 Zx) h10) (fun u9 h9 e9=>?_);refine ZbA ((Ze Z4).drop 8) (Z0 (Zay (i:=8) ZaW.nd rfl (Or.inl rfl) (Zt (Zc Zv (Zc (Zev Zbf rfl (B "tuple" (by decide)) ZbZ (Zc (PEi.of (ZcP (cl:=[]) ["_law_tag"] [] (Zb1 (pv 7)) (fun _ _ _ _=>(ZV (i:=0) nd1 rfl (Or.inl rfl))) (fun _ _ _ _=>(PEi.to (Zt (Zc Zv (Zc (PEi.of (pv 0)) (Zc (Zt (Zc Zv Zm)) Zm)))))) rfl rfl (by decide) rfl (by decide) (fun _ _ h=>nomatch h) (Zds (by decide)) (fun _ _ h=>nomatch h) (fun _=>rfl))) Zm)) Zm)))) h9) (fun u8 h8 e8=>?_)
 refine Zap ((Ze Z4).drop 7) (Zq (ZdR (cl:=_) (n0:=7) ZaW.nd rfl (Or.inl rfl) ["_law_at"] [ ("_law_cell",1) ,("_law_small",3) ,("_law_sizes",5) ] (Zcb rfl (B "range" (by decide)) (Za (ZS Zac rfl (B "len" (by decide)) PySem.boot_len (Za (pv 5) Zd)) Zd)) (fun _ _ _ _=>(ZV (i:=0) (show List.Nodup (["_law_at","_law_cell","_law_small","_law_sizes"]:List Str) by decide) rfl (Or.inl rfl))) (fun _ _ _ _=>(ZR g_l_word hr rfl (Za (Zw Za9 (pv 1) (Zw ZjT Zg (pv 0))) (Za (Z9 (Zg4 (K:=K) rfl) (pv 3) (pv 0) (fun _ _=>rfl)) (Za (pv 2) Zd))))) rfl rfl (by decide) rfl (by decide) (ZfG (by(repeat' first|exact List.forall_mem_nil _|refine List.forall_mem_cons.mpr ⟨?_,?_⟩) <;> rfl)) (ZdM (by(repeat' first|exact List.forall_mem_nil _|refine List.forall_mem_cons.mpr ⟨?_,?_⟩) <;> first|(intro h;exact⟨_,rfl⟩)|(intro h;exact absurd h (by decide)))) (fun _=>by(repeat' first|exact List.forall_mem_nil _|refine List.forall_mem_cons.mpr ⟨?_,?_⟩) <;> exact⟨rfl,rfl,Or.inl rfl⟩) (fun _=>rfl) rfl) h8) (fun u7 h7 e7=>?_)
 refine Zap ((Ze Z4).drop 6) (Zq (Zaw (ZbT PySem.F.plainAttrs_list PySem.F.slot_list_append PySem.F.type_list_append ZaM (pv 5) (Za (pv 4) Zd))) h7) (fun u6 h6 e6=>?_);refine Zap ((Za6 ((Ze Z4).getD 5 (.Pass ⟨0,0,0,0⟩))).drop 1) (Zi (ZD (i:=4) ZaW.nd rfl (Or.inl rfl) Zg)) (fun u5t1 h5t1 e5t1=>?_);refine ZcJ ((Za6 ((Ze Z4).getD 5 (.Pass ⟨0,0,0,0⟩))).drop 0) (Zq (Zaw (ZbT PySem.F.plainAttrs_list PySem.F.slot_list_append PySem.F.type_list_append ZaM (pv 5) (Za Zg Zd))) h5t1) (fun u5t0 h5t0 e5t0=>?_);refine Zap ((Ze Z4).drop 5) (Zq (Zad (ZC ZaV (pv 4) Zg (ZM _)) h5t0 Zx) h6) (fun u5 h5 e5=>?_);refine Zap ((Za6 ((Ze Z4).getD 4 (.Pass ⟨0,0,0,0⟩))).drop 2) (Zi (ZD (i:=6) ZaW.nd rfl (Or.inl rfl) (Zw Za9 (pv 6) Zg))) (fun u4_2 h4_2 e4_2=>?_);refine Zap ((Za6 ((Ze Z4).getD 4 (.Pass ⟨0,0,0,0⟩))).drop 1) (Zq (ZD (i:=4) ZaW.nd rfl (Or.inl rfl) (Zw Zhw (Zw Zhw (pv 4) (Z9 Zaz (pv 5) (Zoi ZnL Zg) (fun _ _=>rfl))) Zg)) h4_2) (fun u4_1 h4_1 e4_1=>?_);refine ZcJ ((Za6 ((Ze Z4).getD 4 (.Pass ⟨0,0,0,0⟩))).drop 0) (Zq (Zaw (ZbT PySem.F.plainAttrs_list PySem.F.slot_list_append PySem.F.type_list_append ZaM (pv 5) (Za (Zw Za9 Zg (Zw Zam (Zw ZaQ (ZR g_l_cell_at hr rfl (Za (pv 0) (Za (Zw Za9 Zg (Zw Zam (pv 6) Zg)) Zd))) (Zw Za9 Zg (Zw ZaQ (pv 6) Zg))) Zg)) Zd))) h4_1) (fun u4_0 h4_0 e4_0=>?_);refine Zap ((Ze Z4).drop 4) (Zq (ZbL PassesOwn.never (ZC Zkq (pv 4) Zg (ZM _)) h4_0) h5) (fun u4 h4 e4=>?_);refine Zap ((Ze Z4).drop 3) (Zq (ZD (i:=6) ZaW.nd rfl (Or.inl rfl) Zg) h4) (fun u3 h3 e3=>?_);refine ZbA ((Ze Z4).drop 2) (Z0 (Zay (i:=5) ZaW.nd rfl (Or.inr rfl) (Zbh Zm)) h3) (fun u2 h2 e2=>?_);refine Zap ((Ze Z4).drop 1) (Zq (ZD (i:=4) ZaW.nd rfl (Or.inl rfl) (Zw Za9 Zg (Zw Zam (pv 1) Zg))) h2) (fun u1 h1 e1=>?_);refine Zap ((Ze Z4).drop 0) (Zq (ZD (i:=3) ZaW.nd rfl (Or.inr rfl) Zo) h1) (fun u0 h0 e0=>?_);refine ZlX h0 ?_;have m0:=Int.emod_nonneg c (by decide:(13:Int)≠0);have m1:=Int.emod_lt_of_pos c (by decide:(0:Int)<13);obtain⟨L0,hL0⟩:∃L0:Nat,390+c % 13=(L0:Int):=⟨(390+c % 13).toNat,by lia⟩;refine ZF e0 ?_;show u1 _ _ _;refine ZF e1 ?_;refine⟨_,rfl,_,_,rfl,rfl,(by show(0:Int)<13;decide),_,_,rfl,rfl,?_⟩;show u2 _ [some (.ref a),some (.int c),some (.bl am),some (.str smL),some (.int (390+c % 13)),none,none,none,none,none] _;rw[hL0];refine ZF e2 ?_;refine⟨(by show 0<=sizeLine;decide),fun sl hsl=>?_⟩;have s1:Zk H (upd H sl (.lst [])):=Zk.new hsl;have x1:upd H sl (.lst []) sl=some (.lst []):=Zb;show u3 _ _ (upd H sl (.lst []));generalize upd H sl (.lst [])=H1 at s1 x1 ⊢;refine ZF e3 ?_;show u4 _ _ _;refine ZF e4 ?_;refine⟨fun m σ H2=>∃(zs:List Nat)(left k:Nat),m=left /\ σ =[some (.ref a),some (.int c),some (.bl am),some (.str smL),some (.int (left:Int)),some (.ref sl),some (.int (k:Int)),none,none,none]/\Zk H H2/\H2 sl=some (.lst (zs.map iv))/\SzO zs/\zs.sum+zs.length+left=L0/\1<=left/\k=2+zs.length,⟨L0,[],L0,2,rfl,rfl,s1,x1,(fun _ h=>nomatch h),by show 0+0+L0=L0;lia,by lia,rfl⟩,?_⟩
 rintro left σ H2 ⟨zs,_,k,rfl,rfl,sm,hz2,hz,hsum,hl1,hk⟩;refine⟨_,rfl,_,_,rfl,rfl,_,rfl,ZaU (fun z9=>?_) (fun z9=>?_)⟩
 ·have z9:(9:Int)<(left:Int):=of_decide_eq_true z9;have k0:=Int.emod_nonneg (k:Int) (by decide:(60:Int)≠0);refine⟨fun σ' H'=>∃m',m'<left/\∃(zs:List Nat)(left k:Nat),m'=left /\ σ'=[some (.ref a),some (.int c),some (.bl am),some (.str smL),some (.int (left:Int)),some (.ref sl),some (.int (k:Int)),none,none,none]/\Zk H H'/\H' sl=some (.lst (zs.map iv))/\SzO zs/\zs.sum+zs.length+left=L0/\1<=left/\k=2+zs.length,fun _ _ h=>h,?_⟩;refine ZF e4_0 ?_;refine⟨_,rfl,.inl ⟨rfl,_,SqL.of hz2⟩,_,rfl,_,rfl,_,_,rfl,rfl,(by show(0:Int)<60;decide),_,_,rfl,rfl,a,ns,_,rfl,sm.seq hS,h63,by lia,fun v=>?_⟩;have v0:=Int.emod_nonneg (v / (1+(k:Int) / 60)) (by decide:(8:Int)≠0);have v1:=Int.emod_lt_of_pos (v / (1+(k:Int) / 60)) (by decide:(0:Int)<8);refine⟨_,rfl,_,_,rfl,rfl,⟨by decide,by decide⟩,_,_,rfl,rfl,_,_,rfl,rfl,⟨by lia,by lia⟩,_,_,rfl,rfl,(by show(0:Int)<8;decide),_,_,rfl,rfl,?_⟩;obtain⟨z,hzz⟩:∃z:Nat,1+v / (1+(k:Int) / 60) % 8=(z:Int):=⟨(1+v / (1+(k:Int) / 60) % 8).toNat,by lia⟩;refine⟨sl,_,_,rfl,congrArg (fun x=>[V.int x]) hzz,hz2,Z3 (by rw[List.length_map];lia),?_⟩;rw[Zgj];have x3:upd H2 sl (.lst ((zs ++ [z]).map iv)) sl=some (.lst ((zs ++ [z]).map iv)):=Zb;have s3:Zk H (upd H2 sl (.lst ((zs ++ [z]).map iv))):=sm.upd_new hsl;show u4_1 _ _ (upd H2 sl (.lst ((zs ++ [z]).map iv)));generalize upd H2 sl (.lst ((zs ++ [z]).map iv))=H3 at x3 s3 ⊢;refine ZF e4_1 ?_;refine⟨_,rfl,_,rfl,_,rfl,sl,_,_,_,rfl,rfl,SqL.of x3,ZmY zs z,_,_,rfl,rfl,_,_,rfl,rfl,?_⟩;show u4_2 _ _ _;refine ZF e4_2 ?_;refine⟨_,rfl,_,_,rfl,rfl,?_⟩;obtain⟨l2,hl2⟩:∃l2:Nat,(left:Int)-(z:Int)-1=(l2:Int):=⟨((left:Int)-(z:Int)-1).toNat,by lia⟩;refine⟨l2,by lia,zs ++ [z],l2,k+1,rfl,?_,s3,x3,hz.snoc (by lia) (by lia),by rw[Ze7,List.length_append];show _+_+(_+1)+_=_;lia,by lia,by rw[List.length_append,hk];rfl⟩;show [some (V.ref a),some (.int c),some (.bl am),some (.str smL),some (.int ((left:Int)-(z:Int)-1)),some (.ref sl),some (.int ((k:Int)+1)),none,none,none]=_;rw[hl2];rfl
 have z9 : ¬ (9:Int)<(left:Int):=fun h=>z9 (decide_eq_true h);have r6:∀(H3:Hp)(zs:List Nat)(left:Nat)(v6:Option V),Zk H H3->H3 sl=some (.lst (zs.map iv))->SzO zs->zs.sum+zs.length+left=L0->1<=left->left<=8->u6 { nx:=fun _ H'=>Q .non H',rt:=Q } [some (.ref a),some (.int c),some (.bl am),some (.str smL),some (.int (left:Int)),some (.ref sl),v6,none,none,none] H3:=by
  intro H3 zs left v6 s3 hz3 hz hsum hl1 hl8;refine ZF e6 ?_;refine⟨_,rfl,.inl ⟨rfl,_,SqL.of hz3⟩,_,rfl,sl,_,_,rfl,rfl,hz3,Z3 (by rw[List.length_map];lia),?_⟩;rw[Zgj];have x4:upd H3 sl (.lst ((zs ++ [left]).map iv)) sl=some (.lst ((zs ++ [left]).map iv)):=Zb;have s4:Zk H (upd H3 sl (.lst ((zs ++ [left]).map iv))):=s3.upd_new hsl;have hz4:SzO (zs ++ [left]):=hz.snoc hl1 hl8;have hsum4:(zs ++ [left]).sum+(zs ++ [left]).length=L0+1:=by rw[Ze7,List.length_append];show _+_+(_+1)=_;lia
  show u7 _ _ (upd H3 sl (.lst ((zs ++ [left]).map iv)));generalize upd H3 sl (.lst ((zs ++ [left]).map iv))=H4 at x4 s4 ⊢;generalize zs ++ [left]=zz at x4 hz4 hsum4;refine ZF e7 ?_;have hzl:zz.length<=403:=by
   have:∀l:List Nat,SzO l->l.length<=l.sum:=by
    intro l
    induction l with
    | nil=>intro _;exact Nat.le_refl _
    | cons x l ih =>
     intro h;have h1:=ih fun y hy=>h y (List.mem_cons_of_mem _ hy);have h2:=h x (List.mem_cons_self ..);rw[List.length_cons,List.sum_cons];lia
   have:=this zz hz4;lia
  have hz2:2<=zz.length:=by
   have:∀l:List Nat,SzO l->l.sum<=8*l.length:=by
    intro l
    induction l with
    | nil=>intro _;exact Nat.le_refl _
    | cons x l ih =>
     intro h;have h1:=ih fun y hy=>h y (List.mem_cons_of_mem _ hy);have h2:=h x (List.mem_cons_self ..);rw[List.length_cons,List.sum_cons];lia
   have:=this zz hz4;lia
  have hivl:(((zz.map iv).length:Nat):Int)=(zz.length:Int):=by rw[List.length_map]
  refine⟨_,rfl,sl,_,rfl,.inl (SqL.of x4),(zz.length:Int),congrArg (fun x=>[V.int x]) hivl,by lia,by lia,fun tl htl=>Zii (lo:=0) (n:=((zz.length:Int)).toNat) (p:=tl) (fun i ys σ H'=>∃(v0:Option V)(ts:List Str),σ =[v0,some (.int c),some (.str smL),some (.ref sl)]/\Zk H4 H'/\H' tl=some (.lst ys)/\ys=ts.map V.str/\ts.length=i/\(∀t∈ts,Zkl t)/\ts.map (·.length)=zz.take i)
   ⟨none,[],rfl,Zk.new htl,Zb,rfl,rfl,(fun _ h=>nomatch h),rfl⟩ ?_ ?_ ?_⟩
  ·rintro i ys σ H' _ ⟨v0,ts,_,_,h',_⟩;exact h'
  ·rintro i ys σ H' hi ⟨v0,ts,rfl,sm',ht',rfl,htl',hL,hm⟩;rw[Int.toNat_natCast] at hi;have hzi:zz[i]?= some zz[i]:=List.getElem?_eq_getElem hi;have hz8:=hz4 zz[i] (List.getElem_mem hi);refine⟨_,rfl,_,rfl,_,_,rfl,rfl,.inl ⟨by decide,by decide⟩,_,_,rfl,rfl,_,rfl,_,rfl,sl,_,(i:Int),.int (zz[i]:Int),rfl,congrArg V.int (Int.zero_add _),SqL.of (sm' _ _ x4),ZbP (by rw[List.getElem?_map,hzi];rfl),_,rfl,_,zz[i],smL,rfl,rfl,by lia,fun t ht hx=>?_⟩;refine⟨ht',Z3 (by rw[List.length_map];lia),CW.next (by rw[Int.toNat_natCast];exact hi) ⟨_,ts ++ [t],rfl,sm'.upd_new htl,Zb,by rw[List.map_append];rfl,by rw[List.length_append,htl'];rfl,fun u hu=>?_,?_⟩⟩
   ·rcases List.mem_append.mp hu with hu|hu
    ·exact hL u hu
    ·rw[List.mem_singleton.mp hu];exact Zfl (by lia) hx
   ·rw[List.map_append,hm,List.take_succ_eq_append_getElem hi,<- ht];rfl
  ·rintro ys σ H5 ⟨v0,ts,_,s5,ht5,rfl,htsl,hL,hm⟩;rw[Int.toNat_natCast] at htsl hm;rw[List.take_length] at hm;have s05:=s4.trans s5;have ht8:∀t∈ts,t.length<=8:=fun t ht=>by
    have:t.length∈zz:=by rw[<- hm];exact List.mem_map.mpr ⟨t,ht,rfl⟩
    exact(hz4 _ this).2
   have ftl:H tl=none:=s4.free htl;have r10:∀(H8:Hp)(t8:Addr)(es:List Ex)(ws:List Str)(v4 v6 v9:Option V),Zk H H8->H8 tl=some (.lst (ws.map V.str))->RepE H8 t8 (.several true (ofL (ts.map fun t=>.tag t .nil)))->es.map tx=ws->(∀e∈es,LgO e)->es.length=zz.length->ws.map (·.length)=zz->(am=true->∃n,Ex.name n∈es)->(am=false->es=ts.map fun t=>.tag t .nil)->u10 { nx:=fun _ H'=>Q .non H',rt:=Q } [some (.ref a),some (.int c),some (.bl am),some (.str smL),v4,some (.ref sl),v6,some (.ref tl),some (.ref t8),v9] H8:=by
    intro H8 t8 es ws v4 v6 v9 s8 ht hR hew hes hel hwz hn1 hn0;refine ZF e10 ?_;refine⟨_,rfl,(by show 2<=sizeLine;decide),fun t9 ht9=>?_⟩;have s9:Zk H8 (upd H8 t9 (.tup [.str "A",.ref t8])):=Zk.new ht9;have x9:upd H8 t9 (.tup [.str "A",.ref t8]) t9=some (.tup [.str "A",.ref t8]):=Zb;generalize upd H8 t9 (.tup [.str "A",.ref t8])=H9 at s9 x9 ⊢;refine⟨(by show 1<=sizeLine;decide),fun t10 ht10=>?_⟩;have s10:Zk H9 (upd H9 t10 (.tup [.ref t9])):=Zk.new ht10;have x10:upd H9 t10 (.tup [.ref t9]) t10=some (.tup [.ref t9]):=Zb;generalize upd H9 t10 (.tup [.ref t9])=H10 at s10 x10 ⊢;have hwl:ws.length=zz.length:=by rw[<- hel,<- hew,List.length_map]
    have hws:(ws.map (·.length)).sum=zz.sum:=by rw[hwz]
    have hjl:=Zjw (ws:=ws) (fun e=>by rw[e] at hwl;have:0=zz.length:=hwl;lia);refine⟨rfl,_,rfl,Str.ofString " ",tl,ws,rfl,rfl,SqL.of ((s9.trans s10) _ _ ht),?_,?_⟩
    ·show _+_*1<=_;exact Zj (by lia)
    refine⟨_,_,rfl,rfl,Zj (by show 4+_<=_;lia),(by show 2<=sizeLine;decide),fun t11 ht11=>?_⟩;have s11:Zk H10 (upd H10 t11 (.tup [.ref t10,.str ("A = " ++ Txt.join (Str.ofString " ") ws)])):=Zk.new ht11;have x11:upd H10 t11 (.tup [.ref t10,.str ("A = " ++ Txt.join (Str.ofString " ") ws)]) t11=some (.tup [.ref t10,.str ("A = " ++ Txt.join (Str.ofString " ") ws)]):=Zb;generalize upd H10 t11 (.tup [.ref t10,.str ("A = " ++ Txt.join (Str.ofString " ") ws)])=H11 at s11 x11 ⊢;refine⟨_,rfl,_,_,rfl,rfl,(by show(0:Int)<13;decide),_,_,rfl,rfl,(by show 2<=sizeLine;decide),fun t12 ht12=>?_⟩;have s12:=Zk.new (o:=.tup [.ref t11,.bl (decide (c % 13<7))]) ht12;have s812:=((s9.trans s10).trans s11).trans s12;refine q t12 _ (s8.trans s812) ⟨t11,.ref t10,_,_,[("A",.several true (ofL (ts.map fun t=>.tag t .nil)))],Zb,s12 _ _ x11,?_,fun _=>⟨t10,_,rfl,(s11.trans s12) _ _ x10,.cons ⟨t9,t8,rfl,((s10.trans s11).trans s12) _ _ x9,hR.mono s812.tk⟩ .nil⟩⟩;rw[<- hew];exact ZkZ hes (by lia) (by rw[hew,hws];lia) hn1 hn0
   show u8 _ _ _;refine ZF e8 ?_;refine⟨_,rfl,tl,rfl,⟨_,SqL.of ht5⟩,fun cl hcl=>Zcd (K:=K) (a:=tl) (p:=cl) (xs:=ts.map V.str) (fun i ys σ H'=>∃(v0:Option V)(ps:List Addr),σ =[v0]/\Zk H5 H'/\H' cl=some (.lst ys)/\ys=ps.map V.ref/\ps.length=i/\Paired (fun(q:Addr)(e:Ex)=>RepE H' q e) ps ((ts.take i).map fun t=>Ex.tag t .nil))
    ⟨none,[],rfl,Zk.new hcl,Zb,rfl,rfl,.nil⟩ ?_ ?_ ?_⟩
   ·rintro i ys σ H' _ ⟨v0,ps,_,sm',hc',_⟩;exact⟨SqL.of (sm' _ _ ht5),hc'⟩
   ·rintro i ys x σ H' hi hx ⟨v0,ps,rfl,sm',hc',rfl,hpl,hP⟩;obtain⟨t,hti,rfl⟩:∃t,ts[i]?= some t/\x=.str t:=by
     rw[List.getElem?_map] at hx;obtain⟨t,h1,h2⟩:=Option.map_eq_some_iff.mp hx;exact⟨t,h1,h2.symm⟩
    obtain⟨hi1,hi2⟩:=List.getElem?_eq_some_iff.mp hti;refine⟨_,rfl,(by show 1<=sizeLine;decide),fun t6 ht6=>?_⟩;have s6:Zk H' (upd H' t6 (.tup [.str "nil"])):=Zk.new ht6;have x6:upd H' t6 (.tup [.str "nil"]) t6=some (.tup [.str "nil"]):=Zb;generalize upd H' t6 (.tup [.str "nil"])=H6 at s6 x6 ⊢;refine⟨(by show 3<=sizeLine;decide),fun t7 ht7=>?_⟩;have s7:Zk H6 (upd H6 t7 (.tup [.str "tag",.str t,.ref t6])):=Zk.new ht7;have x7:upd H6 t7 (.tup [.str "tag",.str t,.ref t6]) t7=some (.tup [.str "tag",.str t,.ref t6]):=Zb;generalize upd H6 t7 (.tup [.str "tag",.str t,.ref t6])=H7 at s7 x7 ⊢;have hc7:=(s6.trans s7) _ _ hc';have tk:=TK.lst (o:=.lst (ps.map V.ref ++ [.ref t7])) hc7;refine⟨hc7,Z3 (by rw[List.length_map];lia),CW.next hi ⟨_,ps ++ [t7],rfl,(sm'.trans (s6.trans s7)).upd_new hcl,Zb,by rw[List.map_append];rfl,by rw[List.length_append,hpl];rfl,?_⟩⟩
    rw[List.take_succ_eq_append_getElem hi1,List.map_append,hi2];exact Paired.app (Paired.mapP hP fun _ _ z=>z.mono ((s6.trans s7).tk.trans tk)) (.cons (.tag (tk _ _ x7) (.nil ((s7.tk.trans tk) _ _ x6))) .nil)
   ·rintro ys σ H6 ⟨v0,ps,_,s6,hc6,rfl,hpl,hP⟩;rw[List.length_map,List.take_length] at hP;refine⟨cl,_,rfl,.inl ⟨SqL.of hc6,fun r7 hr7=>?_⟩⟩;have s7:Zk H6 (upd H6 r7 (.tup (ps.map V.ref))):=Zk.new hr7;have x7:upd H6 r7 (.tup (ps.map V.ref)) r7=some (.tup (ps.map V.ref)):=Zb;generalize upd H6 r7 (.tup (ps.map V.ref))=H7 at s7 x7 ⊢;refine⟨(by show 2<=sizeLine;decide),fun t8 ht8'=>?_⟩;have s8:Zk H7 (upd H7 t8 (.tup [.str "turn",.ref r7])):=Zk.new ht8';have x8:upd H7 t8 (.tup [.str "turn",.ref r7]) t8=some (.tup [.str "turn",.ref r7]):=Zb;show u9 _ _ (upd H7 t8 (.tup [.str "turn",.ref r7]));generalize upd H7 t8 (.tup [.str "turn",.ref r7])=H8 at s8 x8 ⊢;have s68:=s7.trans s8;have reps:∀{ps:List Addr}{es:List Ex},Paired (fun(q:Addr)(e:Ex)=>RepE H8 q e) ps es->RepEs H8 (ps.map V.ref) (ofL es):=fun{ps es} h=>by
     induction h with
     | nil=>exact .nil
     | cons x _ ih=>exact .cons x ih
    have hR:RepE H8 t8 (.several true (ofL (ts.map fun t=>.tag t .nil))):=.several (b:=true) x8 (s8 _ _ x7) (reps (Paired.mapP hP fun _ _ z=>z.mono s68.tk));have ht8:=(s6.trans s68) _ _ ht5;have s08:=s05.trans (s6.trans s68);have hts:∀e∈ts.map (fun t=>Ex.tag t .nil),LgO e:=fun e he=>by
     obtain⟨t,ht,rfl⟩:=List.mem_map.mp he;exact .inl ⟨t,rfl,hL t ht,‹∀t∈ts,t.length<=8› t ht⟩
    have htx:(ts.map fun t=>Ex.tag t .nil).map tx=ts:=by
     rw[List.map_map];exact List.map_id' _
    refine ZF e9 ?_;refine⟨_,rfl,_,rfl,ZaU (fun ham=>?_) (fun ham=>?_)⟩
    ·refine ZF e9t0 ?_;have hvl:(((ts.map V.str).length:Nat):Int)=(zz.length:Int):=by rw[List.length_map,htsl]
     have g0:=Int.emod_nonneg (c / 13) (by lia:(zz.length:Int)≠0);have g1:=Int.emod_lt_of_pos (c / 13) (by lia:(0:Int)<(zz.length:Int));obtain⟨j,hj⟩:∃j:Nat,c / 13 % (zz.length:Int)=(j:Int):=⟨(c / 13 % (zz.length:Int)).toNat,by lia⟩;have hjt:j<ts.length:=by lia
     have htj:ts[j]?= some ts[j]:=List.getElem?_eq_getElem hjt;refine⟨_,rfl,_,_,rfl,rfl,⟨by decide,by decide⟩,_,rfl,tl,_,rfl,.inl (SqL.of ht8),_,_,rfl,rfl,by rw[hvl];lia,?_⟩;rw[hvl];show u9t1 _ [some (.ref a),some (.int c),some (.bl am),some (.str smL),_,some (.ref sl),_,some (.ref tl),some (.ref t8),some (.int (c / 13 % (zz.length:Int)))] _;rw[hj];refine ZF e9t1 ?_;have hLj:=hL ts[j] (List.getElem_mem hjt);have h8j := ‹∀t∈ts,t.length<=8› ts[j] (List.getElem_mem hjt);have hup:(Txt.upper ts[j]).cps.toList=(cs ts[j]).map (· - 32):=Zh1 fun c hc=>hLj.2 c hc;have hul:(Txt.upper ts[j]).length=ts[j].length:=by
      rw[<- Zas,show cs (Txt.upper ts[j])=(cs ts[j]).map (· - 32) from hup,List.length_map,Zas]
     refine⟨_,rfl,_,rfl,tl,_,_,.str ts[j],rfl,rfl,SqL.of ht8,ZbP (by rw[List.getElem?_map,htj];rfl),rfl,ts[j],_,rfl,rfl,rfl,by lia,?_⟩;have hix:ixN (ts.map V.str).length ((j:Nat):Int)=some j:=by
      unfold ixN;rw[List.length_map,if_pos (by lia),if_pos (by lia),Int.toNat_natCast]
     refine⟨_,rfl,_,rfl,tl,_,_,j,rfl,rfl,ht8,hix,?_⟩;rw[show(ts.map V.str).set j (.str (Txt.upper ts[j]))=(ts.set j (Txt.upper ts[j])).map V.str by rw[List.map_set]];have hU:Upr (Txt.upper ts[j]):=⟨fun e=>by
      have e:(cs ts[j]).map (· - 32)=[]:=hup.symm.trans e;exact hLj.1 (List.map_eq_nil_iff.mp e),fun x hx=>by
      have hx:x∈(cs ts[j]).map (· - 32):=by rw[<- hup];exact hx
      obtain⟨y,hy,rfl⟩:=List.mem_map.mp hx;have:=hLj.2 y hy;lia⟩
     refine r10 _ t8 ((ts.map fun t=>Ex.tag t .nil).set j (.name (Txt.upper ts[j]))) (ts.set j (Txt.upper ts[j])) _ _ _ (s08.upd_new ftl) Zb (hR.mono (TK.lst ht8)) ?_ (fun e he=>?_) (by rw[List.length_set,List.length_map,htsl]) ?_ (fun _=>⟨_,List.mem_set (by rw[List.length_map];exact hjt) _⟩) (fun z=>absurd ham (by rw[z];decide))
     ·rw[List.map_set,htx];rfl
     ·rcases List.mem_or_eq_of_mem_set he with he|rfl
      ·exact hts e he
      ·exact .inr ⟨_,rfl,hU,by lia⟩
     ·rw[List.map_set,hm,hul];apply List.ext_getElem?;intro k;rw[List.getElem?_set]
      split
      ·rename_i hk
       subst hk
       split
       ·rw[<- hm,List.getElem?_map,htj];rfl
       ·rename_i hk
        exact(List.getElem?_eq_none (by lia)).symm
      ·rfl
    ·exact r10 H8 t8 _ ts _ _ _ s08 ht8 hR htx hts (by rw[List.length_map,htsl]) hm (fun z=>absurd z ham) (fun _=>rfl)
 show u5 _ _ _;refine ZF e5 ?_;refine⟨_,rfl,rfl,_,rfl,ZaU (fun e9=>?_) (fun e9=>?_)⟩
 ·have e9:V.int (left:Int)=V.int 9:=of_decide_eq_true e9;injection e9 with e9;refine ZF e5t0 ?_;refine⟨_,rfl,.inl ⟨rfl,_,SqL.of hz2⟩,sl,_,_,rfl,rfl,hz2,Z3 (by rw[List.length_map];lia),?_⟩;rw[show zs.map iv ++ [V.int 4]=(zs ++ [4]).map iv from Zgj zs 4];show u5t1 _ _ _;refine ZF e5t1 ?_;exact r6 _ (zs ++ [4]) 4 _ (sm.upd_new hsl) Zb (hz.snoc (by decide) (by decide)) (by rw[Ze7,List.length_append];show _+_+(_+1)+_=_;lia) (by decide) (by decide)
 ·refine r6 H2 zs left _ sm hz2 hz hsum hl1 ?_;by_cases h:left=9
  ·exact absurd (decide_eq_true (by rw[h];rfl)) e9
  ·lia
def rpL(n:Nat)(o:List Nat):List Nat:=(List.replicate n o).flatten
theorem ZbX(n:Nat)(o:List Nat):rpL (n+1) o=o++rpL n o:=by
 unfold rpL;rw[List.replicate_succ,List.flatten_cons]
theorem ZdN{n L:Nat}(h:L<n):∃m,n=m+1/\L<=m:=⟨n-1,by lia,by lia⟩
theorem mark_none{f:Rdr}{t:List Nat}(h:Zby f t=none):Zbq f t=none:=by
 unfold Zbq;rw[h];rfl
theorem Zc9{f:Rdr}{t:List Nat}(h:Zbq f t=none):ZaZ f t=none:=by
 unfold ZaZ;rw[h]
theorem ZhT{f:Rdr}{t:List Nat}{x:Ex×List Nat}(h:Zbq f t=some x)(h2:pTs f x.2.length [x.1] x.2=none):ZaZ f t=none:=by
 unfold ZaZ;rw[h];show Option.map _ (pTs f x.2.length [x.1] x.2)=none;rw[h2];rfl
theorem ZkQ{f:Rdr}{t:List Nat}{x:Ex×List Nat}(h:Zbq f t=some x)(h2:[32,124,32] <+: x.2):ZaZ f t=some x:=by
 unfold ZaZ;rw[h];show Option.map _ (pTs f x.2.length [x.1] x.2)=_;rw[Zfk fun c=>c.1 h2];rfl
theorem ZcV{f:Rdr}{t:List Nat}(h:ZaZ f t=none):ZbJ f t=none:=by
 unfold ZbJ;rw[h]
theorem Zh4{f:Rdr}{t:List Nat}{x:Ex×List Nat}(h:ZaZ f t=some x)(h2:pOs f x.2.length [x.1] x.2=none):ZbJ f t=none:=by
 unfold ZbJ;rw[h];show Option.map _ (pOs f x.2.length [x.1] x.2)=none;rw[h2];rfl
theorem Zmc{f:Rdr}{k:Nat}{acc:List Ex}{t:List Nat}(h1 : ¬ [32,124,32] <+: (32::t))(h2:Zbq f t=none):pTs f (k+1) acc (32::t)=none:=by
 rw[Zlz ⟨h1,t,rfl⟩];show(match Zbq f t with|none=>none|some x=>pTs f k (acc ++ [x.1]) x.2)=none
 rw[h2]
theorem Zmy{f:Rdr}{k:Nat}{acc:List Ex}{t:List Nat}(h2:ZaZ f t=none):pOs f (k+1) acc (32::124::32::t)=none:=by
 rw[show pOs f (k+1) acc (32::124::32::t)=_ from Zll ⟨t,rfl⟩];show(match ZaZ f t with|none=>none|some x=>pOs f k (acc ++ [x.1]) x.2)=none
 rw[h2]
theorem Zfe{f:Rdr}{c:Nat}{r:List Nat}(hc:c≠125)(h:f (c::r)=none):Zby f (123::c::r)=none:=by
 unfold Zby;rw[if_neg fun⟨_,z⟩=>by injection z with _ z;injection z with z _;exact hc z.symm,if_pos ⟨_,rfl⟩];show ZbU f 125 (c::r)=none;unfold ZbU;rw[h]
theorem ZnZ:∀(L n:Nat)(r:List Nat),L<n->pX L (rpL n [123]++r)=none
 | 0,_,_,_=>rfl
 | L+1,n,r,h=>by
  obtain⟨m,rfl,hm⟩:=ZdN h;obtain⟨k,rfl,_⟩:=ZdN (n:=m) (L:=L) (by lia);have ih:=ZnZ L (k+1) r (by lia);rw[ZbX (k+1),List.append_assoc];rw[ZbX,List.append_assoc] at ih ⊢;exact ZcV (Zc9 (mark_none (Zfe (c:=123) (r:=rpL k [123]++r) (by decide) ih)))
theorem Zm7{f:Rdr}{r:List Nat}(h:f r=none):Zby f (97::40::r)=none:=by
 unfold Zby;rw[if_neg fun⟨_,z⟩=>by injection z with z _;lia,if_neg fun⟨_,z⟩=>by injection z with z _;lia];have e:(97::40::r).takeWhile ZdF=[97]:=rfl;rw[e,if_neg (List.cons_ne_nil _ _),if_pos (by decide)];show Option.map _ (ZeA f (40::r))=none;unfold ZeA ZbU;rw[if_pos ⟨_,rfl⟩];show Option.map _ (match f r with|none=>none|some x=>_)=none
 rw[h];rfl
theorem Znu:∀(L n:Nat)(r:List Nat),L<n->pX L (rpL n [97,40]++r)=none
 | 0,_,_,_=>rfl
 | L+1,n,r,h=>by
  obtain⟨m,rfl,hm⟩:=ZdN h;have ih:=Znu L m r (by lia);rw[ZbX,List.append_assoc];exact ZcV (Zc9 (mark_none (Zm7 ih)))
theorem Zg1{f:Rdr}{c:Nat}{r:List Nat}(hc:97<=c/\c<=122):Zbq f (c::32::r)=some (.tag (stO [c]) .nil,32::r):=by
 unfold Zbq Zby;rw[if_neg fun⟨_,z⟩=>by injection z with z _;lia,if_neg fun⟨_,z⟩=>by injection z with z _;lia];have e:(c::32::r).takeWhile ZdF=[c]:=by
  rw[List.takeWhile_cons,ZgO hc];show c::List.takeWhile ZdF (32::r)=_;rw[List.takeWhile_cons];rfl
 rw[e,if_neg (List.cons_ne_nil _ _),if_pos (show [c].length<=8 from(by show 1<=8;decide))];show Option.map pMk (Option.map _ (ZeA f (32::r)))=_;unfold ZeA;rw[if_neg fun⟨_,z⟩=>by injection z with z _;lia];show some (pMk (.tag (stO [c]) .nil,32::r))=_;refine congrArg some ?_;unfold pMk;rw[if_neg fun⟨_,z⟩=>by injection z with z _;lia,if_neg fun⟨_,z⟩=>by injection z with z _;lia,if_neg fun⟨_,z⟩=>by injection z with z _;lia]
theorem Znx:∀(L n:Nat)(r:List Nat),L<=n->pX L (98::32::(rpL n [123,98,32]++r))=none
 | 0,_,_,_=>rfl
 | L+1,n,r,h=>by
  obtain⟨m,rfl,hm⟩:=ZdN (L:=L) (n:=n) (by lia);have ih:=Znx L m r (by lia);rw[ZbX,List.append_assoc];exact ZcV (ZhT (Zg1 (c:=98) (by decide)) (Zmc (t:=123::98::32::(rpL m [123,98,32]++r)) (fun⟨_,z⟩=>by injection z with _ z;injection z with z _;lia) (mark_none (Zfe (by decide) ih))))
theorem Zm4:∀(L n:Nat)(r:List Nat),L<n->pX L (rpL n [99,32,124,32,123]++r)=none
 | 0,_,_,_=>rfl
 | L+1,n,r,h=>by
  obtain⟨m,rfl,hm⟩:=ZdN h;obtain⟨k,rfl,_⟩:=ZdN (n:=m) (L:=L) (by lia);have ih:=Zm4 L (k+1) r (by lia);rw[ZbX (k+1),List.append_assoc];rw[ZbX k,List.append_assoc] at ih ⊢;generalize rpL k [99,32,124,32,123]++r=R at ih ⊢;have h2:ZaZ (pX L) (123::99::32::124::32::123::R)=none:=Zc9 (mark_none (Zfe (by decide) ih));have h1:ZaZ (pX L) (99::32::124::32::123::99::32::124::32::123::R)=some (.tag (stO [99]) .nil,32::124::32::123::99::32::124::32::123::R):=ZkQ (Zg1 (c:=99) (by decide)) ⟨_,rfl⟩;exact Zh4 h1 (Zmy h2)
def Opn(o:List Nat):Prop:=o=[123]\/o=[97,40]\/o=[123,98,32]\/o=[99,32,124,32,123]
theorem ZmA{o:List Nat}(ho:Opn o){n:Nat}(hn:13<n)(r:List Nat):pX 12 (rpL n o++r)=none:=by
 rcases ho with rfl|rfl|rfl|rfl
 ·exact ZnZ 12 n r (by lia)
 ·exact Znu 12 n r (by lia)
 ·obtain⟨m,rfl,hm⟩:=ZdN (L:=12) (n:=n) (by lia);rw[ZbX,List.append_assoc];exact ZcV (Zc9 (mark_none (Zfe (by decide) (Znx 11 m r (by lia)))))
 ·exact Zm4 12 n r (by lia)
theorem ZjI{o:List Nat}(ho:Opn o){n:Nat}(hn:13<n)(r:List Nat):Zcx (cs (Str.ofString "A")++([32,61,32]++(rpL n o++r)))=none:=by
 unfold Zcx pPair;rw[ZeT ZgW (by decide) fun c r' e=>by injection e with e _;lia];show(match (if [32,61,32] <+: ([32,61,32]++(rpL n o++r)) then(pX 12 (([32,61,32]++(rpL n o++r)).drop 3)).map fun y=>((Str.ofString "A",y.1),y.2) else none) with|none=>none|some x=>pPs x.2.length [x.1] x.2)=none
 rw[if_pos ⟨_,rfl⟩];show(match (pX 12 (rpL n o++r)).map (fun y=>((Str.ofString "A",y.1),y.2)) with|none=>none|some x=>pPs x.2.length [x.1] x.2)=none
 rw[ZmA ho hn];rfl
theorem ZmE{j:Int}(h0:0<=j)(h1:j<4):∃o:Str,atI [V.str "{",.str "a(",.str "{b ",.str "c | {"] j=some (.str o)/\Opn (cs o)/\1<=o.length/\o.length<=5:=by
 rcases(by lia:j=0\/j=1\/j=2\/j=3) with rfl|rfl|rfl|rfl
 ·exact⟨_,rfl,.inl rfl,by decide,by decide⟩
 ·exact⟨_,rfl,.inr (.inl rfl),by decide,by decide⟩
 ·exact⟨_,rfl,.inr (.inr (.inl rfl)),by decide,by decide⟩
 ·exact⟨_,rfl,.inr (.inr (.inr rfl)),by decide,by decide⟩
theorem Zmg{j:Int}(h0:0<=j)(h1:j<4):∃o:Str,atI [V.str "}",.str ")",.str "}",.str "}"] j=some (.str o)/\o.length=1:=by
 rcases(by lia:j=0\/j=1\/j=2\/j=3) with rfl|rfl|rfl|rfl
 ·exact⟨_,rfl,by decide⟩
 ·exact⟨_,rfl,by decide⟩
 ·exact⟨_,rfl,by decide⟩
 ·exact⟨_,rfl,by decide⟩
theorem Zmb{j:Int}(h0:0<=j)(h1:j<3):∃o:Str,atI [V.str "",.str "a",.str "{}"] j=some (.str o)/\o.length<=2:=by
 rcases(by lia:j=0\/j=1\/j=2) with rfl|rfl|rfl
 ·exact⟨_,rfl,by decide⟩
 ·exact⟨_,rfl,by decide⟩
 ·exact⟨_,rfl,by decide⟩
theorem Zl3{n j:Int}(hn:0<=n)(h0:0<=j)(h1:j<3):∃k:Int,atI [V.int 0,.int n,.int (n / 2)] j=some (.int k)/\0<=k/\k<=n:=by
 rcases(by lia:j=0\/j=1\/j=2) with rfl|rfl|rfl
 ·exact⟨_,rfl,by lia,by lia⟩
 ·exact⟨_,rfl,by lia,by lia⟩
 ·exact⟨_,rfl,by lia,by lia⟩
def Zmn(K:PySem.W.Frag):Sp:=fun vs H Q _=>∃(a:Addr)(ns:List Int)(c:Int),vs=[.ref a,.int c]/\SqL K H a (ns.map V.int)/\ns.length<=63/\∀r H',Zk H H'->(∀am,MkR H' r am)->Q (.ref r) H'
set_option maxHeartbeats 2000000 in
theorem Zft(B:∀x∈ZbK,mg x=none)(g_l_cell_at:Has P w K mg base "_law_cell_at" ["_law_script","_law_k"] 1 (Zc1 K)) (F:Fun K "_law_brackets" "_law_brackets" Zaa f fd):FnOk P w K mg base CX0 2 f fd ["_law_script","_law_cell"] (Zmn K):=by
 refine F.ok Za2 (fun vs H Q E h=>?_) (fun cdv A outer s H vs Q E hr h=>?_)
 ·obtain⟨a,ns,c,rfl,_⟩:=h;rfl
 obtain⟨a,ns,c,rfl,hS,h63,q⟩:=h;refine ZbA ((Ze Zaa).drop 5) (ZaT (ZbQ (Zt (Zc (Zt (Zc (PEi.of ZlF) (Zc (ZlM Zr (ZlM Zr (PEi.of (Zw Zr Zo (Zw Zet (pv 2) (pv 4)))) (ZfB Zaz (Zbh (Zc Zv (Zc Zv (Zc Zv Zm)))) (Zw Zam (ZR g_l_cell_at hr rfl (Za (pv 0) (Za Zg Zd))) Zg) (fun _ _=>rfl))) (PEi.of (Zw Zet (pv 3) (pv 5)))) Zm))) (Zc (PEi.of ZdD) Zm))))) (fun u5 h5 e5=>?_);refine ZbA ((Ze Zaa).drop 4) (Z0 (Zay (i:=5) Za2.nd rfl (Or.inl rfl) (ZfB Zaz (Zbh (Zc Zma (Zc (PEi.of (pv 4)) (Zc (PEi.of (Zw ZaQ (pv 4) Zg)) Zm)))) (Zw Zam (ZR g_l_cell_at hr rfl (Za (pv 0) (Za Zg Zd))) Zg) (fun _ _=>rfl))) h5) (fun u4 h4 e4=>?_);refine Zap ((Ze Zaa).drop 3) (Zq (Zad (ZC ZaV (Zw Zam (Zw ZaQ (pv 1) Zg) Zg) Zg (ZM _)) (Zi (ZD (i:=4) Za2.nd rfl (Or.inl rfl) (Zw Za9 Zg (Zw ZaQ (Zw Zam (pv 1) Zg) (ZS ZaX rfl (B "len" (by decide)) PySem.boot_len (Za (pv 2) Zd)))))) Zx) h4) (fun u3 h3 e3=>?_);refine Zap ((Ze Zaa).drop 2) (Zq (ZD (i:=4) Za2.nd rfl (Or.inl rfl) (Zw Za9 Zg (Zw Zam (pv 1) (Zw ZaQ Zg (ZS ZaX rfl (B "len" (by decide)) PySem.boot_len (Za (pv 2) Zd)))))) h3) (fun u2 h2 e2=>?_);refine ZbA ((Ze Zaa).drop 1) (Z0 (Zay (i:=3) Za2.nd rfl (Or.inl rfl) (ZfB Zaz (Zbh (Zc Zv (Zc Zv (Zc Zv (Zc Zv Zm))))) (Zw Zam (ZR g_l_cell_at hr rfl (Za (pv 0) (Za Zg Zd))) Zg) (fun _ _=>rfl))) h2) (fun u1 h1 e1=>?_);refine ZbA ((Ze Zaa).drop 0) (Z0 (Zay (i:=2) Za2.nd rfl (Or.inl rfl) (ZfB Zaz (Zbh (Zc Zv (Zc Zv (Zc Zv (Zc Zv Zm))))) (Zw Zam (ZR g_l_cell_at hr rfl (Za (pv 0) (Za Zg Zd))) Zg) (fun _ _=>rfl))) h1) (fun u0 h0 e0=>?_);refine ZlX h0 ?_;refine ZF e0 ?_;refine⟨(by show 4<=sizeLine;decide),fun l1 hl1=>?_⟩;have s1:Zk H (upd H l1 (.lst [.str "{",.str "a(",.str "{b ",.str "c | {"])):=Zk.new hl1;have x1:upd H l1 (.lst [.str "{",.str "a(",.str "{b ",.str "c | {"]) l1=some (.lst [.str "{",.str "a(",.str "{b ",.str "c | {"]):=Zb;generalize upd H l1 (.lst [.str "{",.str "a(",.str "{b ",.str "c | {"])=H1 at s1 x1 ⊢;refine⟨_,rfl,a,ns,_,rfl,s1.seq hS,h63,by lia,fun v1=>?_⟩;obtain⟨o,ho,hO,o1,o5⟩:=ZmE (j:=v1 % 4) (Int.emod_nonneg _ (by decide)) (Int.emod_lt_of_pos _ (by decide));refine⟨_,_,rfl,rfl,(by show(0:Int)<4;decide),l1,_,_,_,rfl,rfl,SqL.of x1,ho,?_⟩;show u1 _ _ _;refine ZF e1 ?_;refine⟨(by show 4<=sizeLine;decide),fun l2 hl2=>?_⟩;have s2:Zk H1 (upd H1 l2 (.lst [.str "}",.str ")",.str "}",.str "}"])):=Zk.new hl2;have x2:upd H1 l2 (.lst [.str "}",.str ")",.str "}",.str "}"]) l2=some (.lst [.str "}",.str ")",.str "}",.str "}"]):=Zb;generalize upd H1 l2 (.lst [.str "}",.str ")",.str "}",.str "}"])=H2 at s2 x2 ⊢;have s02:=s1.trans s2;refine⟨_,rfl,a,ns,_,rfl,s02.seq hS,h63,by lia,fun v2=>?_⟩;obtain⟨cl,hcl,hcl1⟩:=Zmg (j:=v2 % 4) (Int.emod_nonneg _ (by decide)) (Int.emod_lt_of_pos _ (by decide));refine⟨_,_,rfl,rfl,(by show(0:Int)<4;decide),l2,_,_,_,rfl,rfl,SqL.of x2,hcl,?_⟩;show u2 _ _ _;refine ZF e2 ?_;obtain⟨D,hD,D0,D1⟩:∃D:Int,(370:Int) / (o.length:Int)=D/\0<D/\D*(o.length:Int)<=370:=by
  rcases(by lia:o.length=1\/o.length=2\/o.length=3\/o.length=4\/o.length=5) with h|h|h|h|h <;> rw[h]
  ·exact⟨370,by decide,by decide,by decide⟩
  ·exact⟨185,by decide,by decide,by decide⟩
  ·exact⟨123,by decide,by decide,by decide⟩
  ·exact⟨92,by decide,by decide,by decide⟩
  ·exact⟨74,by decide,by decide,by decide⟩
 have d0:=Int.emod_nonneg c (by lia:D≠0);have d1:=Int.emod_lt_of_pos c D0;have ol:(0:Int)<=(o.length:Int):=by lia
 have r4:∀n:Nat,20<=n->n*o.length<=2000->n<=1900->u4 { nx:=fun _ H'=>Q .non H',rt:=Q } [some (.ref a),some (.int c),some (.str o),some (.str cl),some (.int (n:Int)),none] H2:=by
  intro n hn hno hn2;refine ZF e4 ?_;refine⟨_,rfl,_,rfl,_,_,rfl,rfl,⟨by decide,by decide⟩,(by show 3<=sizeLine;decide),fun l3 hl3=>?_⟩;have s3:Zk H2 (upd H2 l3 (.lst [.int 0,.int (n:Int),.int ((n:Int) / 2)])):=Zk.new hl3;have x3:upd H2 l3 (.lst [.int 0,.int (n:Int),.int ((n:Int) / 2)]) l3=some (.lst [.int 0,.int (n:Int),.int ((n:Int) / 2)]):=Zb;generalize upd H2 l3 (.lst [.int 0,.int (n:Int),.int ((n:Int) / 2)])=H3 at s3 x3 ⊢;have s03:=s02.trans s3;refine⟨_,rfl,a,ns,_,rfl,s03.seq hS,h63,by lia,fun v3=>?_⟩;obtain⟨k,hk,k0,k1⟩:=Zl3 (n:=(n:Int)) (j:=v3 % 3) (by lia) (Int.emod_nonneg _ (by decide)) (Int.emod_lt_of_pos _ (by decide));refine⟨_,_,rfl,rfl,(by show(0:Int)<3;decide),l3,_,_,_,rfl,rfl,SqL.of x3,hk,?_⟩;show u5 _ _ _;refine ZF e5 ?_;have hr1:=ZdH o n;have hr2:=ZdH cl k.toNat;rw[hcl1,Nat.mul_one] at hr2;have b1:("A = " ++ Zc8 o n:Str).length<=2004:=by rw[Zn,hr1];show 4+_<=_;lia
  refine⟨_,rfl,_,rfl,o,(n:Int),rfl,rfl,by lia,by lia,Zj (by rw[Int.toNat_natCast];lia),?_⟩;rw[Int.toNat_natCast];refine⟨_,_,rfl,rfl,Zj (by rw[hr1];show 4+_<=_;lia),?_⟩;refine⟨(by show 3<=sizeLine;decide),fun l4 hl4=>?_⟩;have s4:Zk H3 (upd H3 l4 (.lst [.str "",.str "a",.str "{}"])):=Zk.new hl4;have x4:upd H3 l4 (.lst [.str "",.str "a",.str "{}"]) l4=some (.lst [.str "",.str "a",.str "{}"]):=Zb;generalize upd H3 l4 (.lst [.str "",.str "a",.str "{}"])=H4 at s4 x4 ⊢;have s04:=s03.trans s4;refine⟨_,rfl,a,ns,_,rfl,s04.seq hS,h63,by lia,fun v4=>?_⟩;obtain⟨md,hmd,hmd2⟩:=Zmb (j:=v4 % 3) (Int.emod_nonneg _ (by decide)) (Int.emod_lt_of_pos _ (by decide));have b2:("A = " ++ Zc8 o n++md:Str).length<=2006:=by rw[Zn];lia
  have b3:("A = " ++ Zc8 o n++md++Zc8 cl k.toNat:Str).length<=5000:=by rw[Zn,hr2];lia
  refine⟨_,_,rfl,rfl,(by show(0:Int)<3;decide),l4,_,_,_,rfl,rfl,SqL.of x4,hmd,_,_,rfl,rfl,Zj (by lia),?_⟩;refine⟨_,rfl,_,rfl,cl,k,rfl,rfl,by lia,by lia,Zj (by rw[hcl1];lia),?_⟩;refine⟨_,_,rfl,rfl,Zj (by rw[hr2];lia),(by show 2<=sizeLine;decide),fun t5 ht5=>?_⟩;have s5:Zk H4 (upd H4 t5 (.tup [.non,.str ("A = " ++ Zc8 o n++md++Zc8 cl k.toNat)])):=Zk.new ht5;have x5:upd H4 t5 (.tup [.non,.str ("A = " ++ Zc8 o n++md++Zc8 cl k.toNat)]) t5=some (.tup [.non,.str ("A = " ++ Zc8 o n++md++Zc8 cl k.toNat)]):=Zb;generalize upd H4 t5 (.tup [.non,.str ("A = " ++ Zc8 o n++md++Zc8 cl k.toNat)])=H5 at s5 x5 ⊢;refine⟨(by show 2<=sizeLine;decide),fun t6 ht6=>?_⟩;have s6:=Zk.new (o:=.tup [.ref t5,.bl false]) ht6;refine q t6 _ ((s04.trans s5).trans s6) fun am=>⟨t5,.non,_,false,[],Zb,s6 _ _ x5,Zfb b3 fun _=>?_,fun z=>nomatch z⟩
  have:=ZjI hO (n:=n) (by lia) (cs md++cs (Zc8 cl k.toNat));rw[ZQ,ZQ,ZQ,show cs (Zc8 o n)=rpL n (cs o) from Zg8 o n,List.append_assoc,List.append_assoc];exact this
 refine⟨_,rfl,_,rfl,o,rfl,Zj (by lia),_,_,rfl,rfl,⟨by lia,by lia⟩,?_⟩;refine⟨_,_,rfl,rfl,by rw[hD];exact D0,_,_,rfl,rfl,?_⟩;show u3 _ [some (.ref a),some (.int c),some (.str o),some (.str cl),some (.int (20+c % (370 / (o.length:Int)))),none] _;rw[hD];refine ZF e3 ?_;refine⟨_,rfl,_,_,rfl,rfl,⟨by decide,by decide⟩,_,_,rfl,rfl,(by show(0:Int)<4;decide),rfl,_,rfl,ZaU (fun _=>?_) (fun _=>?_)⟩
 ·refine⟨_,rfl,_,_,rfl,rfl,(by show(0:Int)<1880;decide),_,rfl,o,rfl,Zj (by lia),_,_,rfl,rfl,⟨by lia,by lia⟩,_,_,rfl,rfl,?_⟩;have g0:=Int.emod_nonneg c (by decide:(1880:Int)≠0);have g1:=Int.emod_lt_of_pos c (by decide:(0:Int)<1880);have g2:0<=c % 1880 / (o.length:Int):=Int.ediv_nonneg g0 ol;have g3:c % 1880 / (o.length:Int)*(o.length:Int)<=c % 1880:=Int.ediv_mul_le _ (by lia);have g4:c % 1880 / (o.length:Int)<=c % 1880:=Int.ediv_le_self _ g0;obtain⟨n,hn⟩:∃n:Nat,20+c % 1880 / (o.length:Int)=(n:Int):=⟨(20+c % 1880 / (o.length:Int)).toNat,by lia⟩;have hmul:((n*o.length:Nat):Int)<=2000:=by
   rw[Int.natCast_mul,<- hn,Int.add_mul];lia
  show u4 _ [some (.ref a),some (.int c),some (.str o),some (.str cl),some (.int (20+c % 1880 / (o.length:Int))),none] _;rw[hn];exact r4 n (by lia) (by lia) (by lia)
 ·obtain⟨n,hn⟩:∃n:Nat,20+c % D=(n:Int):=⟨(20+c % D).toNat,by lia⟩;have hmul:((n*o.length:Nat):Int)<=2000:=by
   rw[Int.natCast_mul,<- hn,Int.add_mul];have:=Int.mul_le_mul_of_nonneg_right (Int.le_of_lt d1) ol;lia
  have hDl:D<=370:=by
   have:=Int.mul_le_mul_of_nonneg_left (show(1:Int)<=(o.length:Int) by lia) (Int.le_of_lt D0);rw[Int.mul_one] at this;lia
  show u4 _ [some (.ref a),some (.int c),some (.str o),some (.str cl),some (.int (20+c % D)),none] _;rw[hn];exact r4 n (by lia) (by lia) (by lia)
def Zip(K:PySem.W.Frag):Sp:=fun vs H Q _=>∃(a:Addr)(ns:List Int)(am:Bool),vs=[.ref a,.bl am]/\SqL K H a (ns.map V.int)/\ns.length<=63/\∀r H',Zk H H'->MkR H' r am->Q (.ref r) H'
set_option maxHeartbeats 1000000 in
theorem Zje(B:∀x∈ZbK,mg x=none)(g_l_cell_at:Has P w K mg base "_law_cell_at" ["_law_script","_law_k"] 1 (Zc1 K)) (g_l_long:Has P w K mg base "_law_long" ["_law_script","_law_cell","_law_amiss"] 2 (Zik K)) (g_l_deep:Has P w K mg base "_law_deep" ["_law_script","_law_cell","_law_amiss"] 3 (Zik K)) (g_l_many:Has P w K mg base "_law_many" ["_law_script","_law_cell","_law_amiss"] 2 (Zik K)) (g_l_lettered:Has P w K mg base "_law_lettered" ["_law_script","_law_cell","_law_amiss"] 2 (Zik K)) (g_l_brackets:Has P w K mg base "_law_brackets" ["_law_script","_law_cell"] 2 (Zmn K)) (F:Fun K "_law_made" "_law_made" Zcs f fd):FnOk P w K mg base CX0 4 f fd ["_law_script","_law_amiss"] (Zip K):=by
 refine F.ok ZdT (fun vs H Q E h=>?_) (fun cdv A outer s H vs Q E hr h=>?_)
 ·obtain⟨a,ns,am,rfl,_⟩:=h;rfl
 obtain⟨a,ns,am,rfl,hS,h63,q⟩:=h;refine⟨_,(Zh (ZD (i:=2) ZdT.nd rfl (Or.inl rfl) (ZR g_l_cell_at hr rfl (Za (pv 0) (Za Zg Zd))))
  (Zh (ZD (i:=3) ZdT.nd rfl (Or.inl rfl) (Zw Zam (ZR g_l_cell_at hr rfl (Za (pv 0) (Za Zg Zd))) Zg))
  (Zh (Zad (ZC ZaV (pv 3) Zg (ZM _))
   (Zi (ZL (ZR g_l_long hr rfl (Za (pv 0) (Za (pv 2) (Za (pv 1) Zd))))))
   Zx)
  (Zh (Zad (ZC ZaV (pv 3) Zg (ZM _))
   (Zi (ZL (ZR g_l_deep hr rfl (Za (pv 0) (Za (pv 2) (Za (pv 1) Zd))))))
   Zx)
  (Zh (Zad (ZC ZaV (pv 3) Zg (ZM _))
   (Zi (ZL (ZR g_l_many hr rfl (Za (pv 0) (Za (pv 2) (Za (pv 1) Zd))))))
   Zx)
  (Zh (Zad (ZC ZaV (pv 3) Zg (ZM _))
   (Zi (ZL (ZR g_l_lettered hr rfl (Za (pv 0) (Za (pv 2) (Za (pv 1) Zd))))))
   Zx)
  (Zi (ZL (ZR g_l_brackets hr rfl (Za (pv 0) (Za (pv 2) Zd))))))))))),?_⟩
 refine⟨_,rfl,a,ns,_,rfl,hS,h63,by lia,fun c=>?_⟩;refine⟨_,rfl,a,ns,_,rfl,hS,h63,by lia,fun v=>?_⟩;refine⟨_,_,rfl,rfl,(by show(0:Int)<5;decide),?_⟩;refine⟨_,rfl,rfl,_,rfl,ZaU (fun _=>?_) (fun _=>?_)⟩
 ·exact⟨_,rfl,_,rfl,_,rfl,a,ns,c,am,rfl,hS,h63,q⟩
 refine⟨_,rfl,rfl,_,rfl,ZaU (fun _=>?_) (fun _=>?_)⟩
 ·exact⟨_,rfl,_,rfl,_,rfl,a,ns,c,am,rfl,hS,h63,q⟩
 refine⟨_,rfl,rfl,_,rfl,ZaU (fun _=>?_) (fun _=>?_)⟩
 ·exact⟨_,rfl,_,rfl,_,rfl,a,ns,c,am,rfl,hS,h63,q⟩
 refine⟨_,rfl,rfl,_,rfl,ZaU (fun _=>?_) (fun _=>?_)⟩
 ·exact⟨_,rfl,_,rfl,_,rfl,a,ns,c,am,rfl,hS,h63,q⟩
 exact⟨_,rfl,_,rfl,a,ns,c,rfl,hS,h63,fun r H' s h=>q r H' s (h am)⟩
theorem Zfi:bootBuiltins "ValueError" = some (.type "ValueError"):=by decide +kernel
def Kp(H H':Hp):Prop := ∀b o,H b=some o->(∀x,o ≠ .ext x)->H' b=some o
theorem Kp.same{H H':Hp}(s:Zk H H'):Kp H H':=fun b o h _=>s b o h
theorem Kp.trans{H H1 H2:Hp}(a:Kp H H1)(b:Kp H1 H2):Kp H H2:=fun c o h n=>b c o (a c o h n) n
theorem Kp.ext{H H1:Hp}{e:Addr}{x:Heap->Prop}{o:HO}(a:Kp H H1)(h:H1 e=some (.ext x)):Kp H (upd H1 e o):=fun b u q n=>by
 have q1:=a b u q n;have:b≠e:=fun z=>by
  rw[z,h] at q1;exact n x (Option.some.inj q1).symm
 rw[Zu this];exact q1
theorem Kp.tk{H H':Hp}(k:Kp H H'):TK H H':=fun b xs e=>k b _ e fun _ z=>nomatch z
theorem Kp.seq{K:PySem.W.Frag}{H H':Hp}{a:Addr}{xs:List V}(k:Kp H H')(h:SqL K H a xs):SqL K H' a xs:=by
 rcases h with(h|⟨o,h⟩)|h
 ·exact .inl (.inl (k _ _ h fun _ z=>nomatch z))
 ·exact .inl (.inr ⟨o,k _ _ h fun _ z=>nomatch z⟩)
 ·exact .inr h
def ZmV(K:PySem.W.Frag)(C D:Addr):Bool:=(PySem.W.mroIn K C (.ref D)).getD false
theorem Zdo{K:PySem.W.Frag}{C D:Addr}{b:Bool}(h:PySem.W.mroIn K C (.ref D)=some b):PySem.W.mroIn K C (.ref D)=some (ZmV K C D)/\ZmV K C D=b:=by
 unfold ZmV;rw[h];exact⟨rfl,rfl⟩
def Zgh(K:PySem.W.Frag):Sp:=fun vs H Q _=>∃T,vs=[.str T]/\T.length<=5000/\Bnd T/\(∀bk,Gd T bk->∀x∈bk,Upr x.1) /\
 ((∀bk,¬ Gd T bk)->∀tp H',Kp H H'->H' tp=some (.tup [.non,.str "none"])->Q (.ref tp) H') /\
 (∀bk,Gd T bk -> ¬ OkN bk->∀tp H',Kp H H'->H' tp=some (.tup [.non,.str "names"])->Q (.ref tp) H') /\
 (∀bk,Gd T bk->OkN bk->∀tp l ws H',Kp H H'->H' tp=some (.tup [.ref l,.str "book"])->SqT K H' l ws->BkR K H' ws bk->Q (.ref tp) H')
set_option maxHeartbeats 4000000 in
theorem Zij(B:∀x∈ZbK,mg x=none)(xc:XC K mg X_GroveError X_NoBook X_TwiceNamed X_NoName X_Ring)(g_read:HasX P w K mg base "read" ["text"] 67 (ZgG K X_NoBook X_TwiceNamed X_NoName X_Ring)) (F:Fun K "_law_asked" "_law_asked" Za7 f fd):FnOk P w K mg base CX0 68 f fd ["_law_text"] (Zgh K):=by
 refine F.ok Zbn (fun vs H Q E h=>?_) (fun cdv A outer s H vs Q E hr h=>?_)
 ·obtain⟨T,rfl,_⟩:=h;rfl
 obtain⟨T,rfl,hT,hb,hup,q1,q2,q3⟩:=h;refine ZcJ ((Ze Za7).drop 3) (Zi (ZL (Zbs (Za (pv 1) (Za (pv 2) Zd))))) (fun u3 h3 e3=>?_);refine ZcJ ((Ze Za7).drop 2) (Zh (ZnV rfl rfl (fun E pins E₁ hT hp=>(Zi (ZD (i:=1) Zbn.nd rfl (Or.inl rfl) (ZcL g_read hT hr rfl (Za (pv 0) Zd)))))
   (Zom (ZnS (fun e=>(Zbs (Za (ZaA (v:=.ref X_NoName) rfl xc.n_NoName rfl) (Za (ZaA (v:=.ref X_Ring) rfl xc.n_Ring rfl) (Za (ZaA (v:=.ref X_TwiceNamed) rfl xc.n_TwiceNamed rfl) Zd))))) (fun e=>(Zi (ZD (i:=2) Zbn.nd rfl (Or.inl rfl) Zo))))
   (ZlT (fun e=>(Zbs (Za (ZaA (v:=.ref X_NoName) rfl xc.n_NoName rfl) (Za (ZaA (v:=.ref X_Ring) rfl xc.n_Ring rfl) (Za (ZaA (v:=.ref X_TwiceNamed) rfl xc.n_TwiceNamed rfl) Zd)))))
   (Zn9 (i:=3) (rest:=[]) (fun e=>(ZaA (v:=.ref X_NoBook) rfl xc.n_NoBook rfl)) Zbn.nd rfl rfl (fun e=>(Zi (ZD (i:=2) Zbn.nd rfl (Or.inl rfl) (Z9 (Zg4 (K:=K) rfl) (Zb6 (Za Zo (Za Zo Zd))) (ZaG Zc5 rfl (B "int" (by decide)) ZhF (Za (Zjj (ZS (Zif (K:=K) rfl) rfl (B "isinstance" (by decide)) Zbg (Za (pv 3) (Za (ZaA (v:=.ref X_GroveError) rfl xc.n_GroveError rfl) Zd))) (ZiV (ZS (ZhO (K:=K) rfl) rfl (B "isinstance" (by decide)) Zbg (Za (pv 3) (Za (ZkO rfl (B "ValueError" (by decide)) Zfi) Zd))))) Zd)) (fun _ _=>rfl))))))))) h3) (fun u2 h2 e2=>?_)
 refine ZcJ ((Ze Za7).drop 1) (Zh (ZD (i:=2) Zbn.nd rfl (Or.inl rfl) Zo) h2) (fun u1 h1 e1=>?_);refine ZcJ ((Ze Za7).drop 0) (Zh (ZD (i:=1) Zbn.nd rfl (Or.inl rfl) ZlF) h1) (fun u0 h0 e0=>?_);refine⟨u0,h0,?_⟩;refine ZF e0 ?_;show u1 _ _ _;refine ZF e1 ?_;show u2 _ _ _;refine ZF e2 ?_;refine⟨fun σ' C d H'=>σ'=[some (.str T),some .non,some (.str "book"),none]/\Zk H H'/\((C=.ref X_NoBook/\∀bk,¬ Gd T bk)\/∃Cx,C=.ref Cx/\(Cx=X_TwiceNamed\/Cx=X_NoName\/Cx=X_Ring)/\∃bk,Gd T bk /\ ¬ OkN bk),?_,?_⟩
 ·refine⟨_,rfl,T,rfl,hT,hb,hup,fun hn H' s1=>⟨rfl,s1,.inl ⟨rfl,hn⟩⟩,fun bk g ho Cx dx H' hc s1=>⟨rfl,s1,.inr ⟨Cx,rfl,hc,bk,g,ho⟩⟩,fun bk g ho l ws H1 s1 h1 h2=>?_⟩;show u3 _ _ _;refine ZF e3 ?_;refine⟨_,rfl,_,rfl,(by show 2<=sizeLine;decide),fun tp htp=>?_⟩;have s2:Zk H1 (upd H1 tp (.tup [.ref l,.str "book"])):=Zk.new htp;exact q3 bk g ho tp l ws _ (Kp.same (s1.trans s2)) Zb (TF.same s2 _ _ h1) (h2.same s2)
 rintro σ' C d H' e oe ⟨rfl,sm,hcase⟩ he hc hd hf;have k0:Kp H (upd H' e (Known e oe)):=(Kp.same sm).ext he;have e3':(upd H' e (Known e oe)) e=some (Known e oe):=Zb;generalize upd H' e (Known e oe)=H1 at k0 e3' ⊢;have cls3:∀D ∈ [X_NoName,X_Ring,X_TwiceNamed],XCl K D:=by
  intro D hD;rcases List.mem_cons.mp hD with rfl|hD
  ·exact xc.c_NoName
  rcases List.mem_cons.mp hD with rfl|hD
  ·exact xc.c_Ring
  rw[List.mem_singleton.mp hD];exact xc.c_TwiceNamed
 rcases hcase with⟨rfl,hn⟩|⟨Cx,rfl,hcx,bk,g,ho⟩
 ·refine .inr ⟨(by show 3<=sizeLine;decide),fun tc htc=>?_⟩;have s2:Zk H1 (upd H1 tc (.tup [.ref X_NoName,.ref X_Ring,.ref X_TwiceNamed])):=Zk.new htc;have x2:upd H1 tc (.tup [.ref X_NoName,.ref X_Ring,.ref X_TwiceNamed]) tc=some (.tup [.ref X_NoName,.ref X_Ring,.ref X_TwiceNamed]):=Zb;generalize upd H1 tc (.tup [.ref X_NoName,.ref X_Ring,.ref X_TwiceNamed])=H2 at s2 x2 ⊢;refine⟨[X_NoName,X_Ring,X_TwiceNamed],X_NoBook,.many (SqT.of x2) cls3,hc,?_,s2 _ _ e3',?_⟩
  ·intro D hD;rcases List.mem_cons.mp hD with rfl|hD
   ·exact xc.m_NoBook_NoName
   rcases List.mem_cons.mp hD with rfl|hD
   ·exact xc.m_NoBook_Ring
   rw[List.mem_singleton.mp hD];exact xc.m_NoBook_TwiceNamed
  refine⟨[X_NoBook],X_NoBook,fun _=>true,.one xc.c_NoBook,hc,fun D hD=>by rw[List.mem_singleton.mp hD];exact xc.m_NoBook_NoBook,rfl,s2 _ _ e3',?_⟩;refine⟨(by show 2<=sizeLine;decide),fun l3 hl3=>?_⟩;have s3:Zk H2 (upd H2 l3 (.lst [.str "other",.str "none"])):=Zk.new hl3;have x3:upd H2 l3 (.lst [.str "other",.str "none"]) l3=some (.lst [.str "other",.str "none"]):=Zb;generalize upd H2 l3 (.lst [.str "other",.str "none"])=H3 at s3 x3 ⊢;have e4':=s3 _ _ (s2 _ _ e3');refine⟨_,rfl,e,oe,X_NoBook,X_GroveError,rfl,e4',hc,xc.ne_NoBook,xc.isG,xc.tyG,xc.m_NoBook_GroveError,true,rfl,Zcn ?_⟩;refine⟨_,rfl,e,oe,X_NoBook,"ValueError",rfl,e4',hc,rfl,xc.mV_NoBook,?_⟩;refine⟨_,rfl,l3,_,_,_,rfl,rfl,SqL.of x3,rfl,?_⟩;show u3 _ _ _;refine ZF e3 ?_;refine⟨_,rfl,_,rfl,(by show 2<=sizeLine;decide),fun tp htp=>?_⟩;have s4:Zk H3 (upd H3 tp (.tup [.non,.str "none"])):=Zk.new htp;exact q1 hn tp _ (k0.trans (Kp.same ((s2.trans s3).trans s4))) Zb
 ·refine .inl ⟨(by show 3<=sizeLine;decide),fun tc htc=>?_⟩;have s2:Zk H1 (upd H1 tc (.tup [.ref X_NoName,.ref X_Ring,.ref X_TwiceNamed])):=Zk.new htc;have x2:upd H1 tc (.tup [.ref X_NoName,.ref X_Ring,.ref X_TwiceNamed]) tc=some (.tup [.ref X_NoName,.ref X_Ring,.ref X_TwiceNamed]):=Zb;generalize upd H1 tc (.tup [.ref X_NoName,.ref X_Ring,.ref X_TwiceNamed])=H2 at s2 x2 ⊢;obtain⟨b1,b2,b3,m1,m2,m3,hany⟩:∃b1 b2 b3:Bool,PySem.W.mroIn K Cx (.ref X_NoName)=some b1/\PySem.W.mroIn K Cx (.ref X_Ring)=some b2/\PySem.W.mroIn K Cx (.ref X_TwiceNamed)=some b3/\(b1 || (b2 || b3))=true:=by
   rcases hcx with rfl|rfl|rfl
   ·exact⟨_,_,_,xc.m_TwiceNamed_NoName,xc.m_TwiceNamed_Ring,xc.m_TwiceNamed_TwiceNamed,rfl⟩
   ·exact⟨_,_,_,xc.m_NoName_NoName,xc.m_NoName_Ring,xc.m_NoName_TwiceNamed,rfl⟩
   ·exact⟨_,_,_,xc.m_Ring_NoName,xc.m_Ring_Ring,xc.m_Ring_TwiceNamed,rfl⟩
  refine⟨[X_NoName,X_Ring,X_TwiceNamed],Cx,ZmV K Cx,.many (SqT.of x2) cls3,hc,?_,?_,s2 _ _ e3',?_⟩
  ·intro D hD;rcases List.mem_cons.mp hD with rfl|hD
   ·exact(Zdo m1).1
   rcases List.mem_cons.mp hD with rfl|hD
   ·exact(Zdo m2).1
   rw[List.mem_singleton.mp hD];exact(Zdo m3).1
  ·show(ZmV K Cx X_NoName || (ZmV K Cx X_Ring || (ZmV K Cx X_TwiceNamed || false)))=true;rw[(Zdo m1).2,(Zdo m2).2,(Zdo m3).2,Bool.or_false];exact hany
  show u3 _ _ _;refine ZF e3 ?_;refine⟨_,rfl,_,rfl,(by show 2<=sizeLine;decide),fun tp htp=>?_⟩;have s4:Zk H2 (upd H2 tp (.tup [.non,.str "names"])):=Zk.new htp;exact q2 bk g ho tp _ (k0.trans (Kp.same (s2.trans s4))) Zb
mutual
theorem RepE.toK{K:PySem.W.Frag}{H:Hp}:∀{p:Addr}{e:Ex},RepE H p e->RepK K H p e
 | _,_,.nil h=>.nil (SqT.of h)
 | _,_,.tag h r=>.tag (SqT.of h) (RepE.toK r)
 | _,_,.name h=>.name (SqT.of h)
 | _,_,.several h1 h2 r=>.several (SqT.of h1) (SqT.of h2) (RepEs.toK r)
 | _,_,.rep h r=>.rep (SqT.of h) (RepE.toK r)
theorem RepEs.toK{K:PySem.W.Frag}{H:Hp}:∀{vs:List V}{ps:Exs},RepEs H vs ps->RepKs K H vs ps
 | _,_,.nil=>.nil
 | _,_,.cons h r=>.cons (RepE.toK h) (RepEs.toK r)
end
theorem Zhe{T:Str}{b1 b2:List (Str×Ex)}(g1:Gd T b1)(g2:Gd T b2):b1=b2:=by
 have e:=g1.2.1;rw[g2.2.1] at e;exact(congrArg Prod.fst (Option.some.inj e)).symm
theorem BkE.kp{H H':Hp}{v:V}{bk:List (Str×Ex)}(k:TK H H')(h:BkE H v bk):BkE H' v bk:=by
 obtain⟨p,ws,e,h1,h2⟩:=h;exact⟨p,ws,e,k _ _ h1,PrE.tk k h2⟩
def It(am:Bool)(T:Str)(v:V)(H:Hp)(good:Bool):Prop :=
 (good=false/\∀bk,¬ Gd T bk)\/(good=true/\am=true/\T ≠ "A = {}" /\ ∃bk,Gd T bk /\ ¬ OkN bk)\/(good=true/\(am=false\/T= "A = {}")/\∃bk,Gd T bk/\OkN bk/\BkE H v bk)
def ItR(am:Bool)(H:Hp)(y:Addr):Prop := ∃(m:Addr)(v:V)(T:Str)(good:Bool),H y=some (.tup [.ref m,.bl good])/\H m=some (.tup [v,.str T])/\T.length<=5000/\Bnd T/\(∀bk,Gd T bk->∀x∈bk,Upr x.1)/\It am T v H good
theorem ItR.kp{am:Bool}{H H':Hp}{y:Addr}(k:TK H H')(h:ItR am H y):ItR am H' y:=by
 obtain⟨m,v,T,good,h1,h2,h3,h4,h5,h6⟩:=h;refine⟨m,v,T,good,k _ _ h1,k _ _ h2,h3,h4,h5,?_⟩;rcases h6 with h|h|⟨a1,a2,bk,a3,a4,a5⟩
 ·exact .inl h
 ·exact .inr (.inl h)
 ·exact .inr (.inr ⟨a1,a2,bk,a3,a4,a5.kp k⟩)
theorem MkR.it{am:Bool}{H:Hp}{y:Addr}(h:MkR H y am):ItR am H y:=by
 obtain⟨m,v,T,good,bk,h1,h2,⟨h3,h4,h5,h6,h7⟩,h8⟩:=h;refine⟨m,v,T,good,h1,h2,h3,h4,h5,?_⟩;cases good with
 | false=>exact .inl ⟨rfl,h6 rfl⟩
 | true =>
  obtain⟨bk',g,k1,k2⟩:=h7 rfl;cases am with
  | true =>
   refine .inr (.inl ⟨rfl,rfl,fun e=>?_,bk',g,(k1 rfl).1⟩);have:=(k1 rfl).2;rw[e] at this;exact absurd this (by decide)
  | false =>
   obtain⟨e,ho⟩:=k2 rfl;exact .inr (.inr ⟨rfl,.inl rfl,bk',g,e ▸ ho,e ▸ h8 rfl⟩)
theorem ZmW:bkT [("A",.nil)] = "A = {}" := by
 rw[Zmu];rfl
theorem Zlu:Wr [("A",.nil)]:=⟨List.cons_ne_nil _ _,by show 1<=30;decide,fun x hx=>by
 rw[List.mem_singleton.mp hx];exact⟨⟨ZgW,by show 1<=8;decide,trivial⟩,by show 1<=8;decide,by show 0<16;decide,by show 1<=500;decide,trivial⟩⟩
theorem Zls:Gd "A = {}" [("A",.nil)]:=by
 have:=Zlu.gd (by rw[ZmW];decide) (by show 1<=8;decide) (fun x hx=>by rw[List.mem_singleton.mp hx];show 0<12;decide);rw[ZmW] at this;exact this
theorem ZnM{am:Bool}{H:Hp}{y m p t q:Addr}(h1:H y=some (.tup [.ref m,.bl true]))(h2:H m=some (.tup [.ref p,.str "A = {}"])) (h3:H p=some (.tup [.ref t])) (h4:H t=some (.tup [.str "A",.ref q])) (h5:H q=some (.tup [.str "nil"])):ItR am H y:=by
 have hb:=Zlu.bnd;rw[ZmW] at hb;have hu:=Zlb (bk:=[("A",.nil)]) fun x hx b=>by
  rw[List.mem_singleton.mp hx];cases b <;> rfl
 refine⟨m,.ref p,"A = {}",true,h1,h2,by decide,hb,fun bk g x hx=>?_,.inr (.inr ⟨rfl,.inr rfl,_,Zls,⟨Zd3 (by show(["A"]:List Str).Nodup;decide),hu.1,hu.2⟩,p,_,rfl,h3,.cons ⟨t,q,rfl,h4,.nil h5⟩ .nil⟩)⟩;rw[Zhe g Zls] at hx;rw[List.mem_singleton.mp hx];exact ZgW
set_option maxHeartbeats 4000000 in
theorem Znd(B:∀x∈ZbK,mg x=none)(g_l_cell_at:Has P w K mg base "_law_cell_at" ["_law_script","_law_k"] 1 (Zc1 K)) (g_l_made:Has P w K mg base "_law_made" ["_law_script","_law_amiss"] 4 (Zip K)) (g_l_asked:Has P w K mg base "_law_asked" ["_law_text"] 68 (Zgh K)) (g_l_alike:Has P w K mg base "_law_alike" ["_law_told","_law_due"] 36 (Zfr K 36)) (F:Fun K "law" "law" ZbV f fd):FnOk P w K mg base CX0 69 f fd ["_law_script"] (Fg.Zk2 K):=by
 refine F.ok Zdr (fun vs H Q E h=>?_) (fun cdv A outer s H vs Q E hr h=>?_)
 ·obtain⟨a,ns,rfl,_⟩:=h;rfl
 obtain⟨a,ns,rfl,hS,h63,q⟩:=h;refine Zap ((Ze ZbV).drop 4) (Zi (ZL ZdD)) (fun u4 h4 e4=>?_);refine ZcJ ((Za6 ((Za6 ((Ze ZbV).getD 3 (.Pass ⟨0,0,0,0⟩))).getD 1 (.Pass ⟨0,0,0,0⟩))).drop 0) (Zi (Zad (ZC Zh6 (pv 7) Zo (ZM _)) (Zi (ZL ZdD)) Zx)) (fun u3_1t0 h3_1t0 e3_1t0=>?_);refine ZcJ ((Za6 ((Zks ((Za6 ((Ze ZbV).getD 3 (.Pass ⟨0,0,0,0⟩))).getD 1 (.Pass ⟨0,0,0,0⟩))).getD 0 (.Pass ⟨0,0,0,0⟩))).drop 0) (Zi (Zad (ZC Zh6 (pv 7) Zo (ZM _)) (Zi (ZL ZdD)) Zx)) (fun u3_1e0t0 h3_1e0t0 e3_1e0t0=>?_);refine ZcJ ((Zks ((Zks ((Za6 ((Ze ZbV).getD 3 (.Pass ⟨0,0,0,0⟩))).getD 1 (.Pass ⟨0,0,0,0⟩))).getD 0 (.Pass ⟨0,0,0,0⟩))).drop 0) (Zi (Zad (PW.pt (Zk5 (ZC Zh6 (pv 7) Zo (ZM _)) (Zhj (Zb4 (ZW (ZR g_l_alike hr rfl (Za (pv 6) (Za (Z9 Zaf (pv 4) Zg (fun _ _=>rfl)) Zd))) (fun _=>rfl)))))) (Zi (ZL ZdD)) Zx)) (fun u3_1e0e0 h3_1e0e0 e3_1e0e0=>?_);refine ZcJ ((Zks ((Za6 ((Ze ZbV).getD 3 (.Pass ⟨0,0,0,0⟩))).getD 1 (.Pass ⟨0,0,0,0⟩))).drop 0) (Zi (Zad (PW.pt (Zf7 (ZW (pv 1) (fun _=>rfl)) (ZdL (ZC Zh6 (Z9 Zaf (pv 4) Zg (fun _ _=>rfl)) Zo (ZM _))))) h3_1e0t0 h3_1e0e0)) (fun u3_1e0 h3_1e0 e3_1e0=>?_);refine Zap ((Za6 ((Ze ZbV).getD 3 (.Pass ⟨0,0,0,0⟩))).drop 1) (Zi (Zad (Zb4 (ZW (pv 5) (fun _=>rfl))) h3_1t0 h3_1e0)) (fun u3_1 h3_1 e3_1=>?_);refine ZcJ ((Za6 ((Ze ZbV).getD 3 (.Pass ⟨0,0,0,0⟩))).drop 0) (Zq (Zjl (ZR g_l_asked hr rfl (Za (Z9 Zaf (pv 4) Zg (fun _ _=>rfl)) Zd)) (ZdW rfl (Zar (ZV (i:=6) Zdr.nd rfl (Or.inl rfl)) (Zar (ZV (i:=7) Zdr.nd rfl (Or.inl rfl)) Zb0)))) h3_1) (fun u3_0 h3_0 e3_0=>?_);refine Zap ((Ze ZbV).drop 3) (Zq (Zch PassesOwn.never rfl (Zb1 (PEi.to (Zbh (Zc (PEi.of (pv 2)) (Zc (PEi.of (pv 3)) (Zc (PEi.of (pv 2)) Zm)))))) (ZdW rfl (Zar (ZV (i:=4) Zdr.nd rfl (Or.inl rfl)) (Zar (ZV (i:=5) Zdr.nd rfl (Or.inl rfl)) Zb0))) h3_0) h4) (fun u3 h3 e3=>?_);refine ZbA ((Ze ZbV).drop 2) (Z0 (Zay (i:=3) Zdr.nd rfl (Or.inl rfl) (Zt (Zc (Zt (Zc (Zt (Zc (Zt (Zc Zv (Zc (Zt (Zc Zv Zm)) Zm))) Zm)) (Zc Zv Zm))) (Zc (PEi.of ZdD) Zm)))) h3) (fun u2 h2 e2=>?_);refine Zap ((Ze ZbV).drop 1) (Zq (ZD (i:=2) Zdr.nd rfl (Or.inl rfl) (ZR g_l_made hr rfl (Za (pv 0) (Za (pv 1) Zd)))) h2) (fun u1 h1 e1=>?_);refine Zap ((Ze ZbV).drop 0) (Zq (ZD (i:=1) Zdr.nd rfl (Or.inl rfl) (Zbo ZaV (Zw Zam (Zw ZaQ (ZR g_l_cell_at hr rfl (Za (pv 0) (Za Zg Zd))) Zg) Zg) Zg (ZM _))) h1) (fun u0 h0 e0=>?_);refine ZlX h0 ?_;refine ZF e0 ?_;refine⟨_,rfl,a,ns,_,rfl,hS,h63,by lia,fun v=>?_⟩;refine⟨_,_,rfl,rfl,⟨by decide,by decide⟩,_,_,rfl,rfl,(by show(0:Int)<3;decide),rfl,?_⟩;show u1 _ [some (.ref a),some (.bl (decide (V.int (v / 5 % 3)=V.int 1))),none,none,none,none,none,none] _;generalize decide (V.int (v / 5 % 3)=V.int 1)=am;refine ZF e1 ?_;refine⟨_,rfl,_,rfl,a,ns,am,rfl,hS,h63,fun r H1 s1 hM=>?_⟩;have hI:=hM.it;show u2 _ _ _;refine ZF e2 ?_;refine⟨(by show 1<=sizeLine;decide),fun t2 ht2=>?_⟩;have s2:Zk H1 (upd H1 t2 (.tup [.str "nil"])):=Zk.new ht2;have x2:upd H1 t2 (.tup [.str "nil"]) t2=some (.tup [.str "nil"]):=Zb;generalize upd H1 t2 (.tup [.str "nil"])=H2 at s2 x2 ⊢;refine⟨(by show 2<=sizeLine;decide),fun t3 ht3=>?_⟩;have s3:Zk H2 (upd H2 t3 (.tup [.str "A",.ref t2])):=Zk.new ht3;have x3:upd H2 t3 (.tup [.str "A",.ref t2]) t3=some (.tup [.str "A",.ref t2]):=Zb;generalize upd H2 t3 (.tup [.str "A",.ref t2])=H3 at s3 x3 ⊢;refine⟨(by show 1<=sizeLine;decide),fun t4 ht4=>?_⟩;have s4:Zk H3 (upd H3 t4 (.tup [.ref t3])):=Zk.new ht4;have x4:upd H3 t4 (.tup [.ref t3]) t4=some (.tup [.ref t3]):=Zb;generalize upd H3 t4 (.tup [.ref t3])=H4 at s4 x4 ⊢;refine⟨(by show 2<=sizeLine;decide),fun t5 ht5=>?_⟩;have s5:Zk H4 (upd H4 t5 (.tup [.ref t4,.str "A = {}"])):=Zk.new ht5;have x5:upd H4 t5 (.tup [.ref t4,.str "A = {}"]) t5=some (.tup [.ref t4,.str "A = {}"]):=Zb;generalize upd H4 t5 (.tup [.ref t4,.str "A = {}"])=H5 at s5 x5 ⊢;refine⟨(by show 2<=sizeLine;decide),fun t6 ht6=>?_⟩;have s6:Zk H5 (upd H5 t6 (.tup [.ref t5,.bl true])):=Zk.new ht6;have x6:upd H5 t6 (.tup [.ref t5,.bl true]) t6=some (.tup [.ref t5,.bl true]):=Zb;show u3 _ _ (upd H5 t6 (.tup [.ref t5,.bl true]));generalize upd H5 t6 (.tup [.ref t5,.bl true])=H6 at s6 x6 ⊢;have s26:=((s3.trans s4).trans s5).trans s6;have hI2:ItR am H6 t6:=ZnM x6 (s6 _ _ x5) ((s5.trans s6) _ _ x4) (((s4.trans s5).trans s6) _ _ x3) (s26 _ _ x2);have hI1:ItR am H6 r:=hI.kp (s2.trans s26).tk;refine ZF e3 ?_;refine⟨_,rfl,_,rfl,_,rfl,(by show 3<=sizeLine;decide),fun l7 hl7=>?_⟩;have s7:Zk H6 (upd H6 l7 (.lst [.ref r,.ref t6,.ref r])):=Zk.new hl7;have x7:upd H6 l7 (.lst [.ref r,.ref t6,.ref r]) l7=some (.lst [.ref r,.ref t6,.ref r]):=Zb;generalize upd H6 l7 (.lst [.ref r,.ref t6,.ref r])=H7 at s7 x7 ⊢;have hJ1:=hI1.kp s7.tk;have hJ2:=hI2.kp s7.tk;refine⟨l7,rfl,⟨_,SqL.of x7⟩,Zg3 (K:=K) (a:=l7) (xs:=[.ref r,.ref t6,.ref r]) (fun i σ H'=>∃v4 v5 v6 v7:Option V,σ =[some (.ref a),some (.bl am),some (.ref r),some (.ref t6),v4,v5,v6,v7]/\Kp H7 H')
  ⟨none,none,none,none,rfl,Kp.same (Zk.refl _)⟩ ?_ ?_ ?_⟩
 ·rintro i σ H' _ ⟨v4,v5,v6,v7,_,k⟩;exact k.seq (SqL.of x7)
 ·rintro i x σ H' hx ⟨v4,v5,v6,v7,rfl,k⟩;obtain⟨y,rfl,hy⟩:∃y,x=.ref y/\ItR am H' y:=by
   match i,hx with
   | 0,hx=>cases hx;exact⟨_,rfl,hJ1.kp k.tk⟩
   | 1,hx=>cases hx;exact⟨_,rfl,hJ2.kp k.tk⟩
   | 2,hx=>cases hx;exact⟨_,rfl,hJ1.kp k.tk⟩
   | i+3,hx=>cases hx
  obtain⟨m,v0,T,good,h1,h2,hT,hb,hup,hcase⟩:=hy;refine⟨y,_,rfl,SqT.of h1,rfl,_,_,rfl,_,_,rfl,rfl,?_⟩;refine ZF e3_0 ?_;refine⟨_,rfl,m,_,1,_,rfl,rfl,SqT.of h2,rfl,T,rfl,hT,hb,hup,fun hn tp H2 k2 ht=>?_,fun bk g ho tp H2 k2 ht=>?_,fun bk g ho tp l ws H2 k2 ht hs hB=>?_⟩
  ·refine⟨tp,_,rfl,SqT.of ht,rfl,_,_,rfl,_,_,rfl,rfl,?_⟩;rcases hcase with⟨rfl,_⟩|⟨_,_,_,bk,g,_⟩|⟨_,_,bk,g,_⟩
   ·show u3_1 _ _ _;refine ZF e3_1 ?_;refine⟨_,rfl,_,rfl,Zcn ?_⟩;refine ZF e3_1t0 ?_;exact⟨_,rfl,rfl,_,rfl,ZaU (fun z=>absurd z (by decide)) (fun _=>⟨_,_,_,_,rfl,k.trans k2⟩)⟩
   ·exact absurd g (hn bk)
   ·exact absurd g (hn bk)
  ·refine⟨tp,_,rfl,SqT.of ht,rfl,_,_,rfl,_,_,rfl,rfl,?_⟩;rcases hcase with⟨_,hn⟩|⟨rfl,ham,hne,_⟩|⟨_,_,bk',g',ho',_⟩
   ·exact absurd g (hn bk)
   ·show u3_1 _ _ _;refine ZF e3_1 ?_;refine⟨_,rfl,_,rfl,ZbO ?_⟩;refine ZF e3_1e0 ?_;refine⟨_,rfl,_,rfl,ZaU (fun _=>⟨_,rfl,m,_,1,_,rfl,rfl,SqT.of (k2.tk _ _ h2),rfl,rfl,_,rfl,ZaU (fun _=>?_) (fun z=>absurd ?_ z)⟩) (fun z=>absurd ham z)⟩
    ·refine ZF e3_1e0t0 ?_;exact⟨_,rfl,rfl,_,rfl,ZaU (fun z=>absurd z (by decide)) (fun _=>⟨_,_,_,_,rfl,k.trans k2⟩)⟩
    ·have : ¬ V.str T=V.str "A = {}" := fun z=>hne (by injection z)
     simpa using this
   ·rw[Zhe g' g] at ho';exact absurd ho' ho
  ·refine⟨tp,_,rfl,SqT.of ht,rfl,_,_,rfl,_,_,rfl,rfl,?_⟩;rcases hcase with⟨_,hn⟩|⟨_,_,_,bk',g',ho'⟩|⟨rfl,hor,bk',g',ho',hE⟩
   ·exact absurd g (hn bk)
   ·rw[Zhe g' g] at ho';exact absurd ho ho'
   ·rw[Zhe g' g] at hE;obtain⟨p,ws',rfl,hp,hPr⟩:=hE;have hA:Alk K H2 36 (.ref l) (.ref p):=ZnP hs (SqT.of (k2.tk _ _ hp)) hB (Paired.mapP (PrE.tk k2.tk hPr) fun _ _ z=>by
     obtain⟨p1,q1,e1',e2',e3'⟩:=z;exact⟨p1,q1,e1',e2',e3'.toK⟩) g.2.2.2.1 fun x hx=>((hb g.1 _ g.2.1).2 x hx).1
    show u3_1 _ _ _;refine ZF e3_1 ?_;refine⟨_,rfl,_,rfl,ZbO ?_⟩;refine ZF e3_1e0 ?_;refine((fun key=>?first:u3_1e0e0 ?D [some (.ref a),some (.bl am),some (.ref r),some (.ref t6),some (.ref m),some (.bl true),some (.ref l),some (.str "book")] H2->_) ?second)
    case first =>
     refine⟨_,rfl,_,rfl,ZaU (fun ham=>⟨_,rfl,m,_,1,_,rfl,rfl,SqT.of (k2.tk _ _ h2),rfl,rfl,_,rfl,ZaU (fun z=>absurd z ?_) (fun _=>by show u3_1e0e0 _ _ _;exact key)⟩) (fun ham=>ZbO (by show u3_1e0e0 _ _ _;exact key))⟩;rcases hor with h|h
     ·rw[h] at ham;cases ham
     ·rw[h];simp
    case second =>
     refine ZF e3_1e0e0 ?_;exact⟨_,rfl,rfl,_,rfl,ZaU (fun z=>absurd z (by decide)) (fun _=>⟨_,rfl,_,rfl,m,_,0,_,rfl,rfl,SqT.of (k2.tk _ _ h2),at0,_,_,rfl,hA,_,rfl,ZbO ⟨_,_,_,_,rfl,k.trans k2⟩⟩)⟩
 ·rintro σ H' ⟨v4,v5,v6,v7,rfl,k⟩;show u4 _ _ _;refine ZF e4 ?_;exact q _
end
theorem ZnX{l:PySem.W.OpenLaw}{w:World}{K:PySem.W.Frag}{h:Heap}{mg:Str->Option Value}{fa f1 f2 f3 f4 f5 f6 f7 f8 f9 f10 f11 f12 f13 f14 f15 f16 f17 f18 f19 f20 f21 f22 f23 f24 f25 f26 f27 f28 f29 f30 f31 f32 f33 f34 f35 f36 f37 f38 f39 f40 f41 f42 f43:Addr}(X:K.In h)(G:h.Ns mainGlobals mg)(hfa:mg "law" = some (.ref fa))
  {od1 an1 od2 an2 od3 an3 od4 an4 od5 an5 od6 an6 od7 an7 od8 an8 od9 an9 od10 an10 od11 an11 od12 an12 od13 an13 od14 an14 od15 an15 od16 an16 od17 an17 od18 an18 od19 an19 od20 an20 od21 an21 od22 an22 od23 an23 od24 an24 od25 an25 od26 an26 od27 an27 od28 an28 od29 an29 od30 an30 od31 an31 od32 an32 od33 an33 od34 an34 od35 an35 od36 an36 od37 an37 od38 an38 od39 an39 od40 an40 od41 an41 od42 an42 od43 an43:Option Addr} {sl1 sl2 sl3 sl4 sl5 sl6 sl7 sl8 sl9 sl10 sl11 sl12 sl13 sl14 sl15 sl16 sl17 sl18 sl19 sl20 sl21 sl22 sl23 sl24 sl25 sl26 sl27 sl28 sl29 sl30 sl31 sl32 sl33 sl34 sl35 sl36 sl37 sl38 sl39 sl40 sl41 sl42 sl43:Array (Option Value)} {oc1 kV1 dc1 pm1 cd1 ct1 oc2 kV2 dc2 pm2 cd2 ct2 oc3 kV3 dc3 pm3 cd3 ct3 oc4 kV4 dc4 pm4 cd4 ct4 oc5 kV5 dc5 pm5 cd5 ct5 oc6 kV6 dc6 pm6 cd6 ct6 oc7 kV7 dc7 pm7 cd7 ct7 oc8 kV8 dc8 pm8 cd8 ct8 oc9 kV9 dc9 pm9 cd9 ct9 oc10 kV10 dc10 pm10 cd10 ct10 oc11 kV11 dc11 pm11 cd11 ct11 oc12 kV12 dc12 pm12 cd12 ct12 oc13 kV13 dc13 pm13 cd13 ct13 oc14 kV14 dc14 pm14 cd14 ct14 oc15 kV15 dc15 pm15 cd15 ct15 oc16 kV16 dc16 pm16 cd16 ct16 oc17 kV17 dc17 pm17 cd17 ct17 oc18 kV18 dc18 pm18 cd18 ct18 oc19 kV19 dc19 pm19 cd19 ct19 oc20 kV20 dc20 pm20 cd20 ct20 oc21 kV21 dc21 pm21 cd21 ct21 oc22 kV22 dc22 pm22 cd22 ct22 oc23 kV23 dc23 pm23 cd23 ct23 oc24 kV24 dc24 pm24 cd24 ct24 oc25 kV25 dc25 pm25 cd25 ct25 oc26 kV26 dc26 pm26 cd26 ct26 oc27 kV27 dc27 pm27 cd27 ct27 oc28 kV28 dc28 pm28 cd28 ct28 oc29 kV29 dc29 pm29 cd29 ct29 oc30 kV30 dc30 pm30 cd30 ct30 oc31 kV31 dc31 pm31 cd31 ct31 oc32 kV32 dc32 pm32 cd32 ct32 oc33 kV33 dc33 pm33 cd33 ct33 oc34 kV34 dc34 pm34 cd34 ct34 oc35 kV35 dc35 pm35 cd35 ct35 oc36 kV36 dc36 pm36 cd36 ct36 oc37 kV37 dc37 pm37 cd37 ct37 oc38 kV38 dc38 pm38 cd38 ct38 oc39 kV39 dc39 pm39 cd39 ct39 oc40 kV40 dc40 pm40 cd40 ct40 oc41 kV41 dc41 pm41 cd41 ct41 oc42 kV42 dc42 pm42 cd42 ct42 oc43 kV43 dc43 pm43 cd43 ct43:Value}
  {X_GroveError X_NoBook X_TwiceNamed X_NoName X_Ring:Addr}
  (xn_GroveError:PySem.W.nsIn K mainGlobals "GroveError" = some (some (.ref X_GroveError)))
  (xn_NoBook:PySem.W.nsIn K mainGlobals "NoBook" = some (some (.ref X_NoBook)))
  (xn_TwiceNamed:PySem.W.nsIn K mainGlobals "TwiceNamed" = some (some (.ref X_TwiceNamed)))
  (xn_NoName:PySem.W.nsIn K mainGlobals "NoName" = some (some (.ref X_NoName)))
  (xn_Ring:PySem.W.nsIn K mainGlobals "Ring" = some (some (.ref X_Ring)))
  {g0 goc:Value} {gdd god:Option Addr} {gcd:ClassData} {gsl gsl':Array (Option Value)} {ges:Array DictEntry} {gep:Nat} (xg1:K.lookup X_GroveError=some ⟨g0,gdd,.cls gcd,gsl⟩) (xg2:K.lookup gcd.ns=some ⟨goc,god,.dict ges gep,gsl'⟩) (xg3:keysOk ges=true) (xg4:PySem.W.nsIn K gcd.ns "__init__" = some none)
  (xb1:PySem.W.specialIn K (.ref X_GroveError) "__getattribute__" = some (some (.builtin "type.__getattribute__"))) (xb2:PySem.W.readsIn K X_GroveError (.type "type")=true) (xb3:PySem.W.findCls K (.ref X_GroveError) (.type "type") "__init__" = some (.val (.builtin "ValueError.__init__"))) (xb4:PySem.W.isClsIn K X_GroveError=true) (xb5:PySem.W.typeIn K (.ref X_GroveError)=some (.type "type"))
  (d1_GroveError:PySem.W.isClsIn K X_GroveError=true) (d2_GroveError:PySem.W.mroIn K X_GroveError (.type "BaseException")=some true) (d3_GroveError:PySem.W.instIn K (.ref X_GroveError) (.type "tuple")=some false)
  (d1_NoBook:PySem.W.isClsIn K X_NoBook=true) (d2_NoBook:PySem.W.mroIn K X_NoBook (.type "BaseException")=some true) (d3_NoBook:PySem.W.instIn K (.ref X_NoBook) (.type "tuple")=some false)
  (d1_TwiceNamed:PySem.W.isClsIn K X_TwiceNamed=true) (d2_TwiceNamed:PySem.W.mroIn K X_TwiceNamed (.type "BaseException")=some true) (d3_TwiceNamed:PySem.W.instIn K (.ref X_TwiceNamed) (.type "tuple")=some false)
  (d1_NoName:PySem.W.isClsIn K X_NoName=true) (d2_NoName:PySem.W.mroIn K X_NoName (.type "BaseException")=some true) (d3_NoName:PySem.W.instIn K (.ref X_NoName) (.type "tuple")=some false)
  (d1_Ring:PySem.W.isClsIn K X_Ring=true) (d2_Ring:PySem.W.mroIn K X_Ring (.type "BaseException")=some true) (d3_Ring:PySem.W.instIn K (.ref X_Ring) (.type "tuple")=some false)
  {nm_NoBook q_NoBook:Str} {N_NoBook:Addr} {bs_NoBook:List Value} {hdct_NoBook:Bool} {sn_NoBook:List Str} {sub_NoBook:List Value} {ab_NoBook:Bool} {col_NoBook:Option Bool} {dd_NoBook:Option Addr} {k0_NoBook k1_NoBook k2_NoBook k3_NoBook k5_NoBook:Option Value}
  (xl_NoBook:K.lookup X_NoBook=some (excClassObj nm_NoBook q_NoBook X_NoBook N_NoBook bs_NoBook (.ref X_GroveError::bmV) hdct_NoBook sn_NoBook sub_NoBook ab_NoBook col_NoBook dd_NoBook k0_NoBook k1_NoBook k2_NoBook k3_NoBook k5_NoBook "ValueError.__new__"))
  (xc_NoBook:PySem.W.specialIn K (.ref X_NoBook) "__call__" = some (some (.builtin "type.__call__"))) (xt_NoBook:PySem.W.instIn K (.ref X_NoBook) (.type "type")=some true) (xk_NoBook:PySem.W.keepIn K (.ref X_NoBook)=true) (xv_NoBook:PySem.W.mroIn K X_NoBook (.type "ValueError")=some true)
  (xe_NoBook:X_NoBook≠X_GroveError)
  (xi_NoBook:PySem.W.findIn K (.ref X_NoBook) "__init__" = some (some (.builtin "ValueError.__init__")))
  (m_NoBook_GroveError:PySem.W.mroIn K X_NoBook (.ref X_GroveError)=some true)
  (m_NoBook_NoBook:PySem.W.mroIn K X_NoBook (.ref X_NoBook)=some true)
  (m_NoBook_TwiceNamed:PySem.W.mroIn K X_NoBook (.ref X_TwiceNamed)=some false)
  (m_NoBook_NoName:PySem.W.mroIn K X_NoBook (.ref X_NoName)=some false)
  (m_NoBook_Ring:PySem.W.mroIn K X_NoBook (.ref X_Ring)=some false)
  {nm_TwiceNamed q_TwiceNamed:Str} {N_TwiceNamed:Addr} {bs_TwiceNamed:List Value} {hdct_TwiceNamed:Bool} {sn_TwiceNamed:List Str} {sub_TwiceNamed:List Value} {ab_TwiceNamed:Bool} {col_TwiceNamed:Option Bool} {dd_TwiceNamed:Option Addr} {k0_TwiceNamed k1_TwiceNamed k2_TwiceNamed k3_TwiceNamed k5_TwiceNamed:Option Value}
  (xl_TwiceNamed:K.lookup X_TwiceNamed=some (excClassObj nm_TwiceNamed q_TwiceNamed X_TwiceNamed N_TwiceNamed bs_TwiceNamed (.ref X_GroveError::bmV) hdct_TwiceNamed sn_TwiceNamed sub_TwiceNamed ab_TwiceNamed col_TwiceNamed dd_TwiceNamed k0_TwiceNamed k1_TwiceNamed k2_TwiceNamed k3_TwiceNamed k5_TwiceNamed "ValueError.__new__"))
  (xc_TwiceNamed:PySem.W.specialIn K (.ref X_TwiceNamed) "__call__" = some (some (.builtin "type.__call__"))) (xt_TwiceNamed:PySem.W.instIn K (.ref X_TwiceNamed) (.type "type")=some true) (xk_TwiceNamed:PySem.W.keepIn K (.ref X_TwiceNamed)=true) (xv_TwiceNamed:PySem.W.mroIn K X_TwiceNamed (.type "ValueError")=some true)
  (xe_TwiceNamed:X_TwiceNamed≠X_GroveError)
  (f1_TwiceNamed_name:PySem.W.findIn K (.ref X_TwiceNamed) "__setattr__" = some (some (.builtin "object.__setattr__"))) (f2_TwiceNamed_name:PySem.W.findIn K (.ref X_TwiceNamed) "name" = some none) (f3_TwiceNamed_name:PySem.W.hasDictIn K X_TwiceNamed=true) (f4_TwiceNamed_name:PySem.W.findIn K (.ref X_TwiceNamed) "__getattribute__" = some (some (.builtin "BaseException.__getattribute__"))) (f5_TwiceNamed_name:PySem.W.findIn K (.ref X_TwiceNamed) "__getattr__" = some none)
  (m_TwiceNamed_GroveError:PySem.W.mroIn K X_TwiceNamed (.ref X_GroveError)=some true)
  (m_TwiceNamed_NoBook:PySem.W.mroIn K X_TwiceNamed (.ref X_NoBook)=some false)
  (m_TwiceNamed_TwiceNamed:PySem.W.mroIn K X_TwiceNamed (.ref X_TwiceNamed)=some true)
  (m_TwiceNamed_NoName:PySem.W.mroIn K X_TwiceNamed (.ref X_NoName)=some false)
  (m_TwiceNamed_Ring:PySem.W.mroIn K X_TwiceNamed (.ref X_Ring)=some false)
  {nm_NoName q_NoName:Str} {N_NoName:Addr} {bs_NoName:List Value} {hdct_NoName:Bool} {sn_NoName:List Str} {sub_NoName:List Value} {ab_NoName:Bool} {col_NoName:Option Bool} {dd_NoName:Option Addr} {k0_NoName k1_NoName k2_NoName k3_NoName k5_NoName:Option Value}
  (xl_NoName:K.lookup X_NoName=some (excClassObj nm_NoName q_NoName X_NoName N_NoName bs_NoName (.ref X_GroveError::bmV) hdct_NoName sn_NoName sub_NoName ab_NoName col_NoName dd_NoName k0_NoName k1_NoName k2_NoName k3_NoName k5_NoName "ValueError.__new__"))
  (xc_NoName:PySem.W.specialIn K (.ref X_NoName) "__call__" = some (some (.builtin "type.__call__"))) (xt_NoName:PySem.W.instIn K (.ref X_NoName) (.type "type")=some true) (xk_NoName:PySem.W.keepIn K (.ref X_NoName)=true) (xv_NoName:PySem.W.mroIn K X_NoName (.type "ValueError")=some true)
  (xe_NoName:X_NoName≠X_GroveError)
  (f1_NoName_name:PySem.W.findIn K (.ref X_NoName) "__setattr__" = some (some (.builtin "object.__setattr__"))) (f2_NoName_name:PySem.W.findIn K (.ref X_NoName) "name" = some none) (f3_NoName_name:PySem.W.hasDictIn K X_NoName=true) (f4_NoName_name:PySem.W.findIn K (.ref X_NoName) "__getattribute__" = some (some (.builtin "BaseException.__getattribute__"))) (f5_NoName_name:PySem.W.findIn K (.ref X_NoName) "__getattr__" = some none)
  (m_NoName_GroveError:PySem.W.mroIn K X_NoName (.ref X_GroveError)=some true)
  (m_NoName_NoBook:PySem.W.mroIn K X_NoName (.ref X_NoBook)=some false)
  (m_NoName_TwiceNamed:PySem.W.mroIn K X_NoName (.ref X_TwiceNamed)=some false)
  (m_NoName_NoName:PySem.W.mroIn K X_NoName (.ref X_NoName)=some true)
  (m_NoName_Ring:PySem.W.mroIn K X_NoName (.ref X_Ring)=some false)
  {nm_Ring q_Ring:Str} {N_Ring:Addr} {bs_Ring:List Value} {hdct_Ring:Bool} {sn_Ring:List Str} {sub_Ring:List Value} {ab_Ring:Bool} {col_Ring:Option Bool} {dd_Ring:Option Addr} {k0_Ring k1_Ring k2_Ring k3_Ring k5_Ring:Option Value}
  (xl_Ring:K.lookup X_Ring=some (excClassObj nm_Ring q_Ring X_Ring N_Ring bs_Ring (.ref X_GroveError::bmV) hdct_Ring sn_Ring sub_Ring ab_Ring col_Ring dd_Ring k0_Ring k1_Ring k2_Ring k3_Ring k5_Ring "ValueError.__new__"))
  (xc_Ring:PySem.W.specialIn K (.ref X_Ring) "__call__" = some (some (.builtin "type.__call__"))) (xt_Ring:PySem.W.instIn K (.ref X_Ring) (.type "type")=some true) (xk_Ring:PySem.W.keepIn K (.ref X_Ring)=true) (xv_Ring:PySem.W.mroIn K X_Ring (.type "ValueError")=some true)
  (xe_Ring:X_Ring≠X_GroveError)
  (f1_Ring_names:PySem.W.findIn K (.ref X_Ring) "__setattr__" = some (some (.builtin "object.__setattr__"))) (f2_Ring_names:PySem.W.findIn K (.ref X_Ring) "names" = some none) (f3_Ring_names:PySem.W.hasDictIn K X_Ring=true) (f4_Ring_names:PySem.W.findIn K (.ref X_Ring) "__getattribute__" = some (some (.builtin "BaseException.__getattribute__"))) (f5_Ring_names:PySem.W.findIn K (.ref X_Ring) "__getattr__" = some none)
  (m_Ring_GroveError:PySem.W.mroIn K X_Ring (.ref X_GroveError)=some true)
  (m_Ring_NoBook:PySem.W.mroIn K X_Ring (.ref X_NoBook)=some false)
  (m_Ring_TwiceNamed:PySem.W.mroIn K X_Ring (.ref X_TwiceNamed)=some false)
  (m_Ring_NoName:PySem.W.mroIn K X_Ring (.ref X_NoName)=some false)
  (m_Ring_Ring:PySem.W.mroIn K X_Ring (.ref X_Ring)=some true)
  {C_Source:Addr}
  (cn1:PySem.W.nsIn K mainGlobals "Source" = some (some (.ref C_Source))) (cp1:PySem.W.plainGet K C_Source Str.empty=true) (ch1:PySem.W.hasDictIn K C_Source=true) (cq1:PySem.W.plainOver K C_Source=true) (cs1:PySem.W.findIn K (.ref C_Source) "__setattr__" = some (some (.builtin "object.__setattr__"))) (cm1:PySem.W.makesIn K C_Source=true) (ck1:PySem.W.keepIn K (.ref C_Source)=true)
  (cx1_0:PySem.W.findIn K (.ref C_Source) "text" = some none)
  (cx1_1:PySem.W.findIn K (.ref C_Source) "at" = some none)
  (a1:PySem.W.nsIn K mainGlobals "_law_cell_at" = some (some (.ref f1))) (l1:K.lookup f1=some ⟨oc1,od1,.func (PySem.W.fnOf "_law_cell_at" "_law_cell_at" (ZJ Zbr) (Ze Zbr) (Zf Zbr) .none kV1 dc1 pm1 an1 cd1 ct1),sl1⟩) (c1:PySem.W.codeIn K cd1 "_law_cell_at" = true) (k1:PySem.W.keepIn K (.ref f1)=true)
  (a2:PySem.W.nsIn K mainGlobals "_law_word" = some (some (.ref f2))) (l2:K.lookup f2=some ⟨oc2,od2,.func (PySem.W.fnOf "_law_word" "_law_word" (ZJ Zco) (Ze Zco) (Zf Zco) .none kV2 dc2 pm2 an2 cd2 ct2),sl2⟩) (c2:PySem.W.codeIn K cd2 "_law_word" = true) (k2:PySem.W.keepIn K (.ref f2)=true)
  (a3:PySem.W.nsIn K mainGlobals "_law_long" = some (some (.ref f3))) (l3:K.lookup f3=some ⟨oc3,od3,.func (PySem.W.fnOf "_law_long" "_law_long" (ZJ Z4) (Ze Z4) (Zf Z4) .none kV3 dc3 pm3 an3 cd3 ct3),sl3⟩) (c3:PySem.W.codeIn K cd3 "_law_long" = true) (k3:PySem.W.keepIn K (.ref f3)=true)
  (a4:PySem.W.nsIn K mainGlobals "_law_wrapped" = some (some (.ref f4))) (l4:K.lookup f4=some ⟨oc4,od4,.func (PySem.W.fnOf "_law_wrapped" "_law_wrapped" (ZJ Zy) (Ze Zy) (Zf Zy) .none kV4 dc4 pm4 an4 cd4 ct4),sl4⟩) (c4:PySem.W.codeIn K cd4 "_law_wrapped" = true) (k4:PySem.W.keepIn K (.ref f4)=true)
  (a5:PySem.W.nsIn K mainGlobals "_law_deep" = some (some (.ref f5))) (l5:K.lookup f5=some ⟨oc5,od5,.func (PySem.W.fnOf "_law_deep" "_law_deep" (ZJ ZaJ) (Ze ZaJ) (Zf ZaJ) .none kV5 dc5 pm5 an5 cd5 ct5),sl5⟩) (c5:PySem.W.codeIn K cd5 "_law_deep" = true) (k5:PySem.W.keepIn K (.ref f5)=true)
  (a6:PySem.W.nsIn K mainGlobals "_law_many" = some (some (.ref f6))) (l6:K.lookup f6=some ⟨oc6,od6,.func (PySem.W.fnOf "_law_many" "_law_many" (ZJ Zav) (Ze Zav) (Zf Zav) .none kV6 dc6 pm6 an6 cd6 ct6),sl6⟩) (c6:PySem.W.codeIn K cd6 "_law_many" = true) (k6:PySem.W.keepIn K (.ref f6)=true)
  (a7:PySem.W.nsIn K mainGlobals "_law_lettered" = some (some (.ref f7))) (l7:K.lookup f7=some ⟨oc7,od7,.func (PySem.W.fnOf "_law_lettered" "_law_lettered" (ZJ ZG) (Ze ZG) (Zf ZG) .none kV7 dc7 pm7 an7 cd7 ct7),sl7⟩) (c7:PySem.W.codeIn K cd7 "_law_lettered" = true) (k7:PySem.W.keepIn K (.ref f7)=true)
  (a8:PySem.W.nsIn K mainGlobals "_law_brackets" = some (some (.ref f8))) (l8:K.lookup f8=some ⟨oc8,od8,.func (PySem.W.fnOf "_law_brackets" "_law_brackets" (ZJ Zaa) (Ze Zaa) (Zf Zaa) .none kV8 dc8 pm8 an8 cd8 ct8),sl8⟩) (c8:PySem.W.codeIn K cd8 "_law_brackets" = true) (k8:PySem.W.keepIn K (.ref f8)=true)
  (a9:PySem.W.nsIn K mainGlobals "_law_made" = some (some (.ref f9))) (l9:K.lookup f9=some ⟨oc9,od9,.func (PySem.W.fnOf "_law_made" "_law_made" (ZJ Zcs) (Ze Zcs) (Zf Zcs) .none kV9 dc9 pm9 an9 cd9 ct9),sl9⟩) (c9:PySem.W.codeIn K cd9 "_law_made" = true) (k9:PySem.W.keepIn K (.ref f9)=true)
  (a10:PySem.W.findIn K (.ref C_Source) "__init__" = some (some (.ref f10))) (l10:K.lookup f10=some ⟨oc10,od10,.func (PySem.W.fnOf "__init__" "Source.__init__" (ZJ Zao) (Ze Zao) (Zf Zao) .none kV10 dc10 pm10 an10 cd10 ct10),sl10⟩) (c10:PySem.W.codeIn K cd10 "Source.__init__" = true) (k10:PySem.W.keepIn K (.ref f10)=true) (n10:PySem.W.isFn K (.ref f10)=true)
  (a11:PySem.W.findIn K (.ref C_Source) "at_end" = some (some (.ref f11))) (l11:K.lookup f11=some ⟨oc11,od11,.func (PySem.W.fnOf "at_end" "Source.at_end" (ZJ ZaD) (Ze ZaD) (Zf ZaD) .none kV11 dc11 pm11 an11 cd11 ct11),sl11⟩) (c11:PySem.W.codeIn K cd11 "Source.at_end" = true) (k11:PySem.W.keepIn K (.ref f11)=true) (n11:PySem.W.isFn K (.ref f11)=true)
  (a12:PySem.W.findIn K (.ref C_Source) "take_letters" = some (some (.ref f12))) (l12:K.lookup f12=some ⟨oc12,od12,.func (PySem.W.fnOf "take_letters" "Source.take_letters" (ZJ Z2) (Ze Z2) (Zf Z2) .none kV12 dc12 pm12 an12 cd12 ct12),sl12⟩) (c12:PySem.W.codeIn K cd12 "Source.take_letters" = true) (k12:PySem.W.keepIn K (.ref f12)=true) (n12:PySem.W.isFn K (.ref f12)=true)
  (a13:PySem.W.findIn K (.ref C_Source) "take_name" = some (some (.ref f13))) (l13:K.lookup f13=some ⟨oc13,od13,.func (PySem.W.fnOf "take_name" "Source.take_name" (ZJ Zah) (Ze Zah) (Zf Zah) .none kV13 dc13 pm13 an13 cd13 ct13),sl13⟩) (c13:PySem.W.codeIn K cd13 "Source.take_name" = true) (k13:PySem.W.keepIn K (.ref f13)=true) (n13:PySem.W.isFn K (.ref f13)=true)
  (a14:PySem.W.findIn K (.ref C_Source) "sees" = some (some (.ref f14))) (l14:K.lookup f14=some ⟨oc14,od14,.func (PySem.W.fnOf "sees" "Source.sees" (ZJ Za5) (Ze Za5) (Zf Za5) .none kV14 dc14 pm14 an14 cd14 ct14),sl14⟩) (c14:PySem.W.codeIn K cd14 "Source.sees" = true) (k14:PySem.W.keepIn K (.ref f14)=true) (n14:PySem.W.isFn K (.ref f14)=true)
  (a15:PySem.W.findIn K (.ref C_Source) "skips" = some (some (.ref f15))) (l15:K.lookup f15=some ⟨oc15,od15,.func (PySem.W.fnOf "skips" "Source.skips" (ZJ ZaO) (Ze ZaO) (Zf ZaO) .none kV15 dc15 pm15 an15 cd15 ct15),sl15⟩) (c15:PySem.W.codeIn K cd15 "Source.skips" = true) (k15:PySem.W.keepIn K (.ref f15)=true) (n15:PySem.W.isFn K (.ref f15)=true)
  (a16:PySem.W.findIn K (.ref C_Source) "must_skip" = some (some (.ref f16))) (l16:K.lookup f16=some ⟨oc16,od16,.func (PySem.W.fnOf "must_skip" "Source.must_skip" (ZJ Zai) (Ze Zai) (Zf Zai) .none kV16 dc16 pm16 an16 cd16 ct16),sl16⟩) (c16:PySem.W.codeIn K cd16 "Source.must_skip" = true) (k16:PySem.W.keepIn K (.ref f16)=true) (n16:PySem.W.isFn K (.ref f16)=true)
  (a17:PySem.W.nsIn K mainGlobals "is_tag" = some (some (.ref f17))) (l17:K.lookup f17=some ⟨oc17,od17,.func (PySem.W.fnOf "is_tag" "is_tag" (ZJ Zcp) (Ze Zcp) (Zf Zcp) .none kV17 dc17 pm17 an17 cd17 ct17),sl17⟩) (c17:PySem.W.codeIn K cd17 "is_tag" = true) (k17:PySem.W.keepIn K (.ref f17)=true)
  (a18:PySem.W.findIn K (.ref C_Source) "take_inner" = some (some (.ref f18))) (l18:K.lookup f18=some ⟨oc18,od18,.func (PySem.W.fnOf "take_inner" "Source.take_inner" (ZJ Zae) (Ze Zae) (Zf Zae) .none kV18 dc18 pm18 an18 cd18 ct18),sl18⟩) (c18:PySem.W.codeIn K cd18 "Source.take_inner" = true) (k18:PySem.W.keepIn K (.ref f18)=true) (n18:PySem.W.isFn K (.ref f18)=true)
  (a19:PySem.W.findIn K (.ref C_Source) "take_single" = some (some (.ref f19))) (l19:K.lookup f19=some ⟨oc19,od19,.func (PySem.W.fnOf "take_single" "Source.take_single" (ZJ Z7) (Ze Z7) (Zf Z7) .none kV19 dc19 pm19 an19 cd19 ct19),sl19⟩) (c19:PySem.W.codeIn K cd19 "Source.take_single" = true) (k19:PySem.W.keepIn K (.ref f19)=true) (n19:PySem.W.isFn K (.ref f19)=true)
  (a20:PySem.W.findIn K (.ref C_Source) "take_marked" = some (some (.ref f20))) (l20:K.lookup f20=some ⟨oc20,od20,.func (PySem.W.fnOf "take_marked" "Source.take_marked" (ZJ Z8) (Ze Z8) (Zf Z8) .none kV20 dc20 pm20 an20 cd20 ct20),sl20⟩) (c20:PySem.W.codeIn K cd20 "Source.take_marked" = true) (k20:PySem.W.keepIn K (.ref f20)=true) (n20:PySem.W.isFn K (.ref f20)=true)
  (a21:PySem.W.findIn K (.ref C_Source) "take_turn" = some (some (.ref f21))) (l21:K.lookup f21=some ⟨oc21,od21,.func (PySem.W.fnOf "take_turn" "Source.take_turn" (ZJ Zag) (Ze Zag) (Zf Zag) .none kV21 dc21 pm21 an21 cd21 ct21),sl21⟩) (c21:PySem.W.codeIn K cd21 "Source.take_turn" = true) (k21:PySem.W.keepIn K (.ref f21)=true) (n21:PySem.W.isFn K (.ref f21)=true)
  (a22:PySem.W.findIn K (.ref C_Source) "take_expr" = some (some (.ref f22))) (l22:K.lookup f22=some ⟨oc22,od22,.func (PySem.W.fnOf "take_expr" "Source.take_expr" (ZJ Z6) (Ze Z6) (Zf Z6) .none kV22 dc22 pm22 an22 cd22 ct22),sl22⟩) (c22:PySem.W.codeIn K cd22 "Source.take_expr" = true) (k22:PySem.W.keepIn K (.ref f22)=true) (n22:PySem.W.isFn K (.ref f22)=true)
  (a23:PySem.W.nsIn K mainGlobals "take_pair" = some (some (.ref f23))) (l23:K.lookup f23=some ⟨oc23,od23,.func (PySem.W.fnOf "take_pair" "take_pair" (ZJ Zbm) (Ze Zbm) (Zf Zbm) .none kV23 dc23 pm23 an23 cd23 ct23),sl23⟩) (c23:PySem.W.codeIn K cd23 "take_pair" = true) (k23:PySem.W.keepIn K (.ref f23)=true)
  (a24:PySem.W.nsIn K mainGlobals "parts_of" = some (some (.ref f24))) (l24:K.lookup f24=some ⟨oc24,od24,.func (PySem.W.fnOf "parts_of" "parts_of" (ZJ ZbD) (Ze ZbD) (Zf ZbD) .none kV24 dc24 pm24 an24 cd24 ct24),sl24⟩) (c24:PySem.W.codeIn K cd24 "parts_of" = true) (k24:PySem.W.keepIn K (.ref f24)=true)
  (a25:PySem.W.nsIn K mainGlobals "shown_part" = some (some (.ref f25))) (l25:K.lookup f25=some ⟨oc25,od25,.func (PySem.W.fnOf "shown_part" "shown_part" (ZJ Zbd) (Ze Zbd) (Zf Zbd) .none kV25 dc25 pm25 an25 cd25 ct25),sl25⟩) (c25:PySem.W.codeIn K cd25 "shown_part" = true) (k25:PySem.W.keepIn K (.ref f25)=true)
  (a26:PySem.W.nsIn K mainGlobals "shown_expr" = some (some (.ref f26))) (l26:K.lookup f26=some ⟨oc26,od26,.func (PySem.W.fnOf "shown_expr" "shown_expr" (ZJ Zbe) (Ze Zbe) (Zf Zbe) .none kV26 dc26 pm26 an26 cd26 ct26),sl26⟩) (c26:PySem.W.codeIn K cd26 "shown_expr" = true) (k26:PySem.W.keepIn K (.ref f26)=true)
  (a27:PySem.W.nsIn K mainGlobals "shown" = some (some (.ref f27))) (l27:K.lookup f27=some ⟨oc27,od27,.func (PySem.W.fnOf "shown" "shown" (ZJ Zdi) (Ze Zdi) (Zf Zdi) .none kV27 dc27 pm27 an27 cd27 ct27),sl27⟩) (c27:PySem.W.codeIn K cd27 "shown" = true) (k27:PySem.W.keepIn K (.ref f27)=true)
  (a28:PySem.W.nsIn K mainGlobals "depth_of" = some (some (.ref f28))) (l28:K.lookup f28=some ⟨oc28,od28,.func (PySem.W.fnOf "depth_of" "depth_of" (ZJ ZbC) (Ze ZbC) (Zf ZbC) .none kV28 dc28 pm28 an28 cd28 ct28),sl28⟩) (c28:PySem.W.codeIn K cd28 "depth_of" = true) (k28:PySem.W.keepIn K (.ref f28)=true)
  (a29:PySem.W.nsIn K mainGlobals "read_pairs" = some (some (.ref f29))) (l29:K.lookup f29=some ⟨oc29,od29,.func (PySem.W.fnOf "read_pairs" "read_pairs" (ZJ Zbb) (Ze Zbb) (Zf Zbb) .none kV29 dc29 pm29 an29 cd29 ct29),sl29⟩) (c29:PySem.W.codeIn K cd29 "read_pairs" = true) (k29:PySem.W.keepIn K (.ref f29)=true)
  (a30:PySem.W.findIn K (.ref X_TwiceNamed) "__init__" = some (some (.ref f30)))
  (l30:K.lookup f30=some ⟨oc30,od30,.func (PySem.W.fnOf "__init__" "TwiceNamed.__init__" (ZJ Z1) (Ze Z1) (Zf Z1) .none kV30 dc30 pm30 an30 cd30 ct30),sl30⟩) (c30:PySem.W.codeIn K cd30 "TwiceNamed.__init__" = true) (k30:PySem.W.keepIn K (.ref f30)=true) (n30:PySem.W.isFn K (.ref f30)=true)
  (a31:PySem.W.nsIn K mainGlobals "refuse_doubles" = some (some (.ref f31))) (l31:K.lookup f31=some ⟨oc31,od31,.func (PySem.W.fnOf "refuse_doubles" "refuse_doubles" (ZJ Zaj) (Ze Zaj) (Zf Zaj) .none kV31 dc31 pm31 an31 cd31 ct31),sl31⟩) (c31:PySem.W.codeIn K cd31 "refuse_doubles" = true) (k31:PySem.W.keepIn K (.ref f31)=true)
  (a32:PySem.W.nsIn K mainGlobals "names_in" = some (some (.ref f32))) (l32:K.lookup f32=some ⟨oc32,od32,.func (PySem.W.fnOf "names_in" "names_in" (ZJ ZbE) (Ze ZbE) (Zf ZbE) .none kV32 dc32 pm32 an32 cd32 ct32),sl32⟩) (c32:PySem.W.codeIn K cd32 "names_in" = true) (k32:PySem.W.keepIn K (.ref f32)=true)
  (a33:PySem.W.findIn K (.ref X_NoName) "__init__" = some (some (.ref f33)))
  (l33:K.lookup f33=some ⟨oc33,od33,.func (PySem.W.fnOf "__init__" "NoName.__init__" (ZJ Zan) (Ze Zan) (Zf Zan) .none kV33 dc33 pm33 an33 cd33 ct33),sl33⟩) (c33:PySem.W.codeIn K cd33 "NoName.__init__" = true) (k33:PySem.W.keepIn K (.ref f33)=true) (n33:PySem.W.isFn K (.ref f33)=true)
  (a34:PySem.W.nsIn K mainGlobals "refuse_unnamed" = some (some (.ref f34))) (l34:K.lookup f34=some ⟨oc34,od34,.func (PySem.W.fnOf "refuse_unnamed" "refuse_unnamed" (ZJ Zal) (Ze Zal) (Zf Zal) .none kV34 dc34 pm34 an34 cd34 ct34),sl34⟩) (c34:PySem.W.codeIn K cd34 "refuse_unnamed" = true) (k34:PySem.W.keepIn K (.ref f34)=true)
  (a35:PySem.W.nsIn K mainGlobals "names_outside" = some (some (.ref f35))) (l35:K.lookup f35=some ⟨oc35,od35,.func (PySem.W.fnOf "names_outside" "names_outside" (ZJ ZaC) (Ze ZaC) (Zf ZaC) .none kV35 dc35 pm35 an35 cd35 ct35),sl35⟩) (c35:PySem.W.codeIn K cd35 "names_outside" = true) (k35:PySem.W.keepIn K (.ref f35)=true)
  (a36:PySem.W.nsIn K mainGlobals "ring_or_before" = some (some (.ref f36))) (l36:K.lookup f36=some ⟨oc36,od36,.func (PySem.W.fnOf "ring_or_before" "ring_or_before" (ZJ Zak) (Ze Zak) (Zf Zak) .none kV36 dc36 pm36 an36 cd36 ct36),sl36⟩) (c36:PySem.W.codeIn K cd36 "ring_or_before" = true) (k36:PySem.W.keepIn K (.ref f36)=true)
  (a37:PySem.W.findIn K (.ref X_Ring) "__init__" = some (some (.ref f37)))
  (l37:K.lookup f37=some ⟨oc37,od37,.func (PySem.W.fnOf "__init__" "Ring.__init__" (ZJ ZaH) (Ze ZaH) (Zf ZaH) .none kV37 dc37 pm37 an37 cd37 ct37),sl37⟩) (c37:PySem.W.codeIn K cd37 "Ring.__init__" = true) (k37:PySem.W.keepIn K (.ref f37)=true) (n37:PySem.W.isFn K (.ref f37)=true)
  (a38:PySem.W.nsIn K mainGlobals "ring_from" = some (some (.ref f38))) (l38:K.lookup f38=some ⟨oc38,od38,.func (PySem.W.fnOf "ring_from" "ring_from" (ZJ Zba) (Ze Zba) (Zf Zba) .none kV38 dc38 pm38 an38 cd38 ct38),sl38⟩) (c38:PySem.W.codeIn K cd38 "ring_from" = true) (k38:PySem.W.keepIn K (.ref f38)=true)
  (a39:PySem.W.nsIn K mainGlobals "refuse_rings" = some (some (.ref f39))) (l39:K.lookup f39=some ⟨oc39,od39,.func (PySem.W.fnOf "refuse_rings" "refuse_rings" (ZJ ZaN) (Ze ZaN) (Zf ZaN) .none kV39 dc39 pm39 an39 cd39 ct39),sl39⟩) (c39:PySem.W.codeIn K cd39 "refuse_rings" = true) (k39:PySem.W.keepIn K (.ref f39)=true)
  (a40:PySem.W.nsIn K mainGlobals "read" = some (some (.ref f40))) (l40:K.lookup f40=some ⟨oc40,od40,.func (PySem.W.fnOf "read" "read" (ZJ Zex) (Ze Zex) (Zf Zex) .none kV40 dc40 pm40 an40 cd40 ct40),sl40⟩) (c40:PySem.W.codeIn K cd40 "read" = true) (k40:PySem.W.keepIn K (.ref f40)=true)
  (a41:PySem.W.nsIn K mainGlobals "_law_asked" = some (some (.ref f41))) (l41:K.lookup f41=some ⟨oc41,od41,.func (PySem.W.fnOf "_law_asked" "_law_asked" (ZJ Za7) (Ze Za7) (Zf Za7) .none kV41 dc41 pm41 an41 cd41 ct41),sl41⟩) (c41:PySem.W.codeIn K cd41 "_law_asked" = true) (k41:PySem.W.keepIn K (.ref f41)=true)
  (a42:PySem.W.nsIn K mainGlobals "_law_alike" = some (some (.ref f42))) (l42:K.lookup f42=some ⟨oc42,od42,.func (PySem.W.fnOf "_law_alike" "_law_alike" (ZJ ZbW) (Ze ZbW) (Zf ZbW) .none kV42 dc42 pm42 an42 cd42 ct42),sl42⟩) (c42:PySem.W.codeIn K cd42 "_law_alike" = true) (k42:PySem.W.keepIn K (.ref f42)=true)
  (a43:PySem.W.nsIn K mainGlobals "law" = some (some (.ref f43))) (l43:K.lookup f43=some ⟨oc43,od43,.func (PySem.W.fnOf "law" "law" (ZJ ZbV) (Ze ZbV) (Zf ZbV) .none kV43 dc43 pm43 an43 cd43 ct43),sl43⟩) (c43:PySem.W.codeIn K cd43 "law" = true) (k43:PySem.W.keepIn K (.ref f43)=true)
  {tk0 tk1 tk2 tk3 tk4:Tok} (y0:PySem.W.nsIn K mainGlobals "DEEPEST" = some (some (.int 12 tk0))) (y1:PySem.W.nsIn K mainGlobals "LONGEST_NAME" = some (some (.int 8 tk1))) (y2:PySem.W.nsIn K mainGlobals "LONGEST_TAG" = some (some (.int 8 tk2))) (y3:PySem.W.nsIn K mainGlobals "MOST_PAIRS" = some (some (.int 8 tk3))) (y4:PySem.W.nsIn K mainGlobals "MOST_SIGNS" = some (some (.int 400 tk4)))
  {A_NIL A_MARKS A_BRACED B1 B2 B3 B4 B5:Addr}
  {dd0:Option Addr} {tt0_0:Tok} {nn0:Nat} {ss0:Array (Option Value)}
  {dd1:Option Addr} {tt1_0 tt1_1:Tok} {nn1:Nat} {ss1:Array (Option Value)}
  {dd2:Option Addr} {tt2_0:Tok} {nn2:Nat} {ss2:Array (Option Value)}
  {dd3:Option Addr} {tt3_0 tt3_1 tt3_2 tt3_3 tt3_4:Tok} {nn3:Nat} {ss3:Array (Option Value)}
  {dd4:Option Addr} {tt4_0 tt4_1 tt4_2 tt4_3 tt4_4:Tok} {nn4:Nat} {ss4:Array (Option Value)}
  {dd5:Option Addr} {tt5_0 tt5_1 tt5_2 tt5_3 tt5_4:Tok} {nn5:Nat} {ss5:Array (Option Value)}
  (yNIL:PySem.W.nsIn K mainGlobals "NIL" = some (some (.ref A_NIL))) (yMARKS:PySem.W.nsIn K mainGlobals "MARKS" = some (some (.ref A_MARKS))) (yBRACED:PySem.W.nsIn K mainGlobals "BRACED" = some (some (.ref A_BRACED)))
  {hM0 hM1 hM2 hB0 hB1 hB2 hB3 hB4:Int} {kM0 kM1 kM2 uM0 uM1 uM2 kB0 kB1 kB2 kB3 kB4:Tok} {eM eB:Nat} {slM slB:Array (Option Value)}
  (lkM:K.lookup A_MARKS=some ⟨.type "dict",none,.dict #[{ hash:=hM0,key:=.str "many" kM0,val:=.str "*" uM0 },{ hash:=hM1,key:=.str "some" kM1,val:=.str "+" uM1 },{ hash:=hM2,key:=.str "maybe" kM2,val:=.str "?" uM2 }] eM,slM⟩)
  (lkB:K.lookup A_BRACED=some ⟨.type "dict",none,.dict #[{ hash:=hB0,key:=.str "turn" kB0,val:=.ref B1 },{ hash:=hB1,key:=.str "or" kB1,val:=.ref B2 },{ hash:=hB2,key:=.str "many" kB2,val:=.ref B3 },{ hash:=hB3,key:=.str "some" kB3,val:=.ref B4 },{ hash:=hB4,key:=.str "maybe" kB4,val:=.ref B5 }] eB,slB⟩)
  (lk0:K.lookup A_NIL=some ⟨.type "tuple",dd0,.seq #[.str "nil" tt0_0] nn0,ss0⟩)
  (lk1:K.lookup B1=some ⟨.type "tuple",dd1,.seq #[.str "turn" tt1_0,.str "or" tt1_1] nn1,ss1⟩)
  (lk2:K.lookup B2=some ⟨.type "tuple",dd2,.seq #[.str "or" tt2_0] nn2,ss2⟩)
  (lk3:K.lookup B3=some ⟨.type "tuple",dd3,.seq #[.str "turn" tt3_0,.str "or" tt3_1,.str "many" tt3_2,.str "some" tt3_3,.str "maybe" tt3_4] nn3,ss3⟩)
  (lk4:K.lookup B4=some ⟨.type "tuple",dd4,.seq #[.str "turn" tt4_0,.str "or" tt4_1,.str "many" tt4_2,.str "some" tt4_3,.str "maybe" tt4_4] nn4,ss4⟩)
  (lk5:K.lookup B5=some ⟨.type "tuple",dd5,.seq #[.str "turn" tt5_0,.str "or" tt5_1,.str "many" tt5_2,.str "some" tt5_3,.str "maybe" tt5_4] nn5,ss5⟩)
  (ysm:(A_MARKS == sysModules)=false)
  (z0:PySem.W.nsIn K mainGlobals "ValueError" = some none) (z1:PySem.W.nsIn K mainGlobals "all" = some none) (z2:PySem.W.nsIn K mainGlobals "any" = some none) (z3:PySem.W.nsIn K mainGlobals "dict" = some none) (z4:PySem.W.nsIn K mainGlobals "int" = some none) (z5:PySem.W.nsIn K mainGlobals "isinstance" = some none) (z6:PySem.W.nsIn K mainGlobals "len" = some none) (z7:PySem.W.nsIn K mainGlobals "list" = some none) (z8:PySem.W.nsIn K mainGlobals "max" = some none) (z9:PySem.W.nsIn K mainGlobals "range" = some none) (z10:PySem.W.nsIn K mainGlobals "str" = some none) (z11:PySem.W.nsIn K mainGlobals "tuple" = some none) :
  ∃fd:FuncData,(∀(s:Shared)(v:Value),BindsTo s fd ⟨[v],[]⟩ [("_law_script",v)])/\∀base:Heap,K.In base->base.Ns mainGlobals mg->FnOk l.prog w K mg base CX0 69 fa fd ["_law_script"] (Fg.Zk2 K):=by
 have e:=hfa.symm.trans (PySem.W.mg_of X G a43);cases e;have B:∀x∈ZbK,mg x=none:=List.forall_mem_cons.mpr ⟨PySem.W.mg_none_of X G z0,List.forall_mem_cons.mpr ⟨PySem.W.mg_none_of X G z1,List.forall_mem_cons.mpr ⟨PySem.W.mg_none_of X G z2,List.forall_mem_cons.mpr ⟨PySem.W.mg_none_of X G z3,List.forall_mem_cons.mpr ⟨PySem.W.mg_none_of X G z4,List.forall_mem_cons.mpr ⟨PySem.W.mg_none_of X G z5,List.forall_mem_cons.mpr ⟨PySem.W.mg_none_of X G z6,List.forall_mem_cons.mpr ⟨PySem.W.mg_none_of X G z7,List.forall_mem_cons.mpr ⟨PySem.W.mg_none_of X G z8,List.forall_mem_cons.mpr ⟨PySem.W.mg_none_of X G z9,List.forall_mem_cons.mpr ⟨PySem.W.mg_none_of X G z10,List.forall_mem_cons.mpr ⟨PySem.W.mg_none_of X G z11,List.forall_mem_nil _⟩⟩⟩⟩⟩⟩⟩⟩⟩⟩⟩⟩;have Cc_DEEPEST:∃t:Tok,mg "DEEPEST" = some (.int 12 t):=⟨_,PySem.W.mg_of X G y0⟩;have Cc_LONGEST_NAME:∃t:Tok,mg "LONGEST_NAME" = some (.int 8 t):=⟨_,PySem.W.mg_of X G y1⟩;have Cc_LONGEST_TAG:∃t:Tok,mg "LONGEST_TAG" = some (.int 8 t):=⟨_,PySem.W.mg_of X G y2⟩;have Cc_MOST_PAIRS:∃t:Tok,mg "MOST_PAIRS" = some (.int 8 t):=⟨_,PySem.W.mg_of X G y3⟩;have Cc_MOST_SIGNS:∃t:Tok,mg "MOST_SIGNS" = some (.int 400 t):=⟨_,PySem.W.mg_of X G y4⟩;have F1:=ZZ (st:=Zbr) l1 c1 k1;have b1:=F1.binds (ps:=["_law_script","_law_k"]) fun _ _ _ _ _ _ us hl=>by obtain⟨_,_,rfl⟩:=Zej hl;rfl
 have F2:=ZZ (st:=Zco) l2 c2 k2;have b2:=F2.binds (ps:=["_law_cell","_law_many_here","_law_letters"]) fun _ _ _ _ _ _ us hl=>by obtain⟨_,_,_,rfl⟩:=Zm2 hl;rfl
 have F3:=ZZ (st:=Z4) l3 c3 k3;have b3:=F3.binds (ps:=["_law_script","_law_cell","_law_amiss"]) fun _ _ _ _ _ _ us hl=>by obtain⟨_,_,_,rfl⟩:=Zm2 hl;rfl
 have F4:=ZZ (st:=Zy) l4 c4 k4;have b4:=F4.binds (ps:=["_law_made_here","_law_cell"]) fun _ _ _ _ _ _ us hl=>by obtain⟨_,_,rfl⟩:=Zej hl;rfl
 have F5:=ZZ (st:=ZaJ) l5 c5 k5;have b5:=F5.binds (ps:=["_law_script","_law_cell","_law_amiss"]) fun _ _ _ _ _ _ us hl=>by obtain⟨_,_,_,rfl⟩:=Zm2 hl;rfl
 have F6:=ZZ (st:=Zav) l6 c6 k6;have b6:=F6.binds (ps:=["_law_script","_law_cell","_law_amiss"]) fun _ _ _ _ _ _ us hl=>by obtain⟨_,_,_,rfl⟩:=Zm2 hl;rfl
 have F7:=ZZ (st:=ZG) l7 c7 k7;have b7:=F7.binds (ps:=["_law_script","_law_cell","_law_amiss"]) fun _ _ _ _ _ _ us hl=>by obtain⟨_,_,_,rfl⟩:=Zm2 hl;rfl
 have F8:=ZZ (st:=Zaa) l8 c8 k8;have b8:=F8.binds (ps:=["_law_script","_law_cell"]) fun _ _ _ _ _ _ us hl=>by obtain⟨_,_,rfl⟩:=Zej hl;rfl
 have F9:=ZZ (st:=Zcs) l9 c9 k9;have b9:=F9.binds (ps:=["_law_script","_law_amiss"]) fun _ _ _ _ _ _ us hl=>by obtain⟨_,_,rfl⟩:=Zej hl;rfl
 have F10:=ZZ (st:=Zao) l10 c10 k10;have b10:=F10.binds (ps:=["self","text"]) fun _ _ _ _ _ _ us hl=>by obtain⟨_,_,rfl⟩:=Zej hl;rfl
 have F11:=ZZ (st:=ZaD) l11 c11 k11;have b11:=F11.binds (ps:=["self"]) fun _ _ _ _ _ _ us hl=>by obtain⟨_,rfl⟩:=Zfx hl;rfl
 have F12:=ZZ (st:=Z2) l12 c12 k12;have b12:=F12.binds (ps:=["self","first","last"]) fun _ _ _ _ _ _ us hl=>by obtain⟨_,_,_,rfl⟩:=Zm2 hl;rfl
 have F13:=ZZ (st:=Zah) l13 c13 k13;have b13:=F13.binds (ps:=["self"]) fun _ _ _ _ _ _ us hl=>by obtain⟨_,rfl⟩:=Zfx hl;rfl
 have F14:=ZZ (st:=Za5) l14 c14 k14;have b14:=F14.binds (ps:=["self","piece"]) fun _ _ _ _ _ _ us hl=>by obtain⟨_,_,rfl⟩:=Zej hl;rfl
 have F15:=ZZ (st:=ZaO) l15 c15 k15;have b15:=F15.binds (ps:=["self","piece"]) fun _ _ _ _ _ _ us hl=>by obtain⟨_,_,rfl⟩:=Zej hl;rfl
 have F16:=ZZ (st:=Zai) l16 c16 k16;have b16:=F16.binds (ps:=["self","piece"]) fun _ _ _ _ _ _ us hl=>by obtain⟨_,_,rfl⟩:=Zej hl;rfl
 have F17:=ZZ (st:=Zcp) l17 c17 k17;have b17:=F17.binds (ps:=["text"]) fun _ _ _ _ _ _ us hl=>by obtain⟨_,rfl⟩:=Zfx hl;rfl
 have F18:=ZZ (st:=Zae) l18 c18 k18;have b18:=F18.binds (ps:=["self","levels"]) fun _ _ _ _ _ _ us hl=>by obtain⟨_,_,rfl⟩:=Zej hl;rfl
 have F19:=ZZ (st:=Z7) l19 c19 k19;have b19:=F19.binds (ps:=["self","levels"]) fun _ _ _ _ _ _ us hl=>by obtain⟨_,_,rfl⟩:=Zej hl;rfl
 have F20:=ZZ (st:=Z8) l20 c20 k20;have b20:=F20.binds (ps:=["self","levels"]) fun _ _ _ _ _ _ us hl=>by obtain⟨_,_,rfl⟩:=Zej hl;rfl
 have F21:=ZZ (st:=Zag) l21 c21 k21;have b21:=F21.binds (ps:=["self","levels"]) fun _ _ _ _ _ _ us hl=>by obtain⟨_,_,rfl⟩:=Zej hl;rfl
 have F22:=ZZ (st:=Z6) l22 c22 k22;have b22:=F22.binds (ps:=["self","levels"]) fun _ _ _ _ _ _ us hl=>by obtain⟨_,_,rfl⟩:=Zej hl;rfl
 have F23:=ZZ (st:=Zbm) l23 c23 k23;have b23:=F23.binds (ps:=["source"]) fun _ _ _ _ _ _ us hl=>by obtain⟨_,rfl⟩:=Zfx hl;rfl
 have F24:=ZZ (st:=ZbD) l24 c24 k24;have b24:=F24.binds (ps:=["expr"]) fun _ _ _ _ _ _ us hl=>by obtain⟨_,rfl⟩:=Zfx hl;rfl
 have F25:=ZZ (st:=Zbd) l25 c25 k25;have b25:=F25.binds (ps:=["around","part"]) fun _ _ _ _ _ _ us hl=>by obtain⟨_,_,rfl⟩:=Zej hl;rfl
 have F26:=ZZ (st:=Zbe) l26 c26 k26;have b26:=F26.binds (ps:=["expr"]) fun _ _ _ _ _ _ us hl=>by obtain⟨_,rfl⟩:=Zfx hl;rfl
 have F27:=ZZ (st:=Zdi) l27 c27 k27;have b27:=F27.binds (ps:=["book"]) fun _ _ _ _ _ _ us hl=>by obtain⟨_,rfl⟩:=Zfx hl;rfl
 have F28:=ZZ (st:=ZbC) l28 c28 k28;have b28:=F28.binds (ps:=["expr"]) fun _ _ _ _ _ _ us hl=>by obtain⟨_,rfl⟩:=Zfx hl;rfl
 have F29:=ZZ (st:=Zbb) l29 c29 k29;have b29:=F29.binds (ps:=["text"]) fun _ _ _ _ _ _ us hl=>by obtain⟨_,rfl⟩:=Zfx hl;rfl
 have F30:=ZZ (st:=Z1) l30 c30 k30;have b30:=F30.binds (ps:=["self","name"]) fun _ _ _ _ _ _ us hl=>by obtain⟨_,_,rfl⟩:=Zej hl;rfl
 have F31:=ZZ (st:=Zaj) l31 c31 k31;have b31:=F31.binds (ps:=["book"]) fun _ _ _ _ _ _ us hl=>by obtain⟨_,rfl⟩:=Zfx hl;rfl
 have F32:=ZZ (st:=ZbE) l32 c32 k32;have b32:=F32.binds (ps:=["expr"]) fun _ _ _ _ _ _ us hl=>by obtain⟨_,rfl⟩:=Zfx hl;rfl
 have F33:=ZZ (st:=Zan) l33 c33 k33;have b33:=F33.binds (ps:=["self","name"]) fun _ _ _ _ _ _ us hl=>by obtain⟨_,_,rfl⟩:=Zej hl;rfl
 have F34:=ZZ (st:=Zal) l34 c34 k34;have b34:=F34.binds (ps:=["book"]) fun _ _ _ _ _ _ us hl=>by obtain⟨_,rfl⟩:=Zfx hl;rfl
 have F35:=ZZ (st:=ZaC) l35 c35 k35;have b35:=F35.binds (ps:=["expr"]) fun _ _ _ _ _ _ us hl=>by obtain⟨_,rfl⟩:=Zfx hl;rfl
 have F36:=ZZ (st:=Zak) l36 c36 k36;have b36:=F36.binds (ps:=["uses","names"]) fun _ _ _ _ _ _ us hl=>by obtain⟨_,_,rfl⟩:=Zej hl;rfl
 have F37:=ZZ (st:=ZaH) l37 c37 k37;have b37:=F37.binds (ps:=["self","names"]) fun _ _ _ _ _ _ us hl=>by obtain⟨_,_,rfl⟩:=Zej hl;rfl
 have F38:=ZZ (st:=Zba) l38 c38 k38;have b38:=F38.binds (ps:=["uses","names"]) fun _ _ _ _ _ _ us hl=>by obtain⟨_,_,rfl⟩:=Zej hl;rfl
 have F39:=ZZ (st:=ZaN) l39 c39 k39;have b39:=F39.binds (ps:=["book"]) fun _ _ _ _ _ _ us hl=>by obtain⟨_,rfl⟩:=Zfx hl;rfl
 have F40:=ZZ (st:=Zex) l40 c40 k40;have b40:=F40.binds (ps:=["text"]) fun _ _ _ _ _ _ us hl=>by obtain⟨_,rfl⟩:=Zfx hl;rfl
 have F41:=ZZ (st:=Za7) l41 c41 k41;have b41:=F41.binds (ps:=["_law_text"]) fun _ _ _ _ _ _ us hl=>by obtain⟨_,rfl⟩:=Zfx hl;rfl
 have F42:=ZZ (st:=ZbW) l42 c42 k42;have b42:=F42.binds (ps:=["_law_told","_law_due"]) fun _ _ _ _ _ _ us hl=>by obtain⟨_,_,rfl⟩:=Zej hl;rfl
 have F43:=ZZ (st:=ZbV) l43 c43 k43;refine⟨PySem.W.fnOf "law" "law" (ZJ ZbV) (Ze ZbV) (Zf ZbV) .none kV43 dc43 pm43 an43 cd43 ct43,fun s v=>.of_eq rfl,fun base _ _=>?_⟩;have xc:XC K mg X_GroveError X_NoBook X_TwiceNamed X_NoName X_Ring:=⟨PySem.W.mg_of X G xn_GroveError,PySem.W.mg_of X G xn_NoBook,PySem.W.mg_of X G xn_TwiceNamed,PySem.W.mg_of X G xn_NoName,PySem.W.mg_of X G xn_Ring,⟨xb1,xb2,xb3⟩,xb4,xb5,⟨d1_GroveError,d2_GroveError,d3_GroveError⟩,⟨d1_NoBook,d2_NoBook,d3_NoBook⟩,⟨d1_TwiceNamed,d2_TwiceNamed,d3_TwiceNamed⟩,⟨d1_NoName,d2_NoName,d3_NoName⟩,⟨d1_Ring,d2_Ring,d3_Ring⟩,⟨⟨_,_,_,_,_,_,_,_,_,_,_,_,_,_,_,xl_NoBook⟩,⟨⟨_,_,_,_,_,_,_,_,_,xg1,xg2,xg3,xg4⟩⟩,xc_NoBook,xt_NoBook,xk_NoBook⟩,xi_NoBook,xv_NoBook,xe_NoBook,m_NoBook_GroveError,m_NoBook_NoBook,m_NoBook_TwiceNamed,m_NoBook_NoName,m_NoBook_Ring,⟨⟨_,_,_,_,_,_,_,_,_,_,_,_,_,_,_,xl_TwiceNamed⟩,⟨⟨_,_,_,_,_,_,_,_,_,xg1,xg2,xg3,xg4⟩⟩,xc_TwiceNamed,xt_TwiceNamed,xk_TwiceNamed⟩,⟨f1_TwiceNamed_name,f2_TwiceNamed_name,f3_TwiceNamed_name,f4_TwiceNamed_name,f5_TwiceNamed_name,d2_TwiceNamed⟩,xv_TwiceNamed,xe_TwiceNamed,m_TwiceNamed_GroveError,m_TwiceNamed_NoBook,m_TwiceNamed_TwiceNamed,m_TwiceNamed_NoName,m_TwiceNamed_Ring,⟨⟨_,_,_,_,_,_,_,_,_,_,_,_,_,_,_,xl_NoName⟩,⟨⟨_,_,_,_,_,_,_,_,_,xg1,xg2,xg3,xg4⟩⟩,xc_NoName,xt_NoName,xk_NoName⟩,⟨f1_NoName_name,f2_NoName_name,f3_NoName_name,f4_NoName_name,f5_NoName_name,d2_NoName⟩,xv_NoName,xe_NoName,m_NoName_GroveError,m_NoName_NoBook,m_NoName_TwiceNamed,m_NoName_NoName,m_NoName_Ring,⟨⟨_,_,_,_,_,_,_,_,_,_,_,_,_,_,_,xl_Ring⟩,⟨⟨_,_,_,_,_,_,_,_,_,xg1,xg2,xg3,xg4⟩⟩,xc_Ring,xt_Ring,xk_Ring⟩,⟨f1_Ring_names,f2_Ring_names,f3_Ring_names,f4_Ring_names,f5_Ring_names,d2_Ring⟩,xv_Ring,xe_Ring,m_Ring_GroveError,m_Ring_NoBook,m_Ring_TwiceNamed,m_Ring_NoName,m_Ring_Ring⟩;have C:=K23.Zoa (PySem.W.mg_of X G yNIL) (PySem.W.mg_of X G yMARKS) (PySem.W.mg_of X G yBRACED) lkM lkB lk0 lk1 lk2 lk3 lk4 lk5;have marksD:KTab K A_MARKS K23.mks:=⟨_,_,_,lkM,.cons rfl ⟨_,rfl⟩ (.cons rfl ⟨_,rfl⟩ (.cons rfl ⟨_,rfl⟩ .nil))⟩;have c_Source:K23.SrC K C_Source:=⟨⟨cp1,ch1,cq1,cs1⟩,cx1_0,cx1_1⟩;have g_l_cell_at:Has l.prog w K mg base "_law_cell_at" ["_law_script","_law_k"] 1 (Fg.Zc1 K):=⟨⟨f1,_,ZfL B  F1,b1,k1,PySem.W.mg_of X G a1⟩⟩;have g_l_word:Has l.prog w K mg base "_law_word" ["_law_cell","_law_many_here","_law_letters"] 1 (K23.Zid):=⟨⟨f2,_,Ziy B  F2,b2,k2,PySem.W.mg_of X G a2⟩⟩;have g_l_long:Has l.prog w K mg base "_law_long" ["_law_script","_law_cell","_law_amiss"] 2 (K23.Zik K):=⟨⟨f3,_,ZjY B g_l_cell_at g_l_word F3,b3,k3,PySem.W.mg_of X G a3⟩⟩;have g_l_wrapped:Has l.prog w K mg base "_law_wrapped" ["_law_made_here","_law_cell"] 2 (K23.ZiT):=⟨⟨f4,_,Zf2 B g_l_word F4,b4,k4,PySem.W.mg_of X G a4⟩⟩;have g_l_deep:Has l.prog w K mg base "_law_deep" ["_law_script","_law_cell","_law_amiss"] 3 (K23.Zik K):=⟨⟨f5,_,Zja B g_l_wrapped g_l_cell_at F5,b5,k5,PySem.W.mg_of X G a5⟩⟩;have g_l_many:Has l.prog w K mg base "_law_many" ["_law_script","_law_cell","_law_amiss"] 2 (K23.Zik K):=⟨⟨f6,_,ZiK B g_l_cell_at g_l_word F6,b6,k6,PySem.W.mg_of X G a6⟩⟩;have g_l_lettered:Has l.prog w K mg base "_law_lettered" ["_law_script","_law_cell","_law_amiss"] 2 (K23.Zik K):=⟨⟨f7,_,Ze0 B g_l_word g_l_cell_at F7,b7,k7,PySem.W.mg_of X G a7⟩⟩;have g_l_brackets:Has l.prog w K mg base "_law_brackets" ["_law_script","_law_cell"] 2 (K23.Zmn K):=⟨⟨f8,_,Zft B g_l_cell_at F8,b8,k8,PySem.W.mg_of X G a8⟩⟩;have g_l_made:Has l.prog w K mg base "_law_made" ["_law_script","_law_amiss"] 4 (K23.Zip K):=⟨⟨f9,_,Zje B g_l_cell_at g_l_long g_l_deep g_l_many g_l_lettered g_l_brackets F9,b9,k9,PySem.W.mg_of X G a9⟩⟩;have g_Source:HasC l.prog w K mg base C_Source "Source" ["self","text"] 1 (K23.ZgP C_Source):=⟨⟨f10,_,ZcU B c_Source  F10,b10,⟨cm1,a10,n10,ck1⟩,PySem.W.mg_of X G cn1⟩⟩;have g_Source_at_end:HasM l.prog w K mg base C_Source "at_end" ["self"] 1 (K23.ZhL C_Source):=⟨⟨f11,_,ZdC B c_Source  F11,b11,⟨a11,n11,k11⟩⟩⟩;have g_Source_take_letters:HasM l.prog w K mg base C_Source "take_letters" ["self","first","last"] 2 (K23.ZcZ C_Source):=⟨⟨f12,_,Zb8 B c_Source g_Source_at_end F12,b12,⟨a12,n12,k12⟩⟩⟩
 have g_Source_take_name:HasMX l.prog w K mg base C_Source "take_name" ["self"] 3 (K23.Zff C_Source X_NoBook):=⟨⟨f13,_,ZcK B Cc_LONGEST_NAME c_Source xc g_Source_take_letters F13,b13,⟨a13,n13,k13⟩⟩⟩;have g_Source_sees:HasM l.prog w K mg base C_Source "sees" ["self","piece"] 1 (K23.ZhG C_Source):=⟨⟨f14,_,Zer B c_Source  F14,b14,⟨a14,n14,k14⟩⟩⟩;have g_Source_skips:HasM l.prog w K mg base C_Source "skips" ["self","piece"] 2 (K23.ZbN C_Source):=⟨⟨f15,_,Zeg B c_Source g_Source_sees F15,b15,⟨a15,n15,k15⟩⟩⟩;have g_Source_must_skip:HasMX l.prog w K mg base C_Source "must_skip" ["self","piece"] 3 (K23.Zfw C_Source X_NoBook):=⟨⟨f16,_,ZcI B c_Source xc g_Source_skips F16,b16,⟨a16,n16,k16⟩⟩⟩;have g_is_tag:Has l.prog w K mg base "is_tag" ["text"] 1 (Fg.Zge):=⟨⟨f17,_,ZjA B Cc_LONGEST_TAG  F17,b17,k17,PySem.W.mg_of X G a17⟩⟩;have rt0:HasMX l.prog w K mg base C_Source "take_turn" ["self","levels"] 3 (fun _ _ _ _=>False):=⟨⟨f21,_,FnOk.none (fun vs H Q E z=>z),b21,⟨a21,n21,k21⟩⟩⟩;have rt:∀L:Nat,HasMX l.prog w K mg base C_Source "take_expr" ["self","levels"] (5*L+4) (K23.Zfu K C_Source X_NoBook (K23.pX L) (L)):=by
  intro L
  induction L with
  | zero=>exact⟨⟨f22,_,Zcy B c_Source xc rt0 g_Source_skips F22,b22,⟨a22,n22,k22⟩⟩⟩
  | succ L ih =>
   have h1:HasMX l.prog w K mg base C_Source "take_inner" ["self","levels"] (5*L+5) (K23.Zfu K C_Source X_NoBook (K23.ZeA (K23.pX L)) (L+1)):=⟨⟨f18,_,Zcz L B C.nil C.nilT c_Source xc g_Source_skips ih g_Source_must_skip F18,b18,⟨a18,n18,k18⟩⟩⟩;have h2:HasMX l.prog w K mg base C_Source "take_single" ["self","levels"] (5*L+6) (K23.Zfu K C_Source X_NoBook (K23.Zby (K23.pX L)) (L+1)):=⟨⟨f19,_,Zcc L B C.nil C.nilT c_Source xc g_Source_skips ih g_Source_must_skip g_Source_take_letters g_Source_take_name g_is_tag h1 F19,b19,⟨a19,n19,k19⟩⟩⟩;have h3:HasMX l.prog w K mg base C_Source "take_marked" ["self","levels"] (5*L+7) (K23.Zfu K C_Source X_NoBook (K23.Zbq (K23.pX L)) (L+1)):=⟨⟨f20,_,Zci L B C.marks marksD ysm c_Source xc h2 g_Source_skips F20,b20,⟨a20,n20,k20⟩⟩⟩;have h4:HasMX l.prog w K mg base C_Source "take_turn" ["self","levels"] (5*L+8) (K23.Zfu K C_Source X_NoBook (K23.ZaZ (K23.pX L)) (L+1)):=⟨⟨f21,_,ZcH L B c_Source xc h3 g_Source_sees g_Source_skips F21,b21,⟨a21,n21,k21⟩⟩⟩;exact⟨⟨f22,_,ZcO L B c_Source xc h4 g_Source_skips F22,b22,⟨a22,n22,k22⟩⟩⟩
 have g_Source_take_expr:=rt 12;have g_take_pair:HasX l.prog w K mg base "take_pair" ["source"] 65 (K23.ZiA K C_Source X_NoBook):=⟨⟨f23,_,ZfP B Cc_DEEPEST c_Source xc g_Source_take_name g_Source_must_skip g_Source_take_expr F23,b23,k23,PySem.W.mg_of X G a23⟩⟩;have g_parts_of:Has l.prog w K mg base "parts_of" ["expr"] 1 (K23.ZbB K):=⟨⟨f24,_,Zgk B  F24,b24,k24,PySem.W.mg_of X G a24⟩⟩;have rs:∀d:Nat,Has l.prog w K mg base "shown_expr" ["expr"] (2*d+1) (K23.ZcE K d)/\Has l.prog w K mg base "shown_part" ["around","part"] (2*d+2) (K23.Zgs K d):=by
  intro d
  induction d with
  | zero =>
   have h0:Has l.prog w K mg base "shown_expr" ["expr"] (2*0+1) (K23.ZcE K 0):=⟨⟨f26,_,FnOk.none (fun vs H Q E z=>by obtain⟨p,e,_,_,hd,_⟩:=z;exact absurd hd (Nat.not_lt_zero _)),b26,k26,PySem.W.mg_of X G a26⟩⟩;exact⟨h0,⟨⟨f25,_,ZcX 0 A_NIL A_MARKS A_BRACED B C h0 F25,b25,k25,PySem.W.mg_of X G a25⟩⟩⟩
  | succ d ih =>
   have h1:Has l.prog w K mg base "shown_expr" ["expr"] (2*(d+1)+1) (K23.ZcE K (d+1)):=⟨⟨f26,_,Zfa d A_NIL A_MARKS A_BRACED B C ih.1 g_parts_of ih.2 F26,b26,k26,PySem.W.mg_of X G a26⟩⟩;exact⟨h1,⟨⟨f25,_,ZcX (d+1) A_NIL A_MARKS A_BRACED B C h1 F25,b25,k25,PySem.W.mg_of X G a25⟩⟩⟩
 have g_shown_expr:=(rs 16).1;have g_shown:Has l.prog w K mg base "shown" ["book"] 34 (K23.Zgy K):=⟨⟨f27,_,Zk9 B g_shown_expr F27,b27,k27,PySem.W.mg_of X G a27⟩⟩;have r_depth_of:∀d:Nat,Has l.prog w K mg base "depth_of" ["expr"] (d+1) (K23.ZkF K d):=by
  intro d
  induction d with
  | zero=>exact⟨⟨f28,_,FnOk.none (fun vs H Q E z=>by obtain⟨p,e,_,_,hd,_⟩:=z;exact absurd hd (Nat.not_lt_zero _)),b28,k28,PySem.W.mg_of X G a28⟩⟩
  | succ d ih=>exact⟨⟨f28,_,Zgo d B g_parts_of ih F28,b28,k28,PySem.W.mg_of X G a28⟩⟩
 have g_depth_of:=r_depth_of 16;have g_read_pairs:HasX l.prog w K mg base "read_pairs" ["text"] 66 (K23.ZgA K X_NoBook):=⟨⟨f29,_,Zfm B Cc_MOST_SIGNS Cc_MOST_PAIRS Cc_DEEPEST c_Source xc g_Source g_take_pair g_Source_skips g_shown g_Source_at_end g_depth_of F29,b29,k29,PySem.W.mg_of X G a29⟩⟩;have x_TwiceNamed:XMk l.prog w K mg base X_TwiceNamed X_GroveError "TwiceNamed" ["self","name"] 1 (K23.ZcG X_TwiceNamed):=⟨⟨f30,_,Zb9 B xc  F30,b30,a30,n30⟩,xc.top_TwiceNamed,xc.n_TwiceNamed⟩;have g_refuse_doubles:HasX l.prog w K mg base "refuse_doubles" ["book"] 3 (K23.ZjL K X_TwiceNamed):=⟨⟨f31,_,Zdk B xc x_TwiceNamed F31,b31,k31,PySem.W.mg_of X G a31⟩⟩;have r_names_in:∀d:Nat,Has l.prog w K mg base "names_in" ["expr"] (d+1) (K23.Zlr K true d):=by
  intro d
  induction d with
  | zero=>exact⟨⟨f32,_,FnOk.none (fun vs H Q E z=>by obtain⟨p,e,_,_,hd,_⟩:=z;exact absurd hd (Nat.not_lt_zero _)),b32,k32,PySem.W.mg_of X G a32⟩⟩
  | succ d ih=>exact⟨⟨f32,_,ZgD d B g_parts_of ih F32,b32,k32,PySem.W.mg_of X G a32⟩⟩
 have g_names_in:=r_names_in 16;have x_NoName:XMk l.prog w K mg base X_NoName X_GroveError "NoName" ["self","name"] 1 (K23.ZcG X_NoName):=⟨⟨f33,_,Zde B xc  F33,b33,a33,n33⟩,xc.top_NoName,xc.n_NoName⟩;have g_refuse_unnamed:HasX l.prog w K mg base "refuse_unnamed" ["book"] 18 (K23.Zi0 K X_NoName):=⟨⟨f34,_,Zdj B xc g_names_in x_NoName F34,b34,k34,PySem.W.mg_of X G a34⟩⟩;have r_names_outside:∀d:Nat,Has l.prog w K mg base "names_outside" ["expr"] (d+1) (K23.Zlr K false d):=by
  intro d
  induction d with
  | zero=>exact⟨⟨f35,_,FnOk.none (fun vs H Q E z=>by obtain⟨p,e,_,_,hd,_⟩:=z;exact absurd hd (Nat.not_lt_zero _)),b35,k35,PySem.W.mg_of X G a35⟩⟩
  | succ d ih=>exact⟨⟨f35,_,Zdw d B g_parts_of ih F35,b35,k35,PySem.W.mg_of X G a35⟩⟩
 have g_names_outside:=r_names_outside 16;have g_ring_or_before:Has l.prog w K mg base "ring_or_before" ["uses","names"] 1 (K23.ZmB K):=⟨⟨f36,_,Zdn B  F36,b36,k36,PySem.W.mg_of X G a36⟩⟩;have x_Ring:XMk l.prog w K mg base X_Ring X_GroveError "Ring" ["self","names"] 1 (K23.Zfd K X_Ring):=⟨⟨f37,_,ZdB B xc  F37,b37,a37,n37⟩,xc.top_Ring,xc.n_Ring⟩;have g_ring_from:Has l.prog w K mg base "ring_from" ["uses","names"] 1 (K23.ZgT K):=⟨⟨f38,_,ZfA B  F38,b38,k38,PySem.W.mg_of X G a38⟩⟩;have g_refuse_rings:HasX l.prog w K mg base "refuse_rings" ["book"] 18 (K23.ZgX K X_Ring):=⟨⟨f39,_,Zd8 B xc g_names_outside g_ring_or_before x_Ring g_ring_from F39,b39,k39,PySem.W.mg_of X G a39⟩⟩;have g_read:HasX l.prog w K mg base "read" ["text"] 67 (K23.ZgG K X_NoBook X_TwiceNamed X_NoName X_Ring):=⟨⟨f40,_,ZmH B g_read_pairs g_refuse_doubles g_refuse_unnamed g_refuse_rings F40,b40,k40,PySem.W.mg_of X G a40⟩⟩;have g_l_asked:Has l.prog w K mg base "_law_asked" ["_law_text"] 68 (K23.Zgh K):=⟨⟨f41,_,Zij B xc g_read F41,b41,k41,PySem.W.mg_of X G a41⟩⟩;have ra:∀d:Nat,Has l.prog w K mg base "_law_alike" ["_law_told","_law_due"] d (K23.Zfr K d):=by
  intro d
  induction d with
  | zero=>exact⟨⟨f42,_,FnOk.none (fun vs H Q E z=>by obtain⟨x,y,_,h,_⟩:=z;cases h),b42,k42,PySem.W.mg_of X G a42⟩⟩
  | succ d ih=>exact⟨⟨f42,_,Zh9 d B ih F42,b42,k42,PySem.W.mg_of X G a42⟩⟩
 have g_l_alike:=ra 36;exact Znd B g_l_cell_at g_l_made g_l_asked g_l_alike F43
theorem walk{l:PySem.W.OpenLaw}{q:Program}{loose:List Str}{XP:(Str->Option Value)->Heap->Prop}{YP:World->Heap->Prop}{d:DefRec}{K:Params->PySem.W.Frag}(hn:l.most=some 63)(hdf:d.params.defaults=[])
  (hY:∀(w:World)(h:Heap),YP w h->(K w.params).In h)
  (F:∀(w:World)(mg:Str->Option Value)(fa:Addr)(h:Heap),(K w.params).In h->h.Ns mainGlobals mg->mg d.name=some (.ref fa) ->
   ∃fd:FuncData,(∀(s:Shared)(u:Value),BindsTo s fd ⟨[u],[]⟩ [("_law_script",u)])/\∀base:Heap,(K w.params).In base->base.Ns mainGlobals mg->FnOk l.prog w (K w.params) mg base CX0 69 fa fd ["_law_script"] (Fg.Zk2 (K w.params))) :
  PySem.W.WalkO q loose XP YP l.row.toRowW d [] (fun f vs=>PySem.call f vs) :=
 L2.Zi2 (n:=63) (k:=69) (x := "_law_script") (CX:=fun _=>CX0) (sp:=fun w=>Fg.Zk2 (K w.params)) hn (by decide) hdf ⟨rfl,by decide,by decide,rfl⟩ hY F (fun _ _ a ns hl _ hS=>⟨a,ns,rfl,hS,hl,fun _=>rfl⟩) fun _ _ _ _ _ z=>z
end K23
namespace PySem.W.Fast
def tw14080335725616472809:=0
def tw10334551025192779634:=0
def tw7538572130256160602:=0
def tw15539635080461646733:=0
def tw11388950363877278009:=0
def tw15989241062278992670:=0
def tw5278951739129505381:=0
def tw6564306118040974706:=0
def tw2971174736645421206:=0
def tw16540324159756353964:=0
def tw12746386654463203882:=0
def tw823986037696507095:=0
def tw9009863759372206406:=0
def tw2127403094649253441:=0
def tw8472426431660423946:=0
def tw12363357003830557285:=0
def tw11806022707833695599:=0
def tw3909934023011703026:=0
def tw13578179130323053855:=0
def tw17757179238153407089:=0
def tw12082562852585446962:=0
def tw18161950708988842560:=0
def tw1346208219279401816:=0
def tw17452496750471837761:=0
def tw11560040119546062787:=0
def tw15262539499041092183:=0
def tw5205720829589495270:=0
def tw10793755620399606900:=0
def tw15444509234316710788:=0
def tw4145428137982887918:=0
def tw10513794401733978119:=0
def tw13346621995686466645:=0
def tw17204258038230018016:=0
def tw1976467777218530127:=0
def tw10288618332728453569:=0
def tw1842831601414660523:=0
def tw14393590136674386700:=0
def tw2492100456873092082:=0
def tw11665358163902938305:=0
def tw11757060088063925726:=0
def tw15588561318851368515:=0
def tw10805012136132445841:=0
def tw9982278740278357516:=0
def tw6697616257895630218:=0
def tw14798275904078331563:=0
def tw3111626458516466566:=0
def tw2950525398743456399:=0
def tw12673310427976176455:=0
def tw13078610706999632897:=0
def tw1598255450993639838:=0
def tw10632405997467552478:=0
def tw15378000797658072252:=0
def tw2669740439920138854:=0
def tw1687973877191228895:=0
def tw1441698490632603009:=0
def tw2227003659027257651:=0
def tw13318269333182371055:=0
def tw7991755674788786534:=0
def tw1295867954310671970:=0
def tw15687468388337493371:=0
def tw7350327019094394164:=0
def tw8192136859270607102:=0
def tw1410058692068008665:=0
def tw17749052449738043216:=0
def tw69597549138022657:=0
def tw18425650661942018626:=0
def tw1283344262818718798:=0
def tw5560253146235865831:=0
def tw8241520301682961285:=0
def tw2094906417893200046:=0
def tw10739571782239239292:=0
def tw1411602829175893065:=0
def tw9373135708819241926:=0
def tw7845090388154782326:=0
def tw13892892077370631330:=0
def tw4433170357003894949:=0
def tw12971637795733161492:=0
def tw6745338167874321674:=0
def tw14809874718161084607:=0
def tw16087987295371295966:=0
def tw16452446203249352807:=0
def tw12995893627438602703:=0
def tw6465127426742198225:=0
def tw3340992971565229743:=0
def tw12234813603052293882:=0
def tw12337958603992602305:=0
def tw17362997309791889567:=0
def tw10274801919542440256:=0
def tw1791193289150401116:=0
def tw350053780148777511:=0
def tw5523511004802824405:=0
def tw712622911793526210:=0
def tw3567921160294627060:=0
def tw9038617402171032031:=0
def tw3479553022238171426:=0
def tw12867351052512491687:=0
def tw5276276344243090396:=0
def tw1501618836831096272:=0
def tw3147980088009544256:=0
def tw4898048080551205759:=0
def tw10210317250653800493:=0
def tw7546508661425571786:=0
def tw7297915975589209165:=0
def tw12004282025567094565:=0
def tw6130996811014182050:=0
def tw18144643515813874730:=0
def tw14824731614119960058:=0
def tw10616274179798432878:=0
def tw10522591481121117914:=0
def tw2572557509922679207:=0
def tw6805111098278491319:=0
def tw10115902712102534624:=0
def tw14268130059067666460:=0
def tw8392469732807162639:=0
def tw4024586248855401907:=0
def tw3858229945047927660:=0
def tw4196745297585527247:=0
def tw17614285092614863018:=0
def tw6104205963103633374:=0
def tw3592284713266580113:=0
def tw15792552308599277740:=0
def tw17738687062844926067:=0
def tw6036697694149712120:=0
def tw5150103098590865271:=0
def tw18432023905166059977:=0
def tw9543489156175403011:=0
def tw10072381052611267333:=0
def tw9907799806067260496:=0
def tw13019040834857906865:=0
def tw14124031468527484148:=0
def tw3020364994273309913:=0
def tw6573256087236982253:=0
def tw11608131802423697313:=0
def tw894165089833442027:=0
def tw16433015532683719330:=0
def tw5205965746699032249:=0
def tw16733444998287852475:=0
def tw9551753169891523600:=0
def tw17610657917498859060:=0
def tw2223102130836036656:=0
def tw1419387519454522379:=0
def tw12473830395286031323:=0
def tw7497934915009814990:=0
def tw926014309384608894:=0
def tw6764115915220324369:=0
def tw3017961139944340957:=0
def tw11342560999472914140:=0
def tw8881855819645814876:=0
def tw15451535426592895689:=0
def tw3984742626080913874:=0
def tw17771297477085876749:=0
def tw13617306672261951377:=0
def tw548904268495081882:=0
def tw10853060683557045465:=0
def tw1635641444609263210:=0
def tw17221866474161774459:=0
def tw5720443818731229615:=0
def tw16640565900761029243:=0
def tw9443460956397375357:=0
def tw5659443031062262069:=0
def tw3015006421148122684:=0
def tw13669262298779467444:=0
def tw9962179889619391868:=0
def tw15279090544996680105:=0
def tw9703133661048185750:=0
def tw10694839792395770623:=0
def tw5203511599083376850:=0
def tw862799697865773699:=0
def tw11324260609763985301:=0
def tw7757062169364618449:=0
def tw5581318423024840816:=0
def tw4109342776278430216:=0
def tw8325068626028937609:=0
def tw13728959960591001207:=0
def tw14479430389090636721:=0
def tw15486525208599643845:=0
def tw17365042267737425528:=0
def tw16893873983639547519:=0
def tw18221630350484132760:=0
def tw4085780200829244646:=0
def tw6051854327105663016:=0
def tw14858660328229787035:=0
def tw11931550055860788205:=0
def tw9195014270066841285:=0
def tw10601641546135843842:=0
def tw6939322243983612066:=0
def tw7994901427232739388:=0
def tw1064412546206373526:=0
def tw13989456585718212077:=0
def tw304798501834506644:=0
def tw13055120124983779661:=0
def tw5765063869592351900:=0
def tw15267813882507425451:=0
def tw2921457848927661959:=0
def tw17438718046511170471:=0
def tw3225700107816565072:=0
def tw4050687315596706382:=0
def tw6651472073269237317:=0
def tw13108471719561535157:=0
def tw8132637719304844710:=0
def tw10648035240839771310:=0
def tw9508853389740432702:=0
def tw5041247327019613712:=0
def tw1857612773860954119:=0
def tw17785602232299680440:=0
def tw3687477090900496292:=0
def tw9268741136419268174:=0
def tw1971626154580756292:=0
def tw17166507370164523100:=0
def tw6127328714190699050:=0
def tw8428552276139180135:=0
def tw4110587848096278689:=0
def tw4579712924003156411:=0
def tw10420264650589235975:=0
def tw1668947994137029568:=0
def tw3709267160498287068:=0
def tw9425149815593580775:=0
def tw4604594817892467428:=0
def tw7869674415079442216:=0
def tw4637777969786800344:=0
def tw16710699627842870151:=0
def tw13410279424868871732:=0
def tw14890419036455466277:=0
def tw5327090179951983128:=0
def tw8679862065636953390:=0
def tw3561394482371813286:=0
def tw5729935468942462802:=0
def tw16975953951659140232:=0
def tw16065440749193082430:=0
def tw10633041216636150597:=0
def tw13620555571623497726:=0
def tw6794308254202936021:=0
def tw13374437455213618023:=0
def tw16387589390296732541:=0
def tw8465244151072459041:=0
def tw16446864007061195934:=0
def tw7467220399875446594:=0
def tw16069084865048674331:=0
def tw2894717001766730369:=0
def tw2000128626217708374:=0
def tw6557016371798123041:=0
def tw10124638868417196085:=0
def tw4441545526002134619:=0
def tw6507740189565397446:=0
def tw9801185033641564306:=0
def tw1036553389585212620:=0
def tw10847500477487239107:=0
def tw7517928555320812377:=0
def tw17792365948901773086:=0
def tw414825101507654055:=0
def tw16146179525541016413:=0
def tw15378560317402655673:=0
def tw18178607074456229904:=0
def tw3999723784791553928:=0
def tw3633152533593350390:=0
def tw12415284478202757560:=0
def tw5361833103569743309:=0
def tw6590504847380219106:=0
def tw7828066543650280603:=0
def tw14816137687916063188:=0
def tw5328761409295638188:=0
def tw5983224511061763738:=0
def tw9351515071149300814:=0
def tw6024193548910100127:=0
def tw5201899460696527367:=0
def tw10894073210787258119:=0
def tw5206528992439289197:=0
def tw852684645821679641:=0
def tw15858360207455663449:=0
def tw13547109896847908263:=0
def tw6297784661219141635:=0
def tw10039808208577485097:=0
def tw13199394181070024498:=0
def tw13963896521203483900:=0
def tw5890714839433316046:=0
def tw16210697224345011878:=0
def tw15725039292762912838:=0
def tw17855722201611930817:=0
def tw2161240476796806902:=0
def tw8273198999873923585:=0
def tw6971411324689354429:=0
def tw14869530068757537462:=0
def tw5687701712049824592:=0
def tw425872555661799695:=0
def tw10746794682220006596:=0
def tw9617788158056777986:=0
def tw12835848816986082715:=0
def tw14116608739126053941:=0
def tw16342677667389131750:=0
def tw4419033037831841436:=0
def tw8130983363949719451:=0
def tw14044905322947778645:=0
def tw14893176294091195491:=0
def tw3258696568006758834:=0
def tw308715993661644274:=0
def tw11413366410572143447:=0
def tw281518295307725006:=0
def tw3504736905270140581:=0
def tw18077856676065050156:=0
def tw12035478199711242369:=0
def tw10906795200394645022:=0
def tw2632772791171100758:=0
def tw13266648792993817627:=0
def tw8275412406057511365:=0
def tw10630049606155474646:=0
def tw958350125540333462:=0
def tw8884952196161364801:=0
def tw7164885124037709268:=0
def tw18158842705265295117:=0
def tw11824049763336536117:=0
def tw4649131396761993055:=0
def tw2596115530696988343:=0
def tw5818141803452048734:=0
def tw13432064967169001191:=0
def tw13393097450841622916:=0
def tw8258298020270659606:=0
def tw6569334960722882347:=0
def tw7853536685580047897:=0
def tw13883216430647332326:=0
def tw16808195145301848810:=0
def tw6065953721116804452:=0
def tw15180727683046801457:=0
def tw16587623959641345047:=0
def tw15996896513348514492:=0
def tw9779824843335787471:=0
def tw6134447654840841401:=0
def tw5134203185002867854:=0
def tw6991420129433189198:=0
def tw17544454859457799679:=0
def tw12704630486702969926:=0
def tw13381301648159039896:=0
def tw5473068287568907707:=0
def tw4907176149883753125:=0
def tw2987572443857835640:=0
def tw15788064599193271022:=0
def tw9968454201309617891:=0
def tw10482926131651847965:=0
def tw17528205103141388825:=0
def tw9983669859578315146:=0
def tw11711281120049527482:=0
def tw18190268280864601527:=0
def tw15213087242095307211:=0
def tw97314259459922147:=0
def tw16723397752548781873:=0
def tw1955946015151985692:=0
def tw7560973179468790081:=0
def tw17791049884713502458:=0
def tw9293543443788615827:=0
def tw9958679451819788984:=0
def tw9230188006082749158:=0
def tw7746703639787000859:=0
def tw13406433905507757161:=0
def tw9387357987164458113:=0
def tw8271874975876480947:=0
def tw18169646002368413238:=0
def tw2615712018449530546:=0
def tw10875933873569166256:=0
def tw12231493493932606848:=0
def tw6302132979412511717:=0
def tw4448895364181184559:=0
def tw6221369344919455857:=0
def tw13103179313314358779:=0
def tw11072310686777325074:=0
def tw8590382726141324527:=0
def tw9315724992385017799:=0
def tw17647497390775809816:=0
def tw559124454419851548:=0
def tw5382940443832340109:=0
def tw17292791805193166912:=0
def tw14131048740243926703:=0
def tw973635861785936249:=0
def tw14240405856489075655:=0
def tw15491751813275999535:=0
def tw605590876623194642:=0
def tw9358820889087757822:=0
def tw2933439785071996042:=0
def tw6397244476080170375:=0
def tw221145483785213871:=0
def tw11163660522702472639:=0
def tw13255383912626902551:=0
def tw108937279276951504:=0
def tw15607788422878207588:=0
def tw11124652924780303303:=0
def tw1291903789780429738:=0
def tw621557491546411125:=0
def tw5045634209152544498:=0
def tw5283690969263394778:=0
def tw15075445096621897664:=0
def tw11615613436846355424:=0
def tw12661004934869782240:=0
def tw8168998949758650753:=0
def tw7424833050255976199:=0
def tw15960632827069569195:=0
def tw16754241627389000947:=0
def tw5654334416605029979:=0
def tw1651738636742085858:=0
def tw8005417937862922057:=0
def tw6280118294999497231:=0
def tw2920958482350795373:=0
def tw10375743668684355329:=0
def tw7519359034159057344:=0
def tw10837036047452560144:=0
def tw6281949196172126330:=0
def tw16600992569446960488:=0
def tw10105079513927173533:=0
def tw15765536761028475547:=0
def tw10568252687559624920:=0
def tw4997233541288494719:=0
def tw4559518809633070053:=0
def tw11835657091790908654:=0
def tw10780154804343403840:=0
def tw16183933683320284150:=0
def tw12999674273573671406:=0
def tw1645661926673143991:=0
end PySem.W.Fast
open PySem PySem.W PyProof.Rows
set_option maxRecDepth 100000 in
set_option maxHeartbeats 0 in
theorem PySem.Challenge.cw_formgrove_k23_books_at_their_bounds_holds : PySem.Challenge.rw_formgrove_k23_books_at_their_bounds.Holds := by
 w_on;o_law;k_head;(case hw=>w_witness2)
 k_fill
 refine K23.walk (l:=PySem.Challenge.rw_formgrove_k23_books_at_their_bounds) rfl rfl (fun w h Y=>PySem.W.kIn_of Y) ?F
 case F =>
  intro w mg fa h KX G hmg;refine' K23.ZnX KX G hmg ?xn_GroveError ?xn_NoBook ?xn_TwiceNamed ?xn_NoName ?xn_Ring ?xg1 ?xg2 ?xg3 ?xg4 ?xb1 ?xb2 ?xb3 ?xb4 ?xb5 ?d1_GroveError ?d2_GroveError ?d3_GroveError ?d1_NoBook ?d2_NoBook ?d3_NoBook ?d1_TwiceNamed ?d2_TwiceNamed ?d3_TwiceNamed ?d1_NoName ?d2_NoName ?d3_NoName ?d1_Ring ?d2_Ring ?d3_Ring ?xl_NoBook ?xc_NoBook ?xt_NoBook ?xk_NoBook ?xv_NoBook ?xe_NoBook ?xi_NoBook ?m_NoBook_GroveError ?m_NoBook_NoBook ?m_NoBook_TwiceNamed ?m_NoBook_NoName ?m_NoBook_Ring ?xl_TwiceNamed ?xc_TwiceNamed ?xt_TwiceNamed ?xk_TwiceNamed ?xv_TwiceNamed ?xe_TwiceNamed ?f1_TwiceNamed_name ?f2_TwiceNamed_name ?f3_TwiceNamed_name ?f4_TwiceNamed_name ?f5_TwiceNamed_name ?m_TwiceNamed_GroveError ?m_TwiceNamed_NoBook ?m_TwiceNamed_TwiceNamed ?m_TwiceNamed_NoName ?m_TwiceNamed_Ring ?xl_NoName ?xc_NoName ?xt_NoName ?xk_NoName ?xv_NoName ?xe_NoName ?f1_NoName_name ?f2_NoName_name ?f3_NoName_name ?f4_NoName_name ?f5_NoName_name ?m_NoName_GroveError ?m_NoName_NoBook ?m_NoName_TwiceNamed ?m_NoName_NoName ?m_NoName_Ring ?xl_Ring ?xc_Ring ?xt_Ring ?xk_Ring ?xv_Ring ?xe_Ring ?f1_Ring_names ?f2_Ring_names ?f3_Ring_names ?f4_Ring_names ?f5_Ring_names ?m_Ring_GroveError ?m_Ring_NoBook ?m_Ring_TwiceNamed ?m_Ring_NoName ?m_Ring_Ring ?cn1 ?cp1 ?ch1 ?cq1 ?cs1 ?cm1 ?ck1 ?cx1_0 ?cx1_1 ?a1 ?l1 ?c1 ?k1 ?a2 ?l2 ?c2 ?k2 ?a3 ?l3 ?c3 ?k3 ?a4 ?l4 ?c4 ?k4 ?a5 ?l5 ?c5 ?k5 ?a6 ?l6 ?c6 ?k6 ?a7 ?l7 ?c7 ?k7 ?a8 ?l8 ?c8 ?k8 ?a9 ?l9 ?c9 ?k9 ?a10 ?l10 ?c10 ?k10 ?n10 ?a11 ?l11 ?c11 ?k11 ?n11 ?a12 ?l12 ?c12 ?k12 ?n12 ?a13 ?l13 ?c13 ?k13 ?n13 ?a14 ?l14 ?c14 ?k14 ?n14 ?a15 ?l15 ?c15 ?k15 ?n15 ?a16 ?l16 ?c16 ?k16 ?n16 ?a17 ?l17 ?c17 ?k17 ?a18 ?l18 ?c18 ?k18 ?n18 ?a19 ?l19 ?c19 ?k19 ?n19 ?a20 ?l20 ?c20 ?k20 ?n20 ?a21 ?l21 ?c21 ?k21 ?n21 ?a22 ?l22 ?c22 ?k22 ?n22 ?a23 ?l23 ?c23 ?k23 ?a24 ?l24 ?c24 ?k24 ?a25 ?l25 ?c25 ?k25 ?a26 ?l26 ?c26 ?k26 ?a27 ?l27 ?c27 ?k27 ?a28 ?l28 ?c28 ?k28 ?a29 ?l29 ?c29 ?k29 ?a30 ?l30 ?c30 ?k30 ?n30 ?a31 ?l31 ?c31 ?k31 ?a32 ?l32 ?c32 ?k32 ?a33 ?l33 ?c33 ?k33 ?n33 ?a34 ?l34 ?c34 ?k34 ?a35 ?l35 ?c35 ?k35 ?a36 ?l36 ?c36 ?k36 ?a37 ?l37 ?c37 ?k37 ?n37 ?a38 ?l38 ?c38 ?k38 ?a39 ?l39 ?c39 ?k39 ?a40 ?l40 ?c40 ?k40 ?a41 ?l41 ?c41 ?k41 ?a42 ?l42 ?c42 ?k42 ?a43 ?l43 ?c43 ?k43 ?y0 ?y1 ?y2 ?y3 ?y4 ?yNIL ?yMARKS ?yBRACED ?lkM ?lkB ?lk0 ?lk1 ?lk2 ?lk3 ?lk4 ?lk5 ?ysm ?z0 ?z1 ?z2 ?z3 ?z4 ?z5 ?z6 ?z7 ?z8 ?z9 ?z10 ?z11
  (case xn_GroveError=>k_is)
  (case xn_NoBook=>k_is)
  (case xn_TwiceNamed=>k_is)
  (case xn_NoName=>k_is)
  (case xn_Ring=>k_is)
  (case xg1=>k_is)
  (case xg2=>k_is)
  (case xg3=>rfl)
  (case xg4=>k_is)
  (case xb1=>k_is)
  (case xb2=>k_is)
  (case xb3=>k_is)
  (case xb4=>k_is)
  (case xb5=>k_is)
  (case d1_GroveError=>k_is)
  (case d2_GroveError=>k_is)
  (case d3_GroveError=>k_is)
  (case d1_NoBook=>k_is)
  (case d2_NoBook=>k_is)
  (case d3_NoBook=>k_is)
  (case d1_TwiceNamed=>k_is)
  (case d2_TwiceNamed=>k_is)
  (case d3_TwiceNamed=>k_is)
  (case d1_NoName=>k_is)
  (case d2_NoName=>k_is)
  (case d3_NoName=>k_is)
  (case d1_Ring=>k_is)
  (case d2_Ring=>k_is)
  (case d3_Ring=>k_is)
  (case xl_NoBook=>k_is)
  (case xc_NoBook=>k_is)
  (case xt_NoBook=>k_is)
  (case xk_NoBook=>k_is)
  (case xv_NoBook=>k_is)
  (case xe_NoBook=>decide)
  (case xi_NoBook=>k_is)
  (case m_NoBook_GroveError=>k_is)
  (case m_NoBook_NoBook=>k_is)
  (case m_NoBook_TwiceNamed=>k_is)
  (case m_NoBook_NoName=>k_is)
  (case m_NoBook_Ring=>k_is)
  (case xl_TwiceNamed=>k_is)
  (case xc_TwiceNamed=>k_is)
  (case xt_TwiceNamed=>k_is)
  (case xk_TwiceNamed=>k_is)
  (case xv_TwiceNamed=>k_is)
  (case xe_TwiceNamed=>decide)
  (case f1_TwiceNamed_name=>k_is)
  (case f2_TwiceNamed_name=>k_is)
  (case f3_TwiceNamed_name=>k_is)
  (case f4_TwiceNamed_name=>k_is)
  (case f5_TwiceNamed_name=>k_is)
  (case m_TwiceNamed_GroveError=>k_is)
  (case m_TwiceNamed_NoBook=>k_is)
  (case m_TwiceNamed_TwiceNamed=>k_is)
  (case m_TwiceNamed_NoName=>k_is)
  (case m_TwiceNamed_Ring=>k_is)
  (case xl_NoName=>k_is)
  (case xc_NoName=>k_is)
  (case xt_NoName=>k_is)
  (case xk_NoName=>k_is)
  (case xv_NoName=>k_is)
  (case xe_NoName=>decide)
  (case f1_NoName_name=>k_is)
  (case f2_NoName_name=>k_is)
  (case f3_NoName_name=>k_is)
  (case f4_NoName_name=>k_is)
  (case f5_NoName_name=>k_is)
  (case m_NoName_GroveError=>k_is)
  (case m_NoName_NoBook=>k_is)
  (case m_NoName_TwiceNamed=>k_is)
  (case m_NoName_NoName=>k_is)
  (case m_NoName_Ring=>k_is)
  (case xl_Ring=>k_is)
  (case xc_Ring=>k_is)
  (case xt_Ring=>k_is)
  (case xk_Ring=>k_is)
  (case xv_Ring=>k_is)
  (case xe_Ring=>decide)
  (case f1_Ring_names=>k_is)
  (case f2_Ring_names=>k_is)
  (case f3_Ring_names=>k_is)
  (case f4_Ring_names=>k_is)
  (case f5_Ring_names=>k_is)
  (case m_Ring_GroveError=>k_is)
  (case m_Ring_NoBook=>k_is)
  (case m_Ring_TwiceNamed=>k_is)
  (case m_Ring_NoName=>k_is)
  (case m_Ring_Ring=>k_is)
  (case cn1=>k_is)
  (case cp1=>k_is)
  (case ch1=>k_is)
  (case cq1=>k_is)
  (case cs1=>k_is)
  (case cm1=>k_is)
  (case ck1=>k_is)
  (case cx1_0=>k_is)
  (case cx1_1=>k_is)
  (case a1=>k_is)
  (case l1=>k_is)
  (case c1=>k_is)
  (case k1=>k_is)
  (case a2=>k_is)
  (case l2=>k_is)
  (case c2=>k_is)
  (case k2=>k_is)
  (case a3=>k_is)
  (case l3=>k_is)
  (case c3=>k_is)
  (case k3=>k_is)
  (case a4=>k_is)
  (case l4=>k_is)
  (case c4=>k_is)
  (case k4=>k_is)
  (case a5=>k_is)
  (case l5=>k_is)
  (case c5=>k_is)
  (case k5=>k_is)
  (case a6=>k_is)
  (case l6=>k_is)
  (case c6=>k_is)
  (case k6=>k_is)
  (case a7=>k_is)
  (case l7=>k_is)
  (case c7=>k_is)
  (case k7=>k_is)
  (case a8=>k_is)
  (case l8=>k_is)
  (case c8=>k_is)
  (case k8=>k_is)
  (case a9=>k_is)
  (case l9=>k_is)
  (case c9=>k_is)
  (case k9=>k_is)
  (case a10=>k_is)
  (case l10=>k_is)
  (case c10=>k_is)
  (case k10=>k_is)
  (case n10=>k_is)
  (case a11=>k_is)
  (case l11=>k_is)
  (case c11=>k_is)
  (case k11=>k_is)
  (case n11=>k_is)
  (case a12=>k_is)
  (case l12=>k_is)
  (case c12=>k_is)
  (case k12=>k_is)
  (case n12=>k_is)
  (case a13=>k_is)
  (case l13=>k_is)
  (case c13=>k_is)
  (case k13=>k_is)
  (case n13=>k_is)
  (case a14=>k_is)
  (case l14=>k_is)
  (case c14=>k_is)
  (case k14=>k_is)
  (case n14=>k_is)
  (case a15=>k_is)
  (case l15=>k_is)
  (case c15=>k_is)
  (case k15=>k_is)
  (case n15=>k_is)
  (case a16=>k_is)
  (case l16=>k_is)
  (case c16=>k_is)
  (case k16=>k_is)
  (case n16=>k_is)
  (case a17=>k_is)
  (case l17=>k_is)
  (case c17=>k_is)
  (case k17=>k_is)
  (case a18=>k_is)
  (case l18=>k_is)
  (case c18=>k_is)
  (case k18=>k_is)
  (case n18=>k_is)
  (case a19=>k_is)
  (case l19=>k_is)
  (case c19=>k_is)
  (case k19=>k_is)
  (case n19=>k_is)
  (case a20=>k_is)
  (case l20=>k_is)
  (case c20=>k_is)
  (case k20=>k_is)
  (case n20=>k_is)
  (case a21=>k_is)
  (case l21=>k_is)
  (case c21=>k_is)
  (case k21=>k_is)
  (case n21=>k_is)
  (case a22=>k_is)
  (case l22=>k_is)
  (case c22=>k_is)
  (case k22=>k_is)
  (case n22=>k_is)
  (case a23=>k_is)
  (case l23=>k_is)
  (case c23=>k_is)
  (case k23=>k_is)
  (case a24=>k_is)
  (case l24=>k_is)
  (case c24=>k_is)
  (case k24=>k_is)
  (case a25=>k_is)
  (case l25=>k_is)
  (case c25=>k_is)
  (case k25=>k_is)
  (case a26=>k_is)
  (case l26=>k_is)
  (case c26=>k_is)
  (case k26=>k_is)
  (case a27=>k_is)
  (case l27=>k_is)
  (case c27=>k_is)
  (case k27=>k_is)
  (case a28=>k_is)
  (case l28=>k_is)
  (case c28=>k_is)
  (case k28=>k_is)
  (case a29=>k_is)
  (case l29=>k_is)
  (case c29=>k_is)
  (case k29=>k_is)
  (case a30=>k_is)
  (case l30=>k_is)
  (case c30=>k_is)
  (case k30=>k_is)
  (case n30=>k_is)
  (case a31=>k_is)
  (case l31=>k_is)
  (case c31=>k_is)
  (case k31=>k_is)
  (case a32=>k_is)
  (case l32=>k_is)
  (case c32=>k_is)
  (case k32=>k_is)
  (case a33=>k_is)
  (case l33=>k_is)
  (case c33=>k_is)
  (case k33=>k_is)
  (case n33=>k_is)
  (case a34=>k_is)
  (case l34=>k_is)
  (case c34=>k_is)
  (case k34=>k_is)
  (case a35=>k_is)
  (case l35=>k_is)
  (case c35=>k_is)
  (case k35=>k_is)
  (case a36=>k_is)
  (case l36=>k_is)
  (case c36=>k_is)
  (case k36=>k_is)
  (case a37=>k_is)
  (case l37=>k_is)
  (case c37=>k_is)
  (case k37=>k_is)
  (case n37=>k_is)
  (case a38=>k_is)
  (case l38=>k_is)
  (case c38=>k_is)
  (case k38=>k_is)
  (case a39=>k_is)
  (case l39=>k_is)
  (case c39=>k_is)
  (case k39=>k_is)
  (case a40=>k_is)
  (case l40=>k_is)
  (case c40=>k_is)
  (case k40=>k_is)
  (case a41=>k_is)
  (case l41=>k_is)
  (case c41=>k_is)
  (case k41=>k_is)
  (case a42=>k_is)
  (case l42=>k_is)
  (case c42=>k_is)
  (case k42=>k_is)
  (case a43=>k_is)
  (case l43=>k_is)
  (case c43=>k_is)
  (case k43=>k_is)
  (case y0=>k_is)
  (case y1=>k_is)
  (case y2=>k_is)
  (case y3=>k_is)
  (case y4=>k_is)
  (case yNIL=>k_is)
  (case yMARKS=>k_is)
  (case yBRACED=>k_is)
  (case lkM=>k_is)
  (case lkB=>k_is)
  (case lk0=>k_is)
  (case lk1=>k_is)
  (case lk2=>k_is)
  (case lk3=>k_is)
  (case lk4=>k_is)
  (case lk5=>k_is)
  (case ysm=>first|rfl|decide|kernel_rfl)
  (case z0=>k_is)
  (case z1=>k_is)
  (case z2=>k_is)
  (case z3=>k_is)
  (case z4=>k_is)
  (case z5=>k_is)
  (case z6=>k_is)
  (case z7=>k_is)
  (case z8=>k_is)
  (case z9=>k_is)
  (case z10=>k_is)
  (case z11=>k_is)
