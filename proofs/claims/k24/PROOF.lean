import PyProof.Rows.All
import Wide.All
import OpenK.AllK
import Wide.FinOn
import Lean
import PyProof.EqAt
import PyProof.EqKinds
import PyProof.TupleCall
import PySem.Challenge.RW_formgrove_k24_names_refused
namespace FgM
end FgM
set_option Elab.async false
set_option linter.all false
set_option maxRecDepth 100000
namespace L2
open PySem PySem.Spec PyProof.Rows
abbrev Key:=Sum Int Str
def Zgo:Key->Value->Bool
 | .inl k,v=>Value.isInt k v
 | .inr x,v=>Value.isStrOf x v
def ZmP(w:World):Key->Int
 | .inl k=>hashInt k
 | .inr x=>hashStr w x
theorem Zaq:∀{k:Key}{v:Value},Zgo k v=true->(∃i t,k=Sum.inl i/\v=Value.int i t)\/(∃x t,k=Sum.inr x/\v=Value.str x t)
 | .inl i,v,h=>by
  obtain⟨t,e⟩:=Value.isInt_shape (k:=i) (v:=v) h;exact .inl ⟨i,t,rfl,e⟩
 | .inr x,v,h=>by
  obtain⟨t,e⟩:=Value.isStrOf_shape (x:=x) (v:=v) h;exact .inr ⟨x,t,rfl,e⟩
theorem ZiH(i:Int)(t:Tok):Zgo (.inl i) (.int i t)=true:=by simp[Zgo,Value.isInt]
theorem ZhU(x:Str)(t:Tok):Zgo (.inr x) (.str x t)=true:=by simp[Zgo,Value.isStrOf]
theorem Zk9(a b:Int):decide ((Sum.inl a:Key)=Sum.inl b)=(a == b):=by
 by_cases e:a=b
 ·subst e;simp
 ·have h : ¬ (Sum.inl a:Key)=Sum.inl b:=fun q=>e (Sum.inl.inj q);rw[decide_eq_false h];exact(beq_eq_false_iff_ne.mpr e).symm
theorem ZlD(a b:Str):decide ((Sum.inr a:Key)=Sum.inr b)=decide (a=b):=by
 by_cases e:a=b
 ·subst e;simp
 ·have h : ¬ (Sum.inr a:Key)=Sum.inr b:=fun q=>e (Sum.inr.inj q);rw[decide_eq_false h,decide_eq_false e]
theorem Zlw(a:Int)(b:Str):decide ((Sum.inl a:Key)=Sum.inr b)=false:=decide_eq_false (fun q=>nomatch q)
theorem Zlt(a:Str)(b:Int):decide ((Sum.inr a:Key)=Sum.inl b)=false:=decide_eq_false (fun q=>nomatch q)
def ZaB(prog:Program)(w:World):PySem.KeyKind prog w Key where
 is:=Zgo
 hash:=ZmP w
 inj:=fun v a b ha hb=>by
  rcases Zaq ha with⟨i,t,rfl,rfl⟩|⟨x,t,rfl,rfl⟩
  ·rcases Zaq hb with⟨j,u,rfl,e⟩|⟨y,u,rfl,e⟩
   ·injection e with e1 _;rw[e1]
   ·exact nomatch e
  ·rcases Zaq hb with⟨j,u,rfl,e⟩|⟨y,u,rfl,e⟩
   ·exact nomatch e
   ·injection e with e1 _;rw[e1]
 byValue:=fun k v h=>by
  rcases Zaq h with⟨i,t,rfl,rfl⟩|⟨x,t,rfl,rfl⟩ <;> rfl
 pyHash:=fun hv h=>by
  rcases Zaq hv with⟨i,t,rfl,rfl⟩|⟨x,t,rfl,rfl⟩
  ·exact wpAny_pyHash_int h
  ·exact wpAny_pyHash_str h
 eqBool:=fun hu hv h=>by
  rcases Zaq hu with⟨i,t,rfl,rfl⟩|⟨x,t,rfl,rfl⟩
  ·rcases Zaq hv with⟨j,u,rfl,rfl⟩|⟨y,u,rfl,rfl⟩
   ·rw[Zk9] at h;exact wpAny_eqBool_int h
   ·rw[Zlw] at h;exact SeqAt.EqAt.int_str i t y u _ _ _ _ h
  ·rcases Zaq hv with⟨j,u,rfl,rfl⟩|⟨y,u,rfl,rfl⟩
   ·rw[Zlt] at h;exact SeqAt.EqAt.str_int x t j u _ _ _ _ h
   ·rw[ZlD] at h;exact wpAny_eqBool_str h
 «strs» := fun k x t v h=>by
  rcases Zaq h with⟨i,u,rfl,e⟩|⟨y,u,rfl,e⟩
  ·exact nomatch e
  ·injection e with e1 _;subst e1;cases v <;> rfl
theorem ZfV(prog:Program)(w:World)(i:Int)(t:Tok):(ZaB prog w).is (.inl i) (.int i t)=true:=ZiH i t
theorem ZfH(prog:Program)(w:World)(x:Str)(t:Tok):(ZaB prog w).is (.inr x) (.str x t)=true:=ZhU x t
inductive V where
 | non|bl (b:Bool)|int (i:Int)|str (x:Str)|byt (b:Array UInt8)|flt (b:UInt64)|ref (a:Addr)|ty (n:String)
 deriving DecidableEq
def RelV:V->Value->Prop
 | .non,u=>u=Value.none
 | .bl b,u=>u=Value.bool b
 | .int i,u=>∃t,u=Value.int i t
 | .str x,u=>∃t,u=Value.str x t
 | .byt b,u=>∃t,u=Value.bytes b t
 | .flt b,u=>∃t,u=Value.float b t
 | .ref a,u=>u=Value.ref a
 | .ty n,u=>u=Value.type n
abbrev Vals:List V->List Value->Prop:=Paired RelV
theorem Vals.length{xs:List V}{us:List Value}(r:Vals xs us):xs.length=us.length:=Paired.length r
theorem Vals.get:∀{xs:List V}{us:List Value}{i:Nat}{x:V},Vals xs us->xs[i]?= some x->∃u,us[i]?= some u/\RelV x u
 | _,_,_,_,.nil,e=>by simp at e
 | _,_,0,_,.cons r _,e=>by simp at e;subst e;exact⟨_,rfl,r⟩
 | _,_,i+1,x,.cons _ t,e=>by
  obtain⟨u,h1,h2⟩:=Vals.get (i:=i) (x:=x) t (by simpa using e);exact⟨u,by simpa using h1,h2⟩
theorem Vals.set{x:V}{u:Value}(r:RelV x u):∀{xs:List V}{us:List Value}(i:Nat),Vals xs us->Vals (xs.set i x) (us.set i u)
 | _,_,_,.nil=>.nil
 | _,_,0,.cons _ t=>.cons r t
 | _,_,i+1,.cons q t=>.cons q (Vals.set r i t)
theorem Vals.append:∀{xs ys:List V}{us ws:List Value},Vals xs us->Vals ys ws->Vals (xs++ys) (us++ws)
 | _,_,_,_,.nil,s=>s
 | _,_,_,_,.cons r t,s=>.cons r (Vals.append t s)
theorem Vals.take:∀{xs:List V}{us:List Value}(n:Nat),Vals xs us->Vals (xs.take n) (us.take n)
 | _,_,0,_=>.nil
 | _,_,_+1,.nil=>.nil
 | _,_,n+1,.cons r t=>.cons r (Vals.take n t)
theorem Vals.drop:∀{xs:List V}{us:List Value}(n:Nat),Vals xs us->Vals (xs.drop n) (us.drop n)
 | _,_,0,r=>r
 | _,_,_+1,.nil=>.nil
 | _,_,n+1,.cons _ t=>Vals.drop n t
def Ze2:Option V->Option Value->Prop
 | some v,some u=>RelV v u
 | none,none=>True
 | _,_=>False
def KV{κ : Type}:List (κ × V)->List (κ × Value)->Prop:=Paired fun(p : κ × V)(q : κ × Value)=>p.1=q.1/\RelV p.2 q.2
def kV:Key->V
 | .inl i=>.int i
 | .inr x=>.str x
inductive HO where
 | lst (xs:List V)
 | tup (xs:List V)
 | dK (kvs:List (Key×V))|dT (kvs:List (List Key×V))
 | set (S:Int->Bool) (n:Nat)
 | ins (C dx:Addr) (fs:List (Str×V))
 | own (x:Addr)
 | xd (fs:List (Str×V))
 | met (f x:Addr)
 | rng (lo hi:Int)
 | frz (o:Obj) (u:HO)
 | tbl (ps:Array Value)
 | ext (φ : Heap->Prop)
abbrev Hp:=Addr->Option HO
def upd(H:Hp)(a:Addr)(o:HO):Hp:=fun b=>if b=a then some o else H b
theorem Zb{H:Hp}{a:Addr}{o:HO}:upd H a o a=some o:=by unfold upd;rw[if_pos rfl]
theorem Zi{H:Hp}{a b:Addr}{o:HO}(h:b≠a):upd H a o b=H b:=by unfold upd;rw[if_neg h]
theorem ZfR{H:Hp}{a:Addr}{o u:HO}:upd (upd H a o) a u=upd H a u:=by
 funext b;unfold upd;split <;> rfl
theorem Zl0{H:Hp}{a b:Addr}{o u:HO}(h:H a=some o)(h':H b=some u)(d:o≠u):a≠b:=by
 intro e;subst e;rw[h] at h';exact d (Option.some.inj h')
theorem Zm{H:Hp}{a b:Addr}{o:HO}(h:H a=some o)(h':H b=none):a≠b:=by
 intro e;subst e;rw[h] at h';cases h'
section
variable(P:Program)(w:World)
def Zar(H:Hp)(h:Heap)(a:Addr):HO->Prop
 | .lst xs=>xs.length<=sizeLine/\∃(its:List Value)(n:Nat),Vals xs its/\h.get? a=some { cls:=.type "list",data:=.seq its.toArray n }
 | .tup xs=>xs.length<=sizeLine/\∃its:List Value,Vals xs its/\IsTup h a its.toArray
 | .dK kvs=>kvs.length<=sizeLine/\(a == sysModules)=false/\∃vs,KV kvs vs/\h.DictOf (ZaB P w) a vs
 | .dT kvs=>kvs.length<=sizeLine/\(a == sysModules)=false/\∃xs:List (List Key×Addr×Value),
   Paired (fun(p:List Key×V)(q:List Key×Addr×Value)=>p.1=q.1/\H q.2.1=some (.tup (p.1.map kV))/\RelV p.2 q.2.2) kvs xs /\
   ∃o es ep,h.get? a=some o/\o.ExactDict/\o.data=.dict es ep/\es.toList=xs.map (entryOfKey (tupleKind (ZaB P w)))/\(xs.map (·.1)).Nodup
 | .set S n=>h.SetOf (intKind P w) a S n
 | .ins C dx fs=>H dx=some (.own a)/\fs.length<=1000/\dx≠a/\h.get? a=some (PySem.W.instObj C dx) /\
   ∃mA,h.Ns1 dx mA/\(∀f,Ze2 (fs.lookup f) (mA f))/\PySem.Within mA (fs.map (·.1))
 | .own _=>∃o,h.get? a=some o
 | .xd fs=>∃mA,h.Ns1 a mA/\∀f,Ze2 (fs.lookup f) (mA f)
 | .rng lo hi=>∃t u v,h.get? a=some { cls:=.type "range",data:=.fields #[.int lo t,.int hi u,.int 1 v] }
 | .frz o u=>h.get? a=some o/\Zar H h a u
 | .tbl ps=>h.get? a=some { cls:=.none,data:=.fields ps }
 | .met f x=>h.get? a=some (PySem.W.methodObj (.ref f) (.ref x))
 | .ext φ=>φ h/\(∃o,h.get? a=some o)/\∀h1 h2:Heap,φ h1->(∀o,h1.get? a=some o->h2.get? a=some o) -> φ h2
def HOk(H:Hp)(h:Heap):Prop := ∀a o,H a=some o->Zar P w H h a o
end
section
variable{P:Program}{w:World}{H H':Hp}{h h':Heap}{a:Addr}{o:HO}
theorem Zar.lt(x:Zar P w H h a o):a<h.objs.size:=by
 cases o with
 | lst xs=>obtain⟨_,_,_,_,e⟩:=x;exact Heap.lt_size e
 | tup xs=>obtain⟨_,_,_,p⟩:=x;exact p.lt
 | dK kvs=>obtain⟨_,_,_,_,o,_,_,e,_⟩:=x;exact Heap.lt_size e
 | dT kvs=>obtain⟨_,_,_,_,o,_,_,e,_⟩:=x;exact Heap.lt_size e
 | set S n=>obtain⟨o,_,_,_,e,_⟩:=x;exact Heap.lt_size e
 | ins C dx fs=>obtain⟨_,_,_,e,_⟩:=x;exact Heap.lt_size e
 | own y=>obtain⟨_,e⟩:=x;exact Heap.lt_size e
 | xd fs=>obtain⟨_,⟨_,_,_,e,_⟩,_⟩:=x;exact Heap.lt_size e
 | rng lo hi=>obtain⟨_,_,_,e⟩:=x;exact Heap.lt_size e
 | frz ob u=>obtain⟨e,_⟩:=x;exact Heap.lt_size e
 | tbl ps=>exact Heap.lt_size (show h.get? a=some _ from x)
 | met f y=>exact Heap.lt_size (show h.get? a=some _ from x)
 | ext φ=>obtain⟨_,⟨_,e⟩,_⟩:=x;exact Heap.lt_size e
theorem Paired.mapP{α β : Type}{F G : α -> β -> Prop}:∀{l₁ : List α}{l₂ : List β},Paired F l₁ l₂ -> (∀a b,F a b->G a b)->Paired G l₁ l₂
 | _,_,.nil,_=>.nil
 | _,_,.cons r t,f=>.cons (f _ _ r) (Paired.mapP t f)
theorem Zar.stay(x:Zar P w H h a o)(k:∀b u,(b=a\/H b=some (.own a))->h.get? b=some u->h'.get? b=some u)
  (ho:∀b,H b=some (.own a)->H' b=some (.own a)) (ht:∀b xs,H b=some (.tup xs)->H' b=some (.tup xs)):Zar P w H' h' a o:=by
 induction o with
 | lst xs=>obtain⟨z,its,n,r,e⟩:=x;exact⟨z,its,n,r,k _ _ (.inl rfl) e⟩
 | tup xs=>obtain⟨z,its,r,ob,e,c⟩:=x;exact⟨z,its,r,ob,k _ _ (.inl rfl) e,c⟩
 | dK kvs=>obtain⟨z,y,vs,r,ob,es,ep,e,c⟩:=x;exact⟨z,y,vs,r,ob,es,ep,k _ _ (.inl rfl) e,c⟩
 | dT kvs =>
  obtain⟨z,y,xs,r,ob,es,ep,e,c⟩:=x;exact⟨z,y,xs,Paired.mapP r fun p q z=>⟨z.1,ht _ _ z.2.1,z.2.2⟩,ob,es,ep,k _ _ (.inl rfl) e,c⟩
 | set S n=>obtain⟨ob,es,ep,t,e,c⟩:=x;exact⟨ob,es,ep,t,k _ _ (.inl rfl) e,c⟩
 | ins C dx fs =>
  obtain⟨d,z,ne,e,mA,⟨od,es,ep,e2,c⟩,r⟩:=x;exact⟨ho _ d,z,ne,k _ _ (.inl rfl) e,mA,⟨od,es,ep,k _ _ (.inr d) e2,c⟩,r⟩
 | own y=>obtain⟨ob,e⟩:=x;exact⟨ob,k _ _ (.inl rfl) e⟩
 | xd fs=>obtain⟨mA,⟨od,es,ep,e,c⟩,r⟩:=x;exact⟨mA,⟨od,es,ep,k _ _ (.inl rfl) e,c⟩,r⟩
 | rng lo hi=>obtain⟨t,u,v,e⟩:=x;exact⟨t,u,v,k _ _ (.inl rfl) e⟩
 | frz ob u ih=>obtain⟨e,q⟩:=x;exact⟨k _ _ (.inl rfl) e,ih q⟩
 | tbl ps =>
  have e:h.get? a=some { cls:=.none,data:=.fields ps }:=x;show h'.get? a=some { cls:=.none,data:=.fields ps };exact k a _ (.inl rfl) e
 | met f y =>
  have e:h.get? a=some (PySem.W.methodObj (.ref f) (.ref y)):=x;show h'.get? a=some (PySem.W.methodObj (.ref f) (.ref y));exact k a _ (.inl rfl) e
 | ext φ=>obtain⟨p,⟨o,e⟩,st⟩:=x;exact⟨st _ _ p fun o q=>k _ _ (.inl rfl) q,⟨o,k _ _ (.inl rfl) e⟩,st⟩
theorem HOk.lt(x:HOk P w H h)(e:H a=some o):a<h.objs.size:=(x a o e).lt
theorem HOk.fresh(x:HOk P w H h)(e:h.objs.size<=a):H a=none:=by
 cases q:H a with
 | none=>rfl
 | some u=>exact absurd (Nat.lt_of_lt_of_le (x.lt q) e) (Nat.lt_irrefl _)
theorem HOk.kept(x:HOk P w H h)(k:∀b u,h.get? b=some u->h'.get? b=some u):HOk P w H h':=fun a o e =>
 (x a o e).stay (fun b u _ q=>k b u q) (fun _ q=>q) fun _ _ q=>q
theorem HOk.laid(x:HOk P w H h)(k:∀b u,h.get? b=some u->h'.get? b=some u)(hp:h.objs.size<=a)(new:Zar P w (upd H a o) h' a o):HOk P w (upd H a o) h':=fun b u e=>by
 have hn:=x.fresh hp;by_cases hb:b=a
 ·subst hb;rw[Zb] at e;cases e;exact new
 ·rw[Zi hb] at e;exact(x b u e).stay (fun c v _ q=>k c v q) (fun c q=>by rw[Zi (Zm q hn)];exact q) fun c xs q=>by rw[Zi (Zm q hn)];exact q
end
def Rd(H:Hp)(a:Addr)(u:HO):Prop:=H a=some u\/∃o,H a=some (.frz o u)
theorem Rd.ok{P:Program}{w:World}{H:Hp}{h:Heap}{a:Addr}{u:HO}(r:Rd H a u)(x:HOk P w H h):Zar P w H h a u:=by
 rcases r with r|⟨o,r⟩
 ·exact x a u r
 ·obtain⟨_,q⟩:=x a _ r;exact q
def Mut:Option HO->Prop
 | some (.lst _)=>True
 | some (.dK _)=>True
 | some (.dT _)=>True
 | some (.set _ _)=>True
 | some (.ins _ _ _)=>True
 | some (.ext _)=>True
 | _=>False
section
variable{P:Program}{w:World}{H:Hp}{h h':Heap}{x e:Addr}{o':HO}
theorem HOk.write(ok:HOk P w H h)(mu:Mut (H x))(he:e=x\/H e=some (.own x))(k:∀b u,b≠e->h.get? b=some u->h'.get? b=some u)(heo:∃u,h'.get? e=some u)
  (new:Zar P w (upd H x o') h' x o'):HOk P w (upd H x o') h':=fun b u q=>by
 have nown:∀c y,H c=some (.own y)->c≠x:=fun c y r z=>by subst z;rw[r] at mu;exact mu
 have ntup:∀c xs,H c=some (.tup xs)->c≠x:=fun c xs r z=>by subst z;rw[r] at mu;exact mu
 by_cases hb:b=x
 ·subst hb;rw[Zb] at q;cases q;exact new
 ·rw[Zi hb] at q;by_cases hbe:b=e
  ·have q':H b=some (.own x):=by
    rcases he with z|z
    ·exact absurd (hbe.trans z) hb
    ·rw[hbe];exact z
   rw[q] at q';cases q';obtain⟨v,hv⟩:=heo;exact⟨v,by rw[hbe];exact hv⟩
  ·refine(ok b u q).stay (fun c v hc r=>k c v ?_ r) (fun c r=>by rw[Zi (nown c b r)];exact r) fun c xs r=>by rw[Zi (ntup c xs r)];exact r
   rcases hc with rfl|hc
   ·exact hbe
   ·rintro rfl;rcases he with z|z
    ·exact nown c b hc z
    ·rw[hc] at z;cases z;exact hb rfl
end
structure Un(fs ex:List Addr)(H H':Hp)(h h':Heap):Prop where
 keep:∀b o,h.get? b=some o->H b=none->b∉fs->b∉ex->h'.get? b=some o
 slot:∀b o,h.get? b=some o->H b=none->b∈fs->b∉ex->∃sl,h'.get? b=some { o with slots:=sl }
 free:∀b o,h.get? b=some o->H b=none->b∉ex->H' b=none
 there:∀b o,h.get? b=some o->b∉ex->∃o',h'.get? b=some o'
 tups:∀b xs,H b=some (.tup xs)->H' b=some (.tup xs)
 frzs:∀b o u,H b=some (.frz o u)->H' b=some (.frz o u)
 tbls:∀b ps,H b=some (.tbl ps)->∃more,H' b=some (.tbl (ps++more))
section
variable{fs fs' ex ex':List Addr}{H H1 H2:Hp}{h h1 h2 h':Heap}{a x e:Addr}{o:HO}
theorem Un.any(u:Un fs ex H H1 h h1){b:Addr}{ob:Obj}(q:h.get? b=some ob)(n:H b=none)(hx:b∉ex):∃sl,h1.get? b=some { ob with slots:=sl }:=by
 by_cases hb:b∈fs
 ·exact u.slot b ob q n hb hx
 ·exact⟨ob.slots,u.keep b ob q n hb hx⟩
theorem Un.kept(k:∀b u,h.get? b=some u->h'.get? b=some u):Un fs ex H H h h' :=
 ⟨fun b ob q _ _ _=>k b ob q,fun b ob q _ _ _=>⟨ob.slots,k b ob q⟩,fun _ _ _ n _=>n,fun b ob q _=>⟨ob,k b ob q⟩,fun _ _ q=>q,fun _ _ _ q=>q,fun _ ps q=>⟨#[],by rw[q];simp⟩⟩
theorem Un.refl:Un fs ex H H h h:=Un.kept fun _ _ q=>q
theorem Un.laid(k:∀b u,h.get? b=some u->h'.get? b=some u)(hp:h.objs.size<=a)(hn:H a=none):Un fs ex H (upd H a o) h h' where
 keep:=fun b u q _ _ _=>k b u q
 slot:=fun b u q _ _ _=>⟨u.slots,k b u q⟩
 free:=fun b u q n _=>by rw[Zi (Nat.ne_of_lt (Nat.lt_of_lt_of_le (Heap.lt_size q) hp))];exact n
 there:=fun b u q _=>⟨u,k b u q⟩
 tups:=fun b xs q=>by rw[Zi (Zm q hn)];exact q
 frzs:=fun b u xs q=>by rw[Zi (Zm q hn)];exact q
 tbls:=fun b ps q=>⟨#[],by rw[Zi (Zm q hn),q];simp⟩
theorem Un.write(mu:Mut (H x))(he:e=x\/H e=some (.own x))(k:∀b u,b≠e->h.get? b=some u->h'.get? b=some u)(heo:∃u,h'.get? e=some u):Un fs ex H (upd H x o) h h':=by
 have hx:∀b,H b=none->b≠x:=fun b n z=>by subst z;rw[n] at mu;exact mu
 have hb:∀b,H b=none->b≠e:=fun b n z=>by
  subst z;rcases he with r|r
  ·exact hx b n r
  ·rw[n] at r;cases r
 have hm:∀b u,H b=some u -> ¬ Mut (some u)->b≠x:=fun b u q nm z=>by subst z;rw[q] at mu;exact nm mu
 refine⟨fun b u q n _ _=>k b u (hb b n) q,fun b u q n _ _=>⟨u.slots,k b u (hb b n) q⟩,fun b u q n _=>by rw[Zi (hx b n)];exact n,fun b u q _=>?_,
  fun b xs q=>by rw[Zi (hm b _ q fun z=>z)];exact q,fun b u xs q=>by rw[Zi (hm b _ q fun z=>z)];exact q,fun b ps q=>⟨#[],by rw[Zi (hm b _ q fun z=>z),q];simp⟩⟩
 by_cases hbe:b=e
 ·subst hbe;exact heo
 ·exact⟨u,k b u hbe q⟩
end
def trk(h:Heap)(H:Hp):List Addr:=(List.range h.objs.size).filter fun a=>(H a).isSome
def Zjc(h:Heap)(H:Hp):Heap:=PySem.W.hideAll h (trk h H)
theorem ZiX(h:Heap)(H:Hp):(Zjc h H).objs.size=h.objs.size:=PySem.W.hideAll_size _ _
theorem ZjG{h:Heap}{H:Hp}{b:Addr}{o:Obj}(e:h.get? b=some o)(n:H b=none):(Zjc h H).get? b=some o :=
 PySem.W.hideAll_get _ e fun hm=>by
  have q:(H b).isSome=true:=(List.mem_filter.mp hm).2;rw[n] at q;simp at q
theorem ZkP{h:Heap}{H:Hp}{b:Addr}{o:Obj}(e:(Zjc h H).get? b=some o):h.get? b=some o/\H b=none:=by
 have e':h.get? b=some o:=PySem.W.of_hideAll (trk h H) e;refine⟨e',?_⟩;cases q:H b with
 | none=>rfl
 | some x =>
  have hm:b∈trk h H:=List.mem_filter.mpr ⟨List.mem_range.mpr (Heap.lt_size e'),by simp[q]⟩;have z:(Zjc h H).get? b=none:=PySem.W.hideAll_none (trk h H) hm;rw[z] at e;cases e
structure Mod(K:PySem.W.Frag)(mg:Str->Option Value)(base:Heap):Prop where
 kin:K.In base
 glob:base.Ns mainGlobals mg
 blt:∃mb,base.Ns builtinsNs mb/\∀x:Str,x ≠ "__name__" -> mb x=bootBuiltins x
 nolimit:base.NoLimit
/-- the context: a def's body (or a comprehension's block) running. base: fixed through the whole law;s₀,H₀: the entry;outer: the frames whose slots others may change (a def's callers);stack: all frames that run;
   ex: iterators that were made ahead of the entry and are walked here (a comprehension's);fn: the names whose cells were made at the entry (a def: all;a comprehension's block: its own);calm: not within an except suite;pn: pins that every state bears;xe: what is wanted of an exception that leaves the code -/
structure Cx where
 prog:Program
 w:World
 K:PySem.W.Frag
 mg:Str->Option Value
 base:Heap
 A:Around
 N:List Str
 s₀ : Shared
 H₀ : Hp
 env:Env
 outer:List Env
 stack:List Env
 ex:List Addr
 fn:Str->Bool
 calm:Bool
 pn:List (Addr×Obj)
 xe:Value->Shared->Prop
def frs(l:List Env):List Addr:=l.filterMap (·.frame)
abbrev Cx.fs(X:Cx):List Addr:=frs X.outer
def Vis(sc:Scope)(x:Str):Prop:=sc.names.lookup x=some .local\/sc.names.lookup x=some .cell\/sc.names.lookup x=some .free
def Loc(sc:Scope)(x:Str):Prop:=sc.names.lookup x=some .local\/sc.names.lookup x=some .cell
def Look(env:Env)(h:Heap)(m:Str->Option Value)(x:Str)(u:Value):Prop :=
 (env.kindOf x=some .local/\m x=some u)\/((env.kindOf x=some .cell\/env.kindOf x=some .free)/\∃c,env.cells.lookup x=some c/\h.IsCell c (some u))
structure Cx.Ok(X:Cx):Prop where
 mod:Mod X.K X.mg X.base
 kind:X.env.scope.kind=.function
 glob:X.env.globals=mainGlobals
 blt:X.env.builtins=builtinsNs
 above:X.s₀.heap.objs.size<=X.env.locals
 inj:∀x y c,X.env.cells.lookup x=some c->X.env.cells.lookup y=some c->x=y
 has:∀x,(X.env.kindOf x=some .cell\/X.env.kindOf x=some .free)->∃c,X.env.cells.lookup x=some c
 cab:∀x c,X.fn x=true->X.env.cells.lookup x=some c->X.s₀.heap.objs.size<=c
 hd:X.calm=true->X.A.handled=none
 frames:X.A.frames=some X.stack
 stk:X.stack=X.outer\/(X.stack=X.env::X.outer/\X.env.frame=some X.env.locals)
 exf:∀b∈X.ex,b≠X.env.locals/\∀x c,X.env.cells.lookup x=some c->c≠b
 bs:∀b o,X.base.get? b=some o->X.s₀.heap.get? b=some o/\X.H₀ b=none
 bsz:X.base.objs.size<=X.s₀.heap.objs.size
 noex:∀b o,X.base.get? b=some o->b∉X.ex
 exfs:∀b∈X.ex,b∉X.fs
 funs:X.s₀.heap.FunFrames X.base X.outer
 frf:∀b∈X.fs,X.H₀ b=none
structure Inv(X:Cx)(pins:List (Addr×Obj))(σ : List (Option V))(H:Hp)(s:Shared):Prop where
 ok:X.Ok
 os:s.os=X.s₀.os
 bare:AllBare s.gens
 base:Un X.fs X.ex X.H₀ H X.s₀.heap s.heap
 loc:∃m,s.heap.Ns X.env.locals m/\∀(i:Nat)(x:Str)(v:V),X.N[i]?= some x -> σ[i]?= some (some v)->Vis X.env.scope x->∃u,RelV v u/\Look X.env s.heap m x u
 cell:∀x c,X.env.cells.lookup x=some c->∃v,s.heap.IsCell c v
 free:H X.env.locals=none
 freeC:∀x c,X.env.cells.lookup x=some c->H c=none
 pin:∀p∈X.pn++pins,s.heap.get? p.1=some p.2/\H p.1=none/\p.1≠X.env.locals/\p.1∉X.fs/\∀v,p.2.data ≠ .cell v
 hok:HOk X.prog X.w H s.heap
 len : σ.length=X.N.length
section
variable{X:Cx}{pins:List (Addr×Obj)}{σ : List (Option V)}{H H':Hp}{s:Shared}{h':Heap}
theorem Cx.Ok.nofr(ok:X.Ok){b:Addr}{o:Obj}(e:X.base.get? b=some o):b∉X.fs:=fun hb=>by
 have:=(ok.funs.mem hb).1;rw[e] at this;cases this
theorem Inv.bs(I:Inv X pins σ H s):∀b o,X.base.get? b=some o->s.heap.get? b=some o/\H b=none:=fun b o e =>
 ⟨I.base.keep b o (I.ok.bs b o e).1 (I.ok.bs b o e).2 (I.ok.nofr e) (I.ok.noex b o e),I.base.free b o (I.ok.bs b o e).1 (I.ok.bs b o e).2 (I.ok.noex b o e)⟩
theorem Inv.bk(I:Inv X pins σ H s):∀b o,X.base.get? b=some o->s.heap.get? b=some o:=fun b o e=>(I.bs b o e).1
theorem Inv.mod(I:Inv X pins σ H s):Mod X.K X.mg X.base:=I.ok.mod
theorem Inv.kIn(I:Inv X pins σ H s):X.K.In s.heap:=I.ok.mod.kin.keeps I.bk
theorem Inv.lt(I:Inv X pins σ H s):X.env.locals<s.heap.objs.size:=let ⟨_,hn,_⟩:=I.loc;hn.lt
theorem Inv.sz(I:Inv X pins σ H s):X.s₀.heap.objs.size<=s.heap.objs.size:=Nat.le_trans I.ok.above (Nat.le_of_lt I.lt)
theorem Inv.nofs(I:Inv X pins σ H s){a:Addr}(h:s.heap.objs.size<=a):a∉X.fs:=fun hb=>by
 obtain⟨_,o,ho,_⟩:=I.ok.funs.mem hb;exact absurd (Nat.lt_of_lt_of_le (Heap.lt_size ho) (Nat.le_trans I.sz h)) (Nat.lt_irrefl _)
theorem Inv.cne(I:Inv X pins σ H s):∀x c,X.env.cells.lookup x=some c->c≠X.env.locals:=fun x c e z=>by
 obtain⟨v,o,ho,hd⟩:=I.cell x c e;obtain⟨m,⟨o',es,ep,ho',hd',_⟩,_⟩:=I.loc;rw[z,ho'] at ho;cases ho;rw[hd'] at hd;cases hd
theorem Inv.funs(I:Inv X pins σ H s):s.heap.FunFrames X.base X.outer:=by
 have all:∀(l:List Env),(∀b∈frs l,b∈X.fs)->X.s₀.heap.FunFrames X.base l->s.heap.FunFrames X.base l:=by
  intro l
  induction l with
  | nil=>intro _ _;trivial
  | cons env r ih =>
   intro hs hl;obtain⟨hk,⟨L,o,hf,hn,ho,hd⟩,hr⟩:=hl;have hL:L∈X.fs:=hs L (by unfold frs;rw[List.filterMap_cons,hf];exact List.mem_cons_self);obtain⟨sl,e⟩:=I.base.slot L o ho (I.ok.frf L hL) hL fun z=>I.ok.exfs L z hL;exact⟨hk,⟨L,_,hf,hn,e,hd⟩,ih (fun b hb=>hs b (by unfold frs;rw[List.filterMap_cons,hf];exact List.mem_cons_of_mem _ hb)) hr⟩
 exact all X.outer (fun _ hb=>hb) I.ok.funs
theorem Inv.stack(I:Inv X pins σ H s):s.heap.FunFrames X.base X.stack:=by
 rcases I.ok.stk with e|⟨e,hf⟩
 ·rw[e];exact I.funs
 ·rw[e];obtain⟨m,hn,_⟩:=I.loc;refine .cons (by rw[I.ok.kind];decide) hf hn ?_ I.funs;exact Heap.get?_none_of_le (Nat.le_trans I.ok.bsz I.ok.above)
theorem Inv.stkSub(I:Inv X pins σ H s):∀b∈frs X.stack,b∈X.env.locals::X.fs:=fun b hb=>by
 rcases I.ok.stk with e|⟨e,hf⟩
 ·rw[e] at hb;exact List.mem_cons_of_mem _ hb
 ·rw[e] at hb;unfold frs at hb;rw[List.filterMap_cons,hf] at hb;exact hb
theorem Inv.stkFree(I:Inv X pins σ H s):∀b∈frs X.stack,H b=none:=fun b hb=>by
 rcases List.mem_cons.mp (I.stkSub b hb) with e|hb
 ·rw[e];exact I.free
 ·obtain⟨_,o,ho,_⟩:=I.ok.funs.mem hb;exact I.base.free b o ho (I.ok.frf b hb) fun z=>I.ok.exfs b z hb
theorem Inv.step{g':Array GenState}{t':Nat}{d':Drawn}{ch:List Addr}(I:Inv X pins σ H s)
  (hch:∀b∈ch,(b∈X.ex\/X.s₀.heap.objs.size<=b)/\b≠X.env.locals/\(∀x c,X.env.cells.lookup x=some c->c≠b)/\∀p∈X.pn++pins,p.1≠b)
  (keep:∀b o,b≠X.env.locals->b∉X.fs->b∉ch->s.heap.get? b=some o->H b=none->h'.get? b=some o)
  (slot:∀b o,b≠X.env.locals->b∈X.fs->b∉ch->s.heap.get? b=some o->H b=none->∃sl,h'.get? b=some { o with slots:=sl }) (free:∀b o,b∉ch->s.heap.get? b=some o->H b=none->H' b=none)
  (there:∀b o,b∉ch->s.heap.get? b=some o->∃o',h'.get? b=some o')
  (tups:∀b xs,H b=some (.tup xs)->H' b=some (.tup xs)) (frzs:∀b o u,H b=some (.frz o u)->H' b=some (.frz o u)) (tbls:∀b ps,H b=some (.tbl ps)->∃more,H' b=some (.tbl (ps++more)))
  (ns:∀m,s.heap.Ns X.env.locals m->h'.Ns X.env.locals m) (hok:HOk X.prog X.w H' h') (hg:AllBare g') :
  Inv X pins σ H' { s with heap:=h',gens:=g',drawn:=d',toks:=t' }:=by
 have neL:∀b o,X.s₀.heap.get? b=some o->b≠X.env.locals:=fun b o e=>Nat.ne_of_lt (Nat.lt_of_lt_of_le (Heap.lt_size e) I.ok.above);have neC:∀b o,X.s₀.heap.get? b=some o->b∉X.ex->b∉ch:=fun b o e hx hb=>by
  rcases(hch b hb).1 with z|z
  ·exact hx z
  ·exact absurd (Nat.lt_of_lt_of_le (Heap.lt_size e) z) (Nat.lt_irrefl _)
 have cellK:∀x c,X.env.cells.lookup x=some c->∀v,s.heap.IsCell c v->h'.IsCell c v:=fun x c e v ⟨o,ho,hd⟩=>by
  have nch:c∉ch:=fun z=>(hch c z).2.2.1 x c e rfl;by_cases hc:c∈X.fs
  ·obtain⟨sl,q⟩:=slot c o (I.cne x c e) hc nch ho (I.freeC x c e);exact⟨_,q,hd⟩
  ·exact⟨o,keep c o (I.cne x c e) hc nch ho (I.freeC x c e),hd⟩
 refine⟨I.ok,I.os,hg,⟨fun b o e n hb hx=>?_,fun b o e n hb hx=>?_,fun b o e n hx=>?_,fun b o e hx=>?_,fun b xs e=>tups b xs (I.base.tups b xs e),fun b o xs e=>frzs b o xs (I.base.frzs b o xs e),fun b ps e=>?_⟩,?_,fun x c e=>?_,?_,fun x c e=>?_,fun p hp=>?_,hok,I.len⟩
 ·exact keep b o (neL b o e) hb (neC b o e hx) (I.base.keep b o e n hb hx) (I.base.free b o e n hx)
 ·obtain⟨sl,e1⟩:=I.base.slot b o e n hb hx;obtain⟨sl',e2⟩:=slot b _ (neL b o e) hb (neC b o e hx) e1 (I.base.free b o e n hx);exact⟨sl',e2⟩
 ·obtain⟨o',e1⟩:=I.base.there b o e hx;exact free b o' (neC b o e hx) e1 (I.base.free b o e n hx)
 ·obtain⟨o',e1⟩:=I.base.there b o e hx;exact there b o' (neC b o e hx) e1
 ·obtain⟨m1,e1⟩:=I.base.tbls b ps e;obtain⟨m2,e2⟩:=tbls b _ e1;exact⟨m1++m2,by rw[e2,Array.append_assoc]⟩
 ·obtain⟨m,hn,hl⟩:=I.loc;refine⟨m,ns m hn,fun i x v e1 e2 e3=>?_⟩;obtain⟨u,r,l⟩:=hl i x v e1 e2 e3;refine⟨u,r,?_⟩;rcases l with l|⟨k,c,e,z⟩
  ·exact .inl l
  ·exact .inr ⟨k,c,e,cellK x c e _ z⟩
 ·obtain⟨v,z⟩:=I.cell x c e;exact⟨v,cellK x c e v z⟩
 ·obtain⟨m,⟨o,_,_,ho,_⟩,_⟩:=I.loc;exact free _ o (fun z=>(hch _ z).2.1 rfl) ho I.free
 ·obtain⟨v,o,ho,hd⟩:=I.cell x c e;exact free c o (fun z=>(hch c z).2.2.1 x c e rfl) ho (I.freeC x c e)
 ·obtain⟨e,n,ne,nf,d⟩:=I.pin p hp;have nch:p.1∉ch:=fun z=>(hch p.1 z).2.2.2 p hp rfl;exact⟨keep p.1 p.2 ne nf nch e n,free p.1 p.2 nch e n,ne,nf,d⟩
theorem Inv.un{t':Nat}(I:Inv X pins σ H s)(u:Un X.fs [] H H' s.heap h')(hok:HOk X.prog X.w H' h'):Inv X pins σ H' { s with heap:=h',toks:=t' }:=by
 obtain⟨m,⟨o,es,ep,ho,r⟩,_⟩:=id I.loc;obtain⟨sl,hL⟩:=u.any ho I.free (by simp);exact I.step (g':=s.gens) (d':=s.drawn) (ch:=[]) (fun _ z=>nomatch z) (fun b o _ hb _ e n=>u.keep b o e n hb (by simp)) (fun b o _ hb _ e n=>u.slot b o e n hb (by simp)) (fun b o _ e n=>u.free b o e n (by simp)) (fun b o _ e=>u.there b o e (by simp)) u.tups u.frzs u.tbls (fun m' hm=>by
  obtain⟨o',es',ep',ho',r'⟩:=hm;rw[ho] at ho';cases ho';exact⟨_,es',ep',hL,r'⟩) hok I.bare
theorem Inv.call{g':Array GenState}{t':Nat}{d':Drawn}{ch:List Addr}(I:Inv X pins σ H s)(u:Un (frs X.stack) ch H H' s.heap h')(hok:HOk X.prog X.w H' h')(hg:AllBare g')
  (hch:∀b∈ch,(b∈X.ex\/X.s₀.heap.objs.size<=b)/\b≠X.env.locals/\(∀x c,X.env.cells.lookup x=some c->c≠b)/\∀p∈X.pn++pins,p.1≠b) :
  Inv X pins σ H' { s with heap:=h',gens:=g',drawn:=d',toks:=t' }:=by
 obtain⟨m,⟨o,es,ep,ho,r⟩,_⟩:=id I.loc;obtain⟨sl,hL⟩:=u.any ho I.free fun z=>(hch _ z).2.1 rfl;exact I.step (ch:=ch) hch (fun b o hL hb hc e n=>u.keep b o e n (fun z=>(List.mem_cons.mp (I.stkSub b z)).elim hL hb) hc) (fun b o _ _ hc e n=>u.any e n hc) (fun b o hc e n=>u.free b o e n hc) (fun b o hc e=>u.there b o e hc) u.tups u.frzs u.tbls (fun m' hm=>by
  obtain⟨o',es',ep',ho',r'⟩:=hm;rw[ho] at ho';cases ho';exact⟨_,es',ep',hL,r'⟩) hok hg
theorem Inv.turned{t':Nat}{it:Addr}(I:Inv X pins σ H s)(k:∀b o,b≠it->s.heap.get? b=some o->h'.get? b=some o)(hn:H it=none)(hL:it≠X.env.locals)
  (h1:it∈X.ex\/X.s₀.heap.objs.size<=it) (h2:∀x c,X.env.cells.lookup x=some c->c≠it) (h3:∀p∈X.pn++pins,p.1≠it):Inv X pins σ H { s with heap:=h',toks:=t' }:=by
 have nit:∀b u,H b=some u->b≠it:=fun b u e z=>by rw[z,hn] at e;cases e
 refine I.step (g':=s.gens) (d':=s.drawn) (ch:=[it]) (fun b hb=>?_) (fun b o _ _ hc e _=>k b o (fun z=>hc (by simp[z])) e) (fun b o _ _ hc e _=>⟨o.slots,k b o (fun z=>hc (by simp[z])) e⟩) (fun _ _ _ _ n=>n)
  (fun b o hc e=>⟨o,k b o (fun z=>hc (by simp[z])) e⟩) (fun _ _ e=>e) (fun _ _ _ e=>e) (fun b ps e=>⟨#[],by rw[e];simp⟩) (fun m hm=>?_) (fun b u e=>?_) I.bare
 ·have e:b=it:=by simpa using hb
  subst e;exact⟨h1,hL,h2,h3⟩
 ·obtain⟨o,es,ep,ho,r⟩:=hm;exact⟨o,es,ep,k _ o (Ne.symm hL) ho,r⟩
 ·refine(I.hok b u e).stay (fun c v hc q=>k c v ?_ q) (fun _ q=>q) fun _ _ q=>q;rcases hc with z|z
  ·rw[z];exact nit b u e
  ·exact nit c _ z
theorem Inv.tok(I:Inv X pins σ H s)(t:Nat):Inv X pins σ H { s with toks:=t }:=I.un (h':=s.heap) (t':=t) Un.refl I.hok
theorem Inv.kept{t':Nat}(I:Inv X pins σ H s)(k:∀b u,s.heap.get? b=some u->h'.get? b=some u):Inv X pins σ H { s with heap:=h',toks:=t' }:=I.un (Un.kept k) (I.hok.kept k)
theorem Inv.laid{a:Addr}{o:HO}{t':Nat}(I:Inv X pins σ H s)(k:∀b u,s.heap.get? b=some u->h'.get? b=some u)(hp:s.heap.objs.size<=a)(new:Zar X.prog X.w (upd H a o) h' a o) :
  Inv X pins σ (upd H a o) { s with heap:=h',toks:=t' }:=I.un (Un.laid k hp (I.hok.fresh hp)) (I.hok.laid k hp new)
theorem Inv.write{x e:Addr}{o:HO}{t':Nat}(I:Inv X pins σ H s)(mu:Mut (H x))(he:e=x\/H e=some (.own x))(k:∀b u,b≠e->s.heap.get? b=some u->h'.get? b=some u)(heo:∃u,h'.get? e=some u)
  (new:Zar X.prog X.w (upd H x o) h' x o):Inv X pins σ (upd H x o) { s with heap:=h',toks:=t' }:=I.un (Un.write mu he k heo) (I.hok.write mu he k heo new)
theorem Inv.pins_of{pins':List (Addr×Obj)}(I:Inv X pins σ H s)(h:∀p∈pins',s.heap.get? p.1=some p.2/\H p.1=none/\p.1≠X.env.locals/\p.1∉X.fs/\∀v,p.2.data ≠ .cell v):Inv X pins' σ H s :=
 ⟨I.ok,I.os,I.bare,I.base,I.loc,I.cell,I.free,I.freeC,fun p hp=>(List.mem_append.mp hp).elim (fun z=>I.pin p (List.mem_append_left _ z)) (h p),I.hok,I.len⟩
theorem Zew{N:List Str}(hN:N.Nodup){i j:Nat}{x:Str}(a:N[i]?= some x)(b:N[j]?= some x):i=j:=by
 obtain⟨h1,e1⟩:=List.getElem?_eq_some_iff.mp a;obtain⟨h2,e2⟩:=List.getElem?_eq_some_iff.mp b;exact(List.getElem_inj hN).mp (e1.trans e2.symm)
theorem Zfy{M:Model}{A:Around}{E:Value->Shared->Prop}{i:Nat}{x:Str}{v:V}{u:Value}{Q:Unit->Shared->Prop}(I:Inv X pins σ H s)(hN:X.N.Nodup)(hi:X.N[i]?= some x)(hx:Loc X.env.scope x)(r:RelV v u)
  (h:∀s',Inv X pins (σ.set i (some v)) H s'->(∃a,Heap.SameBut a s.heap s'.heap/\(a=X.env.locals\/X.env.cells.lookup x=some a))->Q () s') (hf:X.fn x=true\/X.env.scope.names.lookup x=some .local:=by first|exact .inl rfl|exact .inr rfl|assumption):wpAny M A (storeName X.env x u) Q E s:=by
 obtain⟨m,hn,hl⟩:=id I.loc;have hcls:(X.env.scope.kind ==.class || (X.env.scope.kind ==.module&&X.env.locals != X.env.globals))=false:=by rw[I.ok.kind];rfl
 have hiσ : i < σ.length:=by rw[I.len];exact(List.getElem?_eq_some_iff.mp hi).1
 have cne:=I.cne;have tracked:∀{a:Addr}{h':Heap},(∃o,s.heap.get? a=some o/\H a=none)->Heap.SameBut a s.heap h'->HOk X.prog X.w H h':=fun{a h'} ha hs b ob e=>by
  obtain⟨_,_,hfree⟩:=ha;refine(I.hok b ob e).stay (fun c w' hc q=>(hs.2 c ?_).trans q) (fun _ q=>q) fun _ _ q=>q;rintro rfl;rcases hc with rfl|hc
  ·rw[hfree] at e;cases e
  ·rw[hfree] at hc;cases hc
 rcases hx with hk|hk
 ·refine wpAny_storeName_local hk hn (fun h' hn' hs=>?_) hcls;obtain⟨oL,_,_,hoL,_⟩:=id hn;refine h _ ⟨I.ok,I.os,I.bare,⟨fun b o e n hb hx=>?_,fun b o e n hb hx=>?_,I.base.free,fun b o e hx=>?_,I.base.tups,I.base.frzs,I.base.tbls⟩,⟨_,hn',fun j y v' e1 e2 e3=>?_⟩,fun y c e=>?_,I.free,I.freeC,fun p hp=>?_,tracked ⟨oL,hoL,I.free⟩ hs,by simpa using I.len⟩ ⟨_,hs,.inl rfl⟩
  ·exact(hs.2 b (Nat.ne_of_lt (Nat.lt_of_lt_of_le (Heap.lt_size e) I.ok.above))).trans (I.base.keep b o e n hb hx)
  ·obtain⟨sl,e1⟩:=I.base.slot b o e n hb hx;exact⟨sl,(hs.2 b (Nat.ne_of_lt (Nat.lt_of_lt_of_le (Heap.lt_size e) I.ok.above))).trans e1⟩
  ·obtain⟨o',e1⟩:=I.base.there b o e hx;exact⟨o',(hs.2 b (Nat.ne_of_lt (Nat.lt_of_lt_of_le (Heap.lt_size e) I.ok.above))).trans e1⟩
  ·by_cases hj:j=i
   ·subst hj;rw[hi] at e1;cases e1;rw[List.getElem?_set_self hiσ] at e2;cases e2;exact⟨u,r,.inl ⟨hk,by simp⟩⟩
   ·rw[List.getElem?_set_ne (Ne.symm hj)] at e2;obtain⟨u',r',q⟩:=hl j y v' e1 e2 e3;refine⟨u',r',?_⟩;rcases q with⟨k,e⟩|⟨k,c,e,z⟩
    ·refine .inl ⟨k,?_⟩;have:y≠x:=fun e=>hj (Zew hN e1 (e ▸ hi));simp[this,e]
    ·exact .inr ⟨k,c,e,z.sameBut hs (cne y c e)⟩
  ·obtain⟨w',z⟩:=I.cell y c e;exact⟨w',z.sameBut hs (cne y c e)⟩
  ·obtain⟨e,n,ne,nf,d⟩:=I.pin p hp;exact⟨(hs.2 p.1 ne).trans e,n,ne,nf,d⟩
 ·have hfn:X.fn x=true:=by
   rcases hf with z|z
   ·exact z
   ·rw[z] at hk;cases hk
  obtain⟨c,hc⟩:=I.ok.has x (.inl hk);obtain⟨w',z⟩:=I.cell x c hc;refine wpAny_storeName_cell I.ok.kind hk hc z (fun h' hc' hs=>?_);obtain⟨oc,hoc,hocd⟩:=id z;refine h { s with heap:=h' } ⟨I.ok,I.os,I.bare,⟨fun b o e n hb hx=>?_,fun b o e n hb hx=>?_,I.base.free,fun b o e hx=>?_,I.base.tups,I.base.frzs,I.base.tbls⟩,⟨m,hn.sameBut hs (Ne.symm (cne x c hc)),fun j y v' e1 e2 e3=>?_⟩,fun y c' e=>?_,I.free,I.freeC,fun p hp=>?_,tracked ⟨oc,hoc,I.freeC x c hc⟩ hs,by simpa using I.len⟩ ⟨c,hs,.inr hc⟩
  ·exact(hs.2 b (Nat.ne_of_lt (Nat.lt_of_lt_of_le (Heap.lt_size e) (I.ok.cab x c hfn hc)))).trans (I.base.keep b o e n hb hx)
  ·obtain⟨sl,e1⟩:=I.base.slot b o e n hb hx;exact⟨sl,(hs.2 b (Nat.ne_of_lt (Nat.lt_of_lt_of_le (Heap.lt_size e) (I.ok.cab x c hfn hc)))).trans e1⟩
  ·obtain⟨o',e1⟩:=I.base.there b o e hx;exact⟨o',(hs.2 b (Nat.ne_of_lt (Nat.lt_of_lt_of_le (Heap.lt_size e) (I.ok.cab x c hfn hc)))).trans e1⟩
  ·by_cases hj:j=i
   ·subst hj;rw[hi] at e1;cases e1;rw[List.getElem?_set_self hiσ] at e2;cases e2;exact⟨u,r,.inr ⟨.inl hk,c,hc,hc'⟩⟩
   ·rw[List.getElem?_set_ne (Ne.symm hj)] at e2;obtain⟨u',r',q⟩:=hl j y v' e1 e2 e3;refine⟨u',r',?_⟩;rcases q with q|⟨k,c',e,z'⟩
    ·exact .inl q
    ·refine .inr ⟨k,c',e,z'.sameBut hs ?_⟩;rintro rfl;exact hj (Zew hN e1 (I.ok.inj _ _ _ e hc ▸ hi))
  ·by_cases hcc:c'=c
   ·subst hcc;exact⟨_,hc'⟩
   ·obtain⟨w2,z2⟩:=I.cell y c' e;exact⟨w2,z2.sameBut hs hcc⟩
  ·obtain⟨e,n,ne,nf,d⟩:=I.pin p hp;refine⟨(hs.2 p.1 ?_).trans e,n,ne,nf,d⟩;intro q;rw[q,hoc] at e;have q':oc=p.2:=Option.some.inj e;exact d w' (by rw[<- q'];exact hocd)
theorem Zeu{M:Model}{A:Around}{E:Value->Shared->Prop}{i:Nat}{x:Str}{v:V}{u:Value}{Q:Unit->Shared->Prop}(I:Inv X pins σ H s)(hN:X.N.Nodup)(hi:X.N[i]?= some x)(hx:Loc X.env.scope x)(r:RelV v u)
  (h:∀s',Inv X pins (σ.set i (some v)) H s'->Q () s') (hf:X.fn x=true\/X.env.scope.names.lookup x=some .local:=by first|exact .inl rfl|exact .inr rfl|assumption):wpAny M A (storeName X.env x u) Q E s :=
 Zfy I hN hi hx r (fun s' I' _=>h s' I') hf
theorem Inv.call'{s':Shared}{ch:List Addr}(I:Inv X pins σ H s)(ho:s'.os=s.os)(u:Un (frs X.stack) ch H H' s.heap s'.heap)(hok:HOk X.prog X.w H' s'.heap)(hg:AllBare s'.gens)
  (hch:∀b∈ch,(b∈X.ex\/X.s₀.heap.objs.size<=b)/\b≠X.env.locals/\(∀x c,X.env.cells.lookup x=some c->c≠b)/\∀p∈X.pn++pins,p.1≠b):Inv X pins σ H' s':=by
 obtain⟨h',g',d',t',o'⟩:=s';have e:o'=s.os:=ho;subst e;exact I.call (g':=g') (t':=t') (d':=d') u hok hg hch
end
abbrev XK:=Value->Option Addr->Hp->Prop
abbrev St:=List (Option V)
abbrev VK:=V->Hp->Prop
abbrev TE:=St->Hp->VK->Prop
abbrev TT:=St->Hp->(Bool->Hp->Prop)->Prop
abbrev TA:=St->Hp->(List V->Hp->Prop)->Prop
structure Ends where
 nx:St->Hp->Prop
 rt:VK
 bk:St->Hp->Prop:=fun _ _=>False
 ct:St->Hp->Prop:=fun _ _=>False
abbrev TS:=Ends->St->Hp->Prop
def EP(X:Cx)(pins:List (Addr×Obj))(σ : St)(Q:VK)(u:Value)(s':Shared):Prop := ∃v H',Inv X pins σ H' s'/\RelV v u/\Q v H'
def TP(X:Cx)(pins:List (Addr×Obj))(σ : St)(Q:Bool->Hp->Prop)(b:Bool)(s':Shared):Prop := ∃H',Inv X pins σ H' s'/\Q b H'
def AP(X:Cx)(pins:List (Addr×Obj))(σ : St)(Q:List V->Hp->Prop)(us:List Value)(s':Shared):Prop := ∃vs H',Inv X pins σ H' s'/\Vals vs us/\Q vs H'
def SP(X:Cx)(pins:List (Addr×Obj))(D:Ends)(f:Flow)(s':Shared):Prop :=
 match f with
 | .next=>∃ σ' H',Inv X pins σ' H' s'/\D.nx σ' H'
 | .brk=>∃ σ' H',Inv X pins σ' H' s'/\D.bk σ' H'
 | .cont=>∃ σ' H',Inv X pins σ' H' s'/\D.ct σ' H'
 | .ret u=>∃v σ' H',Inv X pins σ' H' s'/\RelV v u/\D.rt v H'
def PE(X:Cx)(e:Expr)(t:TE):Prop :=
 ∀(pins:List (Addr×Obj))(s:Shared)(σ : St)(H:Hp)(Q:VK),Inv X pins σ H s->t σ H Q->wpAny (model X.prog X.w) X.A (eval e X.env) (EP X pins σ Q) X.xe s
def PT(X:Cx)(e:Expr)(t:TT):Prop :=
 ∀(pins:List (Addr×Obj))(s:Shared)(σ : St)(H:Hp)(Q:Bool->Hp->Prop),Inv X pins σ H s->t σ H Q->wpAny (model X.prog X.w) X.A (isTrue e X.env (eval e X.env)) (TP X pins σ Q) X.xe s
def PW(X:Cx)(e:Expr)(t:TT):Prop :=
 ∀(whole:Sem Value)(pins:List (Addr×Obj))(s:Shared)(σ : St)(H:Hp)(Q:Bool->Hp->Prop),Inv X pins σ H s->t σ H Q->wpAny (model X.prog X.w) X.A (isTrue e X.env whole) (TP X pins σ Q) X.xe s
theorem PW.pt{X:Cx}{e:Expr}{t:TT}(h:PW X e t):PT X e t:=h _
def PA(X:Cx)(es:List Expr)(t:TA):Prop :=
 ∀(pos:Pos)(pins:List (Addr×Obj))(s:Shared)(σ : St)(H:Hp)(Q:List V->Hp->Prop),Inv X pins σ H s->t σ H Q->wpAny (model X.prog X.w) X.A (spliced (backTo pos (starEach es X.env))) (AP X pins σ Q) X.xe s
def PS(X:Cx)(st:Stmt)(t:TS):Prop :=
 ∀(pins:List (Addr×Obj))(s:Shared)(σ : St)(H:Hp)(D:Ends),Inv X pins σ H s->t D σ H->wpAny (model X.prog X.w) X.A (exec st X.env) (SP X pins D) X.xe s
def PSs(X:Cx)(st:List Stmt)(t:TS):Prop :=
 ∀(pins:List (Addr×Obj))(s:Shared)(σ : St)(H:Hp)(D:Ends),Inv X pins σ H s->t D σ H->wpAny (model X.prog X.w) X.A (execs st X.env) (SP X pins D) X.xe s
theorem thn{α : Type}{t:Sem α}{Q Q' : α -> Shared->Prop}{M:Model}{A:Around}{E:Value->Shared->Prop}{s:Shared}(h:wpAny M A t Q E s)(hQ:∀a s,Q a s->Q' a s):wpAny M A t Q' E s:=wpAny_mono h hQ fun _ _ x=>x
section
variable{X:Cx}
def Zhg(i:Nat):TE:=fun σ H Q=>∃v,σ[i]?= some (some v)/\Q v H
def tC(v:V):TE:=fun _ H Q=>Q v H
theorem ZlI{i:Nat}{x:Str}{pos:Pos}(hN:X.N[i]?= some x)(hv:Vis X.env.scope x)(hd:(x == ("__debug__" : Str))=false:=by decide) (hcd:(x == ("__classdict__" : Str))=false:=by decide):PE X (.Name x pos) (Zhg i):=by
 intro pins s σ H Q I h;obtain⟨v,e,h⟩:=h;obtain⟨m,hn,hl⟩:=I.loc;obtain⟨u,r,l⟩:=hl i x v hN e hv;have fin:EP X pins σ Q u s:=⟨v,H,I,r,h⟩;rcases l with⟨hk,hm⟩|⟨hk,c,hc,hcell⟩
 ·exact wpAny_Name (wpAny_loadName_local I.ok.kind hk hn hm fin) hd
 ·rcases hk with hk|hk
  ·exact wpAny_Name (wpAny_loadName_cell I.ok.kind hk hc hcell fin) hd
  ·exact wpAny_Name (wpAny_loadName_free I.ok.kind hk hc hcell fin hcd) hd
theorem Zh{i j pos}:PE X (.Constant (.int i) j pos) (tC (.int i)):=fun _ _ _ H _ I h=>wpAny_Constant_int ⟨.int i,H,I.tok _,⟨_,rfl⟩,h⟩
theorem Zcr{b j pos}:PE X (.Constant (.bool b) j pos) (tC (.bl b)):=fun _ _ _ H _ I h=>Constant_bool ⟨.bl b,H,I,rfl,h⟩
theorem Zj0{j pos}:PE X (.Constant .none j pos) (tC .non):=fun _ _ _ H _ I h=>Constant_none ⟨.non,H,I,rfl,h⟩
theorem Zj{x j pos}:PE X (.Constant (.str x) j pos) (tC (.str x)):=fun _ _ _ H _ I h=>Calls.Constant_str ⟨.str x,H,I.tok _,⟨_,rfl⟩,h⟩
def Gl(X:Cx)(x:Str):Prop:=X.env.kindOf x=some .globalImplicit
theorem Zdf{E:Value->Shared->Prop}{pins:List (Addr×Obj)}{s:Shared}{σ : St}{H:Hp}{x:Str}{u:Value}{pos:Pos}{Q:Value->Shared->Prop}(I:Inv X pins σ H s)(hg:Gl X x)(hm:X.mg x=some u)(h:Q u s)
  (hd:(x == ("__debug__" : Str))=false:=by decide):wpAny (model X.prog X.w) X.A (eval (.Name x pos) X.env) Q E s :=
 Calls.Name_function_global I.ok.kind hg (Calls.loadGlobal_global (by rw[I.ok.glob];exact I.mod.glob.keeps I.bk) hm h) hd
theorem Zfo{E:Value->Shared->Prop}{pins:List (Addr×Obj)}{s:Shared}{σ : St}{H:Hp}{x:Str}{u:Value}{pos:Pos}{Q:Value->Shared->Prop}(I:Inv X pins σ H s)(hg:Gl X x)(hm:X.mg x=none)(hv:bootBuiltins x=some u)(h:Q u s)
  (hn:x ≠ "__name__" := by decide) (hd:(x == ("__debug__" : Str))=false:=by decide):wpAny (model X.prog X.w) X.A (eval (.Name x pos) X.env) Q E s:=by
 obtain⟨mb,h1,h2⟩:=I.mod.blt;exact Calls.Name_function_global I.ok.kind hg (Calls.loadGlobal_builtin (by rw[I.ok.glob];exact I.mod.glob.keeps I.bk) hm (by rw[I.ok.blt];exact h1.keeps I.bk) ((h2 x hn).trans hv) h) hd
theorem Z9{x:Str}{v:V}{u:Value}{pos:Pos}(hg:Gl X x)(hm:X.mg x=some u)(r:RelV v u)(hd:(x == ("__debug__" : Str))=false:=by decide):PE X (.Name x pos) (tC v) :=
 fun _ _ _ H _ I h=>Zdf I hg hm ⟨v,H,I,r,h⟩ hd
theorem Zkt{x:Str}{v:V}{u:Value}{pos:Pos}(hg:Gl X x)(hm:X.mg x=none)(hv:bootBuiltins x=some u)(r:RelV v u)(hn:x ≠ "__name__" := by decide) (hd:(x == ("__debug__" : Str))=false:=by decide):PE X (.Name x pos) (tC v) :=
 fun _ _ _ H _ I h=>Zfo I hg hm hv ⟨v,H,I,r,h⟩ hn hd
variable{a b:Expr}{ta tb:TE}{pos:Pos}
def PC(X:Cx)(op:CmpOp)(a b:Expr)(t:TE):Prop :=
 ∀(pins:List (Addr×Obj))(s:Shared)(σ : St)(H:Hp)(Q:VK),Inv X pins σ H s->t σ H Q ->
  wpAny (model X.prog X.w) X.A (eval a X.env) (fun v s₁=>wpAny (model X.prog X.w) X.A (eval b X.env) (fun u s₂=>wpAny (model X.prog X.w) X.A (compareOp op v u) (EP X pins σ Q) X.xe s₂) X.xe s₁) X.xe s
def tB(t:TE):TT:=fun σ H Q=>t σ H fun x H1=>∃c,x=.bl c/\Q c H1
theorem Zio{op:CmpOp}{t:TE}(h:PC X op a b t)(h1:behindInMarks op b=false:=by first|exact nobehind _ (by decide) (by decide)|rfl):PT X (.Compare a [op] [b] pos) (tB t):=by
 intro pins s σ H Q I hw;refine wpAny_isTrue_Compare1 (thn (h pins s σ H _ I hw) fun v s1 h1=>thn h1 fun u s2 h2=>thn h2 fun c s3 ⟨x,H1,I1,r1,q1⟩=>?_) h1;obtain⟨d,rfl,q⟩:=q1;cases r1;exact wpAny_truthy_bool ⟨H1,I1,q⟩
variable{tA tB':TT}{rest:List Expr}
def ZmA(t u:TT):TT:=fun σ H Q=>t σ H fun c H1=>if c=true then u σ H1 Q else Q false H1
def tOr(t u:TT):TT:=fun σ H Q=>t σ H fun c H1=>if c=true then Q true H1 else u σ H1 Q
def ZmV(t:TT):TT:=fun σ H Q=>t σ H fun c H1=>Q (!c) H1
theorem ZeB(ha:PT X a tA):PW X (.BoolOp .And [a] pos) tA:=by
 intro wh pins s σ H Q I h;refine isTrue_and (thn (ha pins s σ H Q I h) fun c s1 e=>?_);cases c with
 | true=>exact isTrue_and_nil e
 | false=>exact e
theorem Zdy(ha:PT X a tA):PW X (.BoolOp .Or [a] pos) tA:=by
 intro wh pins s σ H Q I h;refine isTrue_or (thn (ha pins s σ H Q I h) fun c s1 e=>?_);cases c with
 | false=>exact isTrue_or_nil e
 | true=>exact e
theorem ZgW(ha:PT X a tA)(hb:PW X (.BoolOp .And (b::rest) pos) tB'):PW X (.BoolOp .And (a::b::rest) pos) (ZmA tA tB'):=by
 intro wh pins s σ H Q I h;refine isTrue_and (thn (ha pins s σ H _ I h) fun c s1 ⟨H1,I1,q1⟩=>?_);cases c with
 | true=>exact hb wh pins s1 σ H1 Q I1 q1
 | false=>exact⟨H1,I1,q1⟩
theorem ZeU(ha:PT X a tA)(hb:PW X (.BoolOp .Or (b::rest) pos) tB'):PW X (.BoolOp .Or (a::b::rest) pos) (tOr tA tB'):=by
 intro wh pins s σ H Q I h;refine isTrue_or (thn (ha pins s σ H _ I h) fun c s1 ⟨H1,I1,q1⟩=>?_);cases c with
 | true=>exact⟨H1,I1,q1⟩
 | false=>exact hb wh pins s1 σ H1 Q I1 q1
theorem Zbu(ha:PT X a tA):PT X (.UnaryOp .Not a pos) (ZmV tA):=by
 intro pins s σ H Q I h;exact isTrue_not (ha pins s σ H (fun c H1=>Q (!c) H1) I h)
def Zl8(ta tb:TE):TE:=fun σ H Q=>ta σ H fun x H1=>∃c,x=.bl c/\if c=true then tb σ H1 Q else Q (.bl false) H1
def ZlT(ta:TE):TE:=fun σ H Q=>ta σ H fun x H1=>∃c,x=.bl c/\Q (.bl (!c)) H1
theorem Zer{op}{t:TE}(h:PE X a t):PE X (.BoolOp op [a] pos) t:=fun pins s σ H Q I hw=>BoolOp_one (h pins s σ H Q I hw)
theorem ZcM(ha:PE X a ta)(hb:PE X (.BoolOp .And (b::rest) pos) tb):PE X (.BoolOp .And (a::b::rest) pos) (Zl8 ta tb):=by
 intro pins s σ H Q I h;refine BoolOp_and (thn (ha pins s σ H _ I h) fun v s1 ⟨x,H1,I1,r1,q1⟩=>?_);obtain⟨c,rfl,q1⟩:=q1;cases r1;refine wpAny_truthy_bool ?_;cases c with
 | true=>exact hb pins s1 σ H1 Q I1 q1
 | false=>exact⟨.bl false,H1,I1,rfl,q1⟩
theorem ZgU(ha:PE X a ta):PE X (.UnaryOp .Not a pos) (ZlT ta):=by
 intro pins s σ H Q I h;refine UnaryOp_ (thn (ha pins s σ H _ I h) fun v s1 ⟨x,H1,I1,r1,q1⟩=>?_);obtain⟨c,rfl,q1⟩:=q1;cases r1;exact not_of (wpAny_truthy_bool ⟨.bl (!c),H1,I1,rfl,q1⟩)
def tIf(t:TT)(ta tb:TE):TE:=fun σ H Q=>t σ H fun c H1=>if c=true then ta σ H1 Q else tb σ H1 Q
theorem Zdw{c:Expr}(hc:PT X c tA)(ha:PE X a ta)(hb:PE X b tb):PE X (.IfExp c a b pos) (tIf tA ta tb):=by
 intro pins s σ H Q I h;refine wpAny_IfExp (thn (hc pins s σ H _ I h) fun d s1 ⟨H1,I1,q1⟩=>?_);cases d with
 | true=>exact ha pins s1 σ H1 Q I1 q1
 | false=>exact hb pins s1 σ H1 Q I1 q1
end
def SqL(K:PySem.W.Frag)(H:Hp)(a:Addr)(xs:List V):Prop :=
 Rd H a (.lst xs) \/
  ∃(o:Obj)(its:Array Value)(n:Nat),K.lookup a=some o/\o.cls=.type "list" /\ o.dict=none/\o.data=.seq its n/\its.size<=sizeLine/\Vals xs its.toList
def SqT(K:PySem.W.Frag)(H:Hp)(a:Addr)(xs:List V):Prop :=
 Rd H a (.tup xs) \/
  ∃(o:Obj)(its:Array Value)(n:Nat),K.lookup a=some o/\o.cls=.type "tuple" /\ o.data=.seq its n/\its.size<=sizeLine/\Vals xs its.toList
def ZmT:Value->Option V
 | .none=>some .non
 | .bool b=>some (.bl b)
 | .int i _=>some (.int i)
 | .str x _=>some (.str x)
 | .bytes b _=>some (.byt b)
 | .float b _=>some (.flt b)
 | .ref a=>some (.ref a)
 | .type n=>some (.ty n)
 | _=>none
theorem RelV.abs{x:V}{u:Value}(r:RelV x u):ZmT u=some x:=by
 cases x with
 | non=>cases r;rfl
 | bl _=>cases r;rfl
 | int _=>obtain⟨t,rfl⟩:=r;rfl
 | str _=>obtain⟨t,rfl⟩:=r;rfl
 | byt _=>obtain⟨t,rfl⟩:=r;rfl
 | flt _=>obtain⟨t,rfl⟩:=r;rfl
 | ref _=>cases r;rfl
 | ty _=>cases r;rfl
theorem RelV.inj{x y:V}{u:Value}(r:RelV x u)(q:RelV y u):x=y:=Option.some.inj (r.abs.symm.trans q.abs)
theorem Vals.inj:∀{xs ys:List V}{us:List Value},Vals xs us->Vals ys us->xs=ys
 | _,_,_,.nil,.nil=>rfl
 | _,_,_,.cons r t,.cons r' t'=>by rw[r.inj r',Vals.inj t t']
section
variable{X:Cx}{pins:List (Addr×Obj)}{σ : St}{H:Hp}{s:Shared}{a:Addr}{xs ys:List V}
theorem SqL.of{K:PySem.W.Frag}(h:H a=some (.lst xs)):SqL K H a xs:=.inl (.inl h)
theorem SqT.of{K:PySem.W.Frag}(h:H a=some (.tup xs)):SqT K H a xs:=.inl (.inl h)
theorem Inv.list(I:Inv X pins σ H s)(h:SqL X.K H a xs):∃its:List Value,Vals xs its/\PlainL s.heap a its.toArray/\xs.length<=sizeLine:=by
 rcases h with h|⟨o,its,n,hk,hc,hd,hs,hz,r⟩
 ·obtain⟨z,its,n,r,e⟩:=h.ok I.hok;exact⟨its,r,⟨_,n,e,rfl,rfl,rfl⟩,z⟩
 ·refine⟨its.toList,r,⟨o,n,I.kIn a o hk,hc,hd,by simpa using hs⟩,?_⟩;have e:=r.length;simp only[Array.length_toList] at e;lia
theorem Inv.tuple(I:Inv X pins σ H s)(h:SqT X.K H a xs):∃its:List Value,Vals xs its/\IsTup s.heap a its.toArray/\xs.length<=sizeLine:=by
 rcases h with h|⟨o,its,n,hk,hc,hs,hz,r⟩
 ·obtain⟨z,its,r,p⟩:=h.ok I.hok;exact⟨its,r,p,z⟩
 ·refine⟨its.toList,r,⟨o,I.kIn a o hk,hc,n,by simpa using hs⟩,?_⟩;have e:=r.length;simp only[Array.length_toList] at e;lia
theorem Inv.list_inj(I:Inv X pins σ H s)(h:SqL X.K H a xs)(h':SqL X.K H a ys):xs=ys:=by
 obtain⟨its,r,⟨o,n,e,_,_,d⟩,_⟩:=I.list h;obtain⟨its',r',⟨o',n',e',_,_,d'⟩,_⟩:=I.list h';rw[e] at e';cases e';rw[d] at d';injection d' with d1 _;have:its=its':=by simpa using congrArg Array.toList d1
 subst this;exact r.inj r'
theorem Inv.tuple_inj(I:Inv X pins σ H s)(h:SqT X.K H a xs)(h':SqT X.K H a ys):xs=ys:=by
 obtain⟨its,r,⟨o,e,_,n,d⟩,_⟩:=I.tuple h;obtain⟨its',r',⟨o',e',_,n',d'⟩,_⟩:=I.tuple h';rw[e] at e';cases e';rw[d] at d';injection d' with d1 _;have:its=its':=by simpa using congrArg Array.toList d1
 subst this;exact r.inj r'
end
abbrev Cx.wish(X:Cx)(E:Value->Shared->Prop):Cx:={ X with xe:=E }
abbrev Cx.nox(X:Cx):Cx:=X.wish fun _ _=>False
theorem Cx.Ok.wish{X:Cx}(ok:X.Ok)(E:Value->Shared->Prop):(X.wish E).Ok :=
 ⟨ok.mod,ok.kind,ok.glob,ok.blt,ok.above,ok.inj,ok.has,ok.cab,ok.hd,ok.frames,ok.stk,ok.exf,ok.bs,ok.bsz,ok.noex,ok.exfs,ok.funs,ok.frf⟩
theorem Cx.Ok.unwish{X:Cx}{E:Value->Shared->Prop}(ok:(X.wish E).Ok):X.Ok :=
 ⟨ok.mod,ok.kind,ok.glob,ok.blt,ok.above,ok.inj,ok.has,ok.cab,ok.hd,ok.frames,ok.stk,ok.exf,ok.bs,ok.bsz,ok.noex,ok.exfs,ok.funs,ok.frf⟩
section
variable{X:Cx}{pins:List (Addr×Obj)}{σ : St}{H:Hp}{s:Shared}{E:Value->Shared->Prop}
theorem Inv.wish(I:Inv X pins σ H s)(E:Value->Shared->Prop):Inv (X.wish E) pins σ H s:=⟨I.ok.wish E,I.os,I.bare,I.base,I.loc,I.cell,I.free,I.freeC,I.pin,I.hok,I.len⟩
theorem Inv.unwish(I:Inv (X.wish E) pins σ H s):Inv X pins σ H s:=⟨I.ok.unwish,I.os,I.bare,I.base,I.loc,I.cell,I.free,I.freeC,I.pin,I.hok,I.len⟩
theorem SP.unwish{D:Ends}{f:Flow}{s':Shared}(h:SP (X.wish E) pins D f s'):SP X pins D f s':=by
 cases f with
 | next=>obtain⟨σ',H',I,q⟩:=h;exact⟨σ',H',I.unwish,q⟩
 | brk=>obtain⟨σ',H',I,q⟩:=h;exact⟨σ',H',I.unwish,q⟩
 | cont=>obtain⟨σ',H',I,q⟩:=h;exact⟨σ',H',I.unwish,q⟩
 | ret u=>obtain⟨v,σ',H',I,r,q⟩:=h;exact⟨v,σ',H',I.unwish,r,q⟩
theorem PSs.nox{st:List Stmt}{t:TS}(h:PSs X.nox st t):PSs X st t:=fun pins s σ H D I hw =>
 wpAny_mono (h pins s σ H D (I.wish _) hw) (fun _ _ q=>q.unwish) fun _ _ z=>False.elim z
end
section
variable{X:Cx}{st:Stmt}{rest:List Stmt}{t u:TS}{e:Expr}{te:TE}{pos:Pos}
def ZlP:TS:=fun D σ H=>D.nx σ H
def ZmE(t u:TS):TS:=fun D σ H=>t { D with nx:=u D } σ H
theorem Zq:PSs X [] ZlP:=fun _ _ σ H _ I h=>wpAny_execs_nil ⟨σ,H,I,h⟩
theorem Zc(h1:PS X st t)(h2:PSs X rest u):PSs X (st::rest) (ZmE t u):=by
 intro pins s σ H D I h;refine wpAny_execs_cons (thn (h1 pins s σ H { D with nx:=u D } I h) fun f s1 q=>?_);cases f with
 | next =>
  obtain⟨σ',H',I',q⟩:=q;exact h2 pins s1 σ' H' D I' q
 | ret v=>exact q
 | brk=>exact q
 | cont=>exact q
theorem Zf(h1:PS X st t):PSs X [st] t:=by
 intro pins s σ H D I h;refine wpAny_execs_cons (thn (h1 pins s σ H D I h) fun f s1 q=>?_);cases f with
 | next=>exact wpAny_execs_nil q
 | ret v=>exact q
 | brk=>exact q
 | cont=>exact q
theorem Inv.quiet{pins:List (Addr×Obj)}{σ : St}{H:Hp}{s:Shared}(I:Inv X pins σ H s):interactive X.env=false:=by simp[interactive,I.ok.kind]
def ZlW(te:TE):TS:=fun D σ H=>te σ H fun _ H1=>D.nx σ H1
theorem ZaH(he:PE X e te)(hs:swapsWith e none pos.line X.env=pure false:=by rfl):PS X (.Expr e pos) (ZlW te):=by
 intro pins s σ H D I h;exact wpAny_Expr_any (thn (he pins s σ H _ I h) fun v s1 ⟨x,H1,I1,r1,q1⟩=>⟨σ,H1,I1,q1⟩) I.quiet hs
def ZkZ(te:TE):TS:=fun D σ H=>te σ H D.rt
theorem Zr(he:PE X e te):PS X (.Return (some e) pos) (ZkZ te):=by
 intro pins s σ H D I h;exact wpAny_Return_some (thn (he pins s σ H _ I h) fun v s1 ⟨x,H1,I1,r1,q1⟩=>⟨x,σ,H1,I1,r1,q1⟩)
def ZmS(c:TT)(t u:TS):TS:=fun D σ H=>c σ H fun b H1=>if b=true then t D σ H1 else u D σ H1
theorem Z2{c:Expr}{a b:List Stmt}{tc:TT}(hc:PT X c tc)(ha:PSs X a t)(hb:PSs X b u):PS X (.If c a b pos) (ZmS tc t u):=by
 intro pins s σ H D I h;refine wpAny_If (thn (hc pins s σ H _ I h) fun d s1 ⟨H1,I1,q1⟩=>?_);cases d with
 | true=>exact ha pins s1 σ H1 D I1 q1
 | false=>exact hb pins s1 σ H1 D I1 q1
def Zlf:TS:=fun _ _ _=>False
theorem Zbs:PS X st Zlf:=fun _ _ _ _ _ _ h=>h.elim
end
abbrev TG:=V->St->Hp->(St->Hp->Prop)->Prop
abbrev TGs:=List V->St->Hp->(St->Hp->Prop)->Prop
def PG(X:Cx)(target:Expr)(t:TG):Prop :=
 ∀(pins:List (Addr×Obj))(s:Shared)(σ : St)(H:Hp)(v:V)(u:Value)(Q:St->Hp->Prop),Inv X pins σ H s->RelV v u->t v σ H Q ->
  wpAny (model X.prog X.w) X.A (assign target X.env u) (fun _ s'=>∃ σ' H',Inv X pins σ' H' s'/\Q σ' H') X.xe s
def PGs(X:Cx)(ts:List Expr)(t:TGs):Prop :=
 ∀(pins:List (Addr×Obj))(s:Shared)(σ : St)(H:Hp)(vs:List V)(us:List Value)(Q:St->Hp->Prop),Inv X pins σ H s->Vals vs us->t vs σ H Q ->
  wpAny (model X.prog X.w) X.A (assignInOrder ((assignEach ts X.env).map (·.2)) us) (fun _ s'=>∃ σ' H',Inv X pins σ' H' s'/\Q σ' H') X.xe s
abbrev Zmi:=V->V->V->Hp->(Hp->Prop)->Prop
def Zms(X:Cx)(t:Zmi):Prop :=
 ∀(pins:List (Addr×Obj))(s:Shared)(σ : St)(H:Hp)(o i v:V)(ov iv u:Value)(Q:Hp->Prop),Inv X pins σ H s->RelV o ov->RelV i iv->RelV v u->t o i v H Q ->
  wpAny (model X.prog X.w) X.A (setItem ov iv u) (fun _ s'=>∃H',Inv X pins σ H' s'/\Q H') X.xe s
section
variable{X:Cx}{pos:Pos}
def ZjI(i:Nat):TG:=fun v σ H Q=>Q (σ.set i (some v)) H
theorem Zn{i:Nat}{x:Str}(hN:X.N.Nodup)(hi:X.N[i]?= some x)(hx:Loc X.env.scope x)(hf:X.fn x=true\/X.env.scope.names.lookup x=some .local:=by first|exact .inl rfl|exact .inr rfl|assumption):PG X (.Name x pos) (ZjI i):=by
 intro pins s σ H v u Q I r h;exact wpAny_assign_Name (Zeu I hN hi hx r (fun s' I'=>⟨_,H,I',h⟩) hf)
def ZmL:TGs:=fun vs σ H Q=>vs=[]/\Q σ H
def Zl2(t:TG)(u:TGs):TGs:=fun vs σ H Q=>∃v r,vs=v::r/\t v σ H fun σ' H'=>u r σ' H' Q
theorem ZaG:PGs X [] ZmL:=by
 intro pins s σ H vs us Q I r h;obtain⟨e,h⟩:=h;subst e;cases r;exact assignInOrder_nil ⟨σ,H,I,h⟩
theorem Zv{e:Expr}{es:List Expr}{t:TG}{u:TGs}(h1:PG X e t)(h2:PGs X es u)
  (hs:(assignEach (e::es) X.env).map (·.2)=assign e X.env::(assignEach es X.env).map (·.2):=by rfl):PGs X (e::es) (Zl2 t u):=by
 intro pins s σ H vs us Q I r h;obtain⟨v,vr,e1,h⟩:=h;subst e1;cases r with
 | cons r rr =>
  rw[hs];refine assignInOrder_cons (thn (h1 pins s σ H _ _ _ I r h) fun _ s1 ⟨σ1,H1,I1,q1⟩=>?_);exact h2 pins s1 σ1 H1 _ _ Q I1 rr q1
def Zmw(K:PySem.W.Frag)(n:Nat)(t:TGs):TG:=fun v σ H Q=>∃a xs,v=.ref a/\SqT K H a xs/\xs.length=n/\t xs σ H Q
theorem ZbH{es:List Expr}{k:Nat}{t:TGs}{n:Nat}(hc:X.calm=true)(h:PGs X es t)
  (hn:(assignEach es X.env).length=n:=by rfl) (hst:(assignEach es X.env).findIdx? (·.1)=none:=by rfl):PG X (.Tuple es k pos) (Zmw X.K n t):=by
 intro pins s σ H v u Q I r hw;obtain⟨a,xs,e1,hq,hl,hw⟩:=hw;subst e1;cases r;obtain⟨its,rv,ht,hz⟩:=I.tuple hq;refine assign_Tuple_tuple (I.ok.hd hc) ht (by simp[hn,<- hl,rv.length]) hst fun h' hx=>?_;have I1:Inv X pins σ H { s with heap:=h' }:=I.kept (t':=s.toks) fun b o e=>hx b o (Nat.ne_of_lt (Heap.lt_size e)) e;exact h pins _ σ H xs _ Q I1 (by simpa using rv) hw
def ZmC(to ti:TE)(t:Zmi):TG:=fun v σ H Q=>to σ H fun o H1=>ti σ H1 fun i H2=>t o i v H2 fun H3=>Q σ H3
theorem Zeb{o i:Expr}{to ti:TE}{t:Zmi}(ho:PE X o to)(hi:PE X i ti)(hs:Zms X t)
  (ha:∀v,assign (.Subscript o i pos) X.env v=(do
   let ov <- holding [v] (eval o X.env)
   let iv <- holding [v,ov] (eval i X.env)
   standAt pos
   holding [v,ov,iv] (setItem ov iv v)
   release [v,ov,iv] []):=by intro _;rfl):PG X (.Subscript o i pos) (ZmC to ti t):=by
 intro pins s σ H v u Q I r h;rw[ha];refine wpAny_bind (wpAny_holding (thn (ho pins s σ H _ I h) fun ov s1 ⟨x,H1,I1,r1,q1⟩=>?_));refine wpAny_bind (wpAny_holding (thn (hi pins s1 σ H1 _ I1 q1) fun iv s2 ⟨y,H2,I2,r2,q2⟩=>?_));refine wpAny_bind (wpAny_standAt (wpAny_bind (wpAny_holding (thn (hs pins s2 σ H2 x y v ov iv u _ I2 r1 r2 r q2) fun _ s3 ⟨H3,I3,q3⟩=>?_))));exact wpAny_release ⟨σ,H3,I3,q3⟩
def ZlU(te:TE)(g:TG):TS:=fun D σ H=>te σ H fun x H1=>g x σ H1 D.nx
theorem ZbY{tg e:Expr}{te:TE}{g:TG}(he:PE X e te)(hg:PG X tg g)(hs:swapsWithSole [tg] e pos.line X.env=pure false:=by rfl)(hw:swappedStores [tg] e X.env=pure none:=by rfl)
  (h1:(assignEach [tg] X.env).map (·.2)=[assign tg X.env]:=by rfl):PS X (.Assign [tg] e pos) (ZlU te g):=by
 intro pins s σ H D I h;refine wpAny_Assign_stores (thn (he pins s σ H _ I h) fun v s1 ⟨x,H1,I1,r1,q1⟩=>?_) hs hw;rw[h1];exact thn (hg pins s1 σ H1 x v _ I1 r1 q1) fun _ s2 q=>q
theorem Zt{i:Nat}{x:Str}{e:Expr}{te:TE}{pos':Pos}(hN:X.N.Nodup)(hi:X.N[i]?= some x)(hx:Loc X.env.scope x)(he:PE X e te)(hs:swapsWith e (some (.Name x pos')) pos.line X.env=pure false:=by rfl)(hf:X.fn x=true\/X.env.scope.names.lookup x=some .local:=by first|exact .inl rfl|exact .inr rfl|assumption) :
  PS X (.Assign [.Name x pos'] e pos) (ZlU te (ZjI i)):=by
 intro pins s σ H D I h;refine wpAny_Assign_Name (thn (he pins s σ H _ I h) fun v s1 ⟨y,H1,I1,r1,q1⟩=>?_) hs;exact Zeu I1 hN hi hx r1 (fun s2 I2=>⟨_,H1,I2,q1⟩) hf
def Zlu(c:TT)(tb:TS):TS:=fun D σ H=>∃W:Nat->St->Hp->Prop,(∃m,W m σ H)/\∀m σ H,W m σ H ->
 c σ H fun b H1=>if b=true then ∃N:St->Hp->Prop,(∀ σ' H',N σ' H'->∃m',m'<m/\W m' σ' H')/\tb { D with nx:=N,ct:=N,bk:=D.nx } σ H1 else D.nx σ H1
theorem Zcl{c:Expr}{body:List Stmt}{tc:TT}{tb:TS}(hp:PassesOwn (model X.prog X.w) X.A X.env X.xe)(hc:PT X c tc)(hb:PSs X body tb):PS X (.While c body [] pos) (Zlu tc tb):=by
 intro pins s σ H D I h;obtain⟨W,⟨m0,w0⟩,turn⟩:=h;refine wpAny_While (codeAny_whileLoop (fun n s'=>∃ σ' H',Inv X pins σ' H' s'/\W n σ' H') ?_ m0 ⟨σ,H,I,w0⟩);rintro n s1 ⟨σ1,H1,I1,w1⟩;refine wpAny_passesOwn hp (thn (hc pins s1 σ1 H1 _ I1 (turn n σ1 H1 w1)) fun b s2 ⟨H2,I2,q2⟩=>?_);cases b with
 | true =>
  obtain⟨N,hN,q2⟩:=q2;rw[if_pos rfl];refine wpAny_passesOwn hp (thn (hb pins s2 σ1 H2 _ I2 q2) fun f s3 q3=>?_);cases f with
  | next =>
   obtain⟨σ3,H3,I3,n3⟩:=q3;obtain⟨m',hm,w3⟩:=hN σ3 H3 n3;exact⟨m',hm,σ3,H3,I3,w3⟩
  | cont =>
   obtain⟨σ3,H3,I3,n3⟩:=q3;obtain⟨m',hm,w3⟩:=hN σ3 H3 n3;exact⟨m',hm,σ3,H3,I3,w3⟩
  | brk=>exact q3
  | ret v=>exact q3
 | false =>
  rw[if_neg Bool.false_ne_true];exact wpAny_execs_nil ⟨σ1,H2,I2,q2⟩
end
structure It where
 go:Nat->Hp->Prop
 yld:Nat->Hp->V->Hp->Prop
 stop:Nat->Hp->Prop
def ZcK(X:Cx)(pins:List (Addr×Obj))(H:Hp)(b:Addr):Prop :=
 H b=none/\b≠X.env.locals/\b∉X.fs/\(b∈X.ex\/X.s₀.heap.objs.size<=b)/\(∀x c,X.env.cells.lookup x=some c->c≠b)/\∀p∈X.pn++pins,p.1≠b
theorem Inv.fpOk{X:Cx}{pins:List (Addr×Obj)}{σ : St}{H H':Hp}{s:Shared}{b:Addr}(I:Inv X pins σ H s)(hb:s.heap.objs.size<=b)(hn:H' b=none):ZcK X pins H' b:=by
 refine⟨hn,Nat.ne_of_gt (Nat.lt_of_lt_of_le I.lt hb),I.nofs hb,.inr (Nat.le_trans I.sz hb),fun x c e z=>?_,fun p hp z=>?_⟩
 ·obtain⟨v,q⟩:=I.cell x c e;exact absurd (Nat.lt_of_lt_of_le q.lt (by rw[z];exact hb)) (Nat.lt_irrefl _)
 ·exact absurd (Nat.lt_of_lt_of_le (Heap.lt_size (I.pin p hp).1) (by rw[z];exact hb)) (Nat.lt_irrefl _)
structure Turn(P:Program)(w:World)(K:PySem.W.Frag)(tg:Expr)(J:It)(fp:List Addr)(it:Addr)(tn:Nat->Heap->Prop):Prop where
 mem:it∈fp
 obj:∀i h,tn i h->∀b∈fp,∃o,h.get? b=some o/\∀v,o.data ≠ .cell v
 keep:∀i h h',tn i h->(∀b∈fp,∀o,h.get? b=some o->h'.get? b=some o)->tn i h'
 item:∀(X:Cx),X.prog=P->X.w=w->X.K=K->X.calm=true->∀(i:Nat)(pins:List (Addr×Obj))(s:Shared)(σ : St)(H:Hp)(E:Value->Shared->Prop),Inv X pins σ H s->(∀b∈fp,ZcK X pins H b)->tn i s.heap->J.go i H ->
  wpAny (model P w) X.A (pyNext (.ref it)) (fun r s1=>∃u,r=some u /\
   wpAny (model P w) X.A (letOwnedTupleGo tg (.ref it) u) (fun _ s2=>∃x H',Inv X pins σ H' s2/\RelV x u/\J.yld i H x H'/\tn (i+1) s2.heap/\∀b∈fp,H' b=none) E s1) E s
 done:∀(X:Cx),X.prog=P->X.w=w->X.K=K->X.calm=true->∀(i:Nat)(pins:List (Addr×Obj))(s:Shared)(σ : St)(H:Hp)(E:Value->Shared->Prop),Inv X pins σ H s->(∀b∈fp,ZcK X pins H b)->tn i s.heap->J.stop i H ->
  wpAny (model P w) X.A (pyNext (.ref it)) (fun r s1=>r=none/\Inv X pins σ H s1) E s
 self:∀(A:Around)(i:Nat)(s:Shared)(Q:Value->Shared->Prop)(E:Value->Shared->Prop),tn i s.heap->Q (.ref it) s->wpAny (model P w) A (pyIter (.ref it)) Q E s
abbrev TI:=St->Hp->(It->Hp->Prop)->Prop
def PIE(X:Cx)(pins:List (Addr×Obj))(σ : St)(tg:Expr)(R:It->Hp->Prop)(itv:Value)(s2:Shared):Prop :=
 ∃(it:Addr)(fp:List Addr)(tn:Nat->Heap->Prop)(J:It)(H':Hp),itv=.ref it/\Inv X pins σ H' s2/\Turn X.prog X.w X.K tg J fp it tn/\tn 0 s2.heap/\(∀b∈fp,ZcK X pins H' b)/\R J H'
def PI(X:Cx)(tg iter:Expr)(wi:TI):Prop :=
 ∀(pins:List (Addr×Obj))(s:Shared)(σ : St)(H:Hp)(R:It->Hp->Prop),Inv X pins σ H s->wi σ H R ->
  wpAny (model X.prog X.w) X.A (eval iter X.env) (fun v s1=>wpAny (model X.prog X.w) X.A (pyIter v) (PIE X pins σ tg R) X.xe s1) X.xe s
theorem ZkM{M:Model}{A:Around}{E:Value->Shared->Prop}{s:Shared}{tg:Expr}{it:Addr}{u:Value}{o:Obj}{n:String}{vs:Array Value}{Q:Unit->Shared->Prop}(ho:s.heap.get? it=some o)(hc:o.cls=.type n)(hd:o.data=.fields vs)
    (hn:["enumerate","zip","dict_itemiterator","dict_reverseitemiterator","odict_iterator","itertools.zip_longest","itertools.pairwise"].contains n=false) (hQ:Q () s):wpAny M A (letOwnedTupleGo tg (.ref it) u) Q E s:=by
  unfold letOwnedTupleGo;cases tg <;> first
    | exact wpAny_pure hQ
    | (cases u <;> first
        | exact wpAny_pure hQ
        | (refine wpAny_bind (wpAny_load ho ?_)
           rw[hc,hd];show wpAny M A (if(["enumerate","zip","dict_itemiterator","dict_reverseitemiterator","odict_iterator","itertools.zip_longest","itertools.pairwise"].contains n&&vs[0]? == some (rawInt _))=true then _ else _) Q E s
           rw[if_neg (by intro h;rw[hn,Bool.false_and] at h;cases h)];exact wpAny_pure hQ))
def Itl(K:PySem.W.Frag)(a:Addr):It :=
 ⟨fun i H=>∃xs x,SqL K H a xs/\xs[i]?= some x,fun i H x H'=>H'=H/\∀xs,SqL K H a xs->xs[i]?= some x,fun i H=>∃xs,SqL K H a xs/\xs.length<=i⟩
def Itt(K:PySem.W.Frag)(a:Addr):It :=
 ⟨fun i H=>∃xs x,SqT K H a xs/\xs[i]?= some x,fun i H x H'=>H'=H/\∀xs,SqT K H a xs->xs[i]?= some x,fun i H=>∃xs,SqT K H a xs/\xs.length<=i⟩
def Itr(lo:Int)(n:Nat):It:=⟨fun i _=>i<n,fun i H x H'=>H'=H/\x=.int (lo+i),fun i _=>n<=i⟩
theorem ZiG{P:Program}{w:World}{K:PySem.W.Frag}{tg:Expr}(a it:Addr):Turn P w K tg (Itl K a) [it] it (fun i h=>h.IsListIter it a i) where
 mem:=by simp
 obj:=fun i h st b hb=>by
  have e:b=it:=by simpa using hb
  subst e;obtain⟨o,e,c,d⟩:=st;exact⟨o,e,fun v z=>by rw[d] at z;cases z⟩
 keep:=fun i h h' st k=>st.at fun o e=>k it (by simp) o e
 item:=by
  intro X hP hw hK hc i pins s σ H E I hf st hg;subst hP hw hK;obtain⟨xs,x,hq,hx⟩:=hg;obtain⟨its,rv,p,hz⟩:=I.list hq;obtain⟨u,hu,ru⟩:=rv.get hx;obtain⟨f0,f1,f2,f3,f4,f5⟩:=hf it (by simp);refine wpAny_pyNext_list_item st p.isList (x:=u) (by simpa using hu) fun h' st' sb=>?_;have I1:Inv X pins σ H { s with heap:=h' }:=I.turned (t':=s.toks) (fun b o hb e=>(sb.2 b hb).trans e) f0 f1 f3 f4 f5;obtain⟨o,e,c,d⟩:=id st';exact⟨u,rfl,ZkM (s:={ s with heap:=h' }) e c d (by decide) ⟨x,H,I1,ru,⟨rfl,fun ys hy=>by rw[I.list_inj hy hq];exact hx⟩,st',fun b hb=>(hf b hb).1⟩⟩
 done:=by
  intro X hP hw hK hc i pins s σ H E I hf st hg;subst hP hw hK;obtain⟨xs,hq,hx⟩:=hg;obtain⟨its,rv,p,hz⟩:=I.list hq;obtain⟨f0,f1,f2,f3,f4,f5⟩:=hf it (by simp);have hl:=rv.length;exact wpAny_pyNext_list_end (I.ok.hd hc) st p.isList (by simp;lia) fun h' eb=>⟨rfl,I.turned (t':=s.toks) (fun b o hb e=>eb b o hb e) f0 f1 f3 f4 f5⟩
 self:=fun _ _ _ _ _ st h=>wpAny_pyIter_listiter st h
theorem Zhy{P:Program}{w:World}{K:PySem.W.Frag}{tg:Expr}(a it:Addr):Turn P w K tg (Itt K a) [it] it (fun i h=>h.IsTupleIter it a i) where
 mem:=by simp
 obj:=fun i h st b hb=>by
  have e:b=it:=by simpa using hb
  subst e;obtain⟨o,e,c,d⟩:=st;exact⟨o,e,fun v z=>by rw[d] at z;cases z⟩
 keep:=fun i h h' st k=>st.at fun o e=>k it (by simp) o e
 item:=by
  intro X hP hw hK hc i pins s σ H E I hf st hg;subst hP hw hK;obtain⟨xs,x,hq,hx⟩:=hg;obtain⟨its,rv,p,hz⟩:=I.tuple hq;obtain⟨u,hu,ru⟩:=rv.get hx;obtain⟨f0,f1,f2,f3,f4,f5⟩:=hf it (by simp);refine wpAny_pyNext_tuple_item st (show s.heap.IsTuple a its.toArray from p) (x:=u) (by simpa using hu) fun h' st' sb=>?_;have I1:Inv X pins σ H { s with heap:=h' }:=I.turned (t':=s.toks) (fun b o hb e=>(sb.2 b hb).trans e) f0 f1 f3 f4 f5;obtain⟨o,e,c,d⟩:=id st';exact⟨u,rfl,ZkM (s:={ s with heap:=h' }) e c d (by decide) ⟨x,H,I1,ru,⟨rfl,fun ys hy=>by rw[I.tuple_inj hy hq];exact hx⟩,st',fun b hb=>(hf b hb).1⟩⟩
 done:=by
  intro X hP hw hK hc i pins s σ H E I hf st hg;subst hP hw hK;obtain⟨xs,hq,hx⟩:=hg;obtain⟨its,rv,p,hz⟩:=I.tuple hq;obtain⟨f0,f1,f2,f3,f4,f5⟩:=hf it (by simp);have hl:=rv.length;exact wpAny_pyNext_tuple_end (I.ok.hd hc) st (show s.heap.IsTuple a its.toArray from p) (by simp;lia) fun h' eb=>⟨rfl,I.turned (t':=s.toks) (fun b o hb e=>eb b o hb e) f0 f1 f3 f4 f5⟩
 self:=fun _ _ _ _ _ st h=>wpAny_pyIter_tupleiter st h
theorem Zhw{P:Program}{w:World}{K:PySem.W.Frag}{tg:Expr}(it:Addr)(lo:Int)(n:Nat):Turn P w K tg (Itr lo n) [it] it (fun i h=>IsRangeIter h it (lo+(i:Nat)*1) ((n:Int)-(i:Nat)) 1) where
 mem:=by simp
 obj:=fun i h st b hb=>by
  have e:b=it:=by simpa using hb
  subst e;exact⟨_,st,fun v z=>by
   have z':Data.fields _=Data.cell v:=z;cases z'⟩
 keep:=fun i h h' st k=>k it (by simp) _ st
 item:=by
  intro X hP hw hK hc i pins s σ H E I hf st hg;subst hP hw hK;obtain⟨f0,f1,f2,f3,f4,f5⟩:=hf it (by simp);have W:=Walks.range (prog:=X.prog) (w:=X.w) (I.ok.hd hc) it lo 1 n;refine W.item i s _ _ hg st fun v h' tk hv st' kk=>?_;obtain⟨t,rfl⟩:=hv;have I1:Inv X pins σ H { s with heap:=h',toks:=tk }:=I.turned (fun b o hb e=>kk b o (by simpa using hb) e) f0 f1 f3 f4 f5;refine⟨_,rfl,ZkM (s:={ s with heap:=h',toks:=tk }) (n := "range_iterator") st' rfl rfl (by decide) ⟨.int (lo+i),H,I1,⟨t,?_⟩,⟨rfl,rfl⟩,st',fun b hb=>(hf b hb).1⟩⟩;rw[Int.mul_one]
 done:=by
  intro X hP hw hK hc i pins s σ H E I hf st hg;subst hP hw hK;obtain⟨f0,f1,f2,f3,f4,f5⟩:=hf it (by simp);exact wpAny_pyNext_range_end (I.ok.hd hc) st (by have:n<=i:=hg;lia) fun h' eb=>⟨rfl,I.turned (t':=s.toks) (fun b o hb e=>eb b o hb e) f0 f1 f3 f4 f5⟩
 self:=fun _ _ _ _ _ st h=>wpAny_pyIter_rangeiter st h
section
variable{X:Cx}{tg:Expr}
def Zki(K:PySem.W.Frag)(tl:TE):TI:=fun σ H R=>tl σ H fun x H1=>∃a,x=.ref a/\(∃xs,SqL K H1 a xs)/\R (Itl K a) H1
def Zmq(K:PySem.W.Frag)(tl:TE):TI:=fun σ H R=>tl σ H fun x H1=>∃a,x=.ref a/\(∃xs,SqT K H1 a xs)/\R (Itt K a) H1
theorem ZaS{l:Expr}{tl:TE}(hl:PE X l tl):PI X tg l (Zki X.K tl):=by
 intro pins s σ H R I h;refine thn (hl pins s σ H _ I h) fun v s1 ⟨x,H1,I1,r1,q1⟩=>?_;obtain⟨a,e,⟨xs,hq⟩,q⟩:=q1;subst e;cases r1;obtain⟨its,rv,p,hz⟩:=I1.list hq;refine wpAny_pyIter_list p.isList ?_;refine⟨s1.heap.objs.size,[s1.heap.objs.size],_,_,H1,rfl,I1.kept (t':=s1.toks) fun b o e=>Heap.get?_push_of_some _ e,ZiG a _,⟨_,Heap.get?_push_size _ rfl,rfl,rfl⟩,fun b hb=>?_,q⟩;have e:b=s1.heap.objs.size:=by simpa using hb
 subst e;exact I1.fpOk (Nat.le_refl _) (I1.hok.fresh (Nat.le_refl _))
theorem Zdl{l:Expr}{tl:TE}(hl:PE X l tl):PI X tg l (Zmq X.K tl):=by
 intro pins s σ H R I h;refine thn (hl pins s σ H _ I h) fun v s1 ⟨x,H1,I1,r1,q1⟩=>?_;obtain⟨a,e,⟨xs,hq⟩,q⟩:=q1;subst e;cases r1;obtain⟨its,rv,p,hz⟩:=I1.tuple hq;refine wpAny_pyIter_tuple (show s1.heap.IsTuple a its.toArray from p) ?_;refine⟨s1.heap.objs.size,[s1.heap.objs.size],_,_,H1,rfl,I1.kept (t':=s1.toks) fun b o e=>Heap.get?_push_of_some _ e,Zhy a _,⟨_,Heap.get?_push_size _ rfl,rfl,rfl⟩,fun b hb=>?_,q⟩;have e:b=s1.heap.objs.size:=by simpa using hb
 subst e;exact I1.fpOk (Nat.le_refl _) (I1.hok.fresh (Nat.le_refl _))
theorem Zjg{pins:List (Addr×Obj)}{σ : St}{H:Hp}{s:Shared}{R:It->Hp->Prop}{E:Value->Shared->Prop}{lo hi:Int}{t u v:Tok}{tk:Nat}(I:Inv X pins σ H s)(h1 : -(2 ^ 62)<=lo)(h2:lo<2 ^ 62)(h3 : -(2 ^ 62)<=hi)(h4:hi<2 ^ 62)
  (q:R (Itr lo (hi-lo).toNat) H):wpAny (model X.prog X.w) X.A (pyIter (.ref s.heap.objs.size)) (PIE X pins σ tg R) E { s with heap:=s.heap.push { cls:=.type "range",data:=.fields #[.int lo t,.int hi u,.int 1 v] },toks:=tk }:=by
 refine wpAny_pyIter_range (IsRange.new ..) (small_one h1 h2 h3 h4) ?_;have I1:Inv X pins σ H { s with heap:=s.heap.push { cls:=.type "range",data:=.fields #[.int lo t,.int hi u,.int 1 v] },toks:=tk }:=I.kept fun b o e=>Heap.get?_push_of_some _ e;refine⟨(s.heap.push { cls:=.type "range",data:=.fields #[.int lo t,.int hi u,.int 1 v] }).objs.size,[(s.heap.push { cls:=.type "range",data:=.fields #[.int lo t,.int hi u,.int 1 v] }).objs.size],_,_,H,rfl,
  I1.kept (t':=tk) fun b o e=>Heap.get?_push_of_some _ e,Zhw _ lo (hi-lo).toNat,?_,fun b hb=>?_,q⟩
 ·have e1:lo+((0:Nat):Int)*1=lo:=by simp
  have e2:(((hi-lo).toNat:Nat):Int)-((0:Nat):Int)=Builtin.Range.rangeSize lo hi 1:=by rw[rangeSize_one];split <;> lia
  show IsRangeIter _ _ (lo+((0:Nat):Int)*1) ((((hi-lo).toNat:Nat):Int)-((0:Nat):Int)) 1;rw[e1,e2];exact Heap.get?_push_size _ rfl
 ·have e:b=(s.heap.push { cls:=.type "range",data:=.fields #[.int lo t,.int hi u,.int 1 v] }).objs.size:=by simpa using hb
  subst e;exact I1.fpOk (Nat.le_refl _) (I1.hok.fresh (Nat.le_refl _))
def Zmn(ta:TA):TI:=fun σ H R=>ta σ H fun vs H1=>∃j:Int,vs=[.int j] /\ -(2 ^ 62)<=j/\j<2 ^ 62/\R (Itr 0 j.toNat) H1
theorem ZaU{a:Expr}{ta:TA}{p pos:Pos}(hg:Gl X "range") (hm:X.mg "range" = none) (ha:PA X [a] ta) (hs:starEach [a] X.env=[(false,eval a X.env)]:=by rfl):PI X tg (.Call (.Name "range" p) [a] [] pos) (Zmn ta):=by
 intro pins s σ H R I h;refine Call_ (Zfo I hg hm boot_range (PyProof.Rows.callWith_type1 (thn (ha pos pins s σ H _ I h) fun us s1 ⟨vs,H1,I1,r1,q1⟩=>?_) hs rfl));obtain⟨j,e,q1,q2,q⟩:=q1;subst e;cases r1 with
 | cons r rr =>
  cases rr;obtain⟨t,rfl⟩:=r;exact call_range_1 (Zjg I1 (by lia) (by lia) q1 q2 (by simpa using q))
def ZmN(wi:TI)(g:TG)(tb:TS):TS:=fun D σ H=>wi σ H fun J H1=>∃W:Nat->Nat->St->Hp->Prop,(∃m,W 0 m σ H1)/\∀i m σ H,W i m σ H ->
 (J.stop i H/\D.nx σ H)\/(J.go i H/\∃N:St->Hp->Prop,(∀ σ' H',N σ' H'->∃m',m'<m/\W (i+1) m' σ' H')/\∀x H',J.yld i H x H'->g x σ H' fun σ2 H2=>tb { D with nx:=N,ct:=N,bk:=D.nx } σ2 H2)
def Zgs(fp:List Addr)(h:Heap):List (Addr×Obj):=fp.filterMap fun b=>(h.get? b).map fun o=>(b,o)
theorem ZaZ{fp:List Addr}{h:Heap}{b:Addr}{o:Obj}(hb:b∈fp)(e:h.get? b=some o):(b,o)∈Zgs fp h:=List.mem_filterMap.mpr ⟨b,hb,by rw[e];rfl⟩
theorem Zix{fp:List Addr}{h:Heap}{p:Addr×Obj}(hp:p∈Zgs fp h):p.1∈fp/\h.get? p.1=some p.2:=by
 obtain⟨b,hb,e⟩:=List.mem_filterMap.mp hp;cases q:h.get? b with
 | none=>rw[q] at e;cases e
 | some o =>
  rw[q] at e;have e':(b,o)=p:=Option.some.inj e;subst e';exact⟨hb,q⟩
theorem Inv.pinned{pins:List (Addr×Obj)}{σ : St}{H:Hp}{s:Shared}{fp:List Addr}(I:Inv X pins σ H s)(hf:∀b∈fp,ZcK X pins H b)(ho:∀b∈fp,∃o,s.heap.get? b=some o/\∀v,o.data ≠ .cell v):Inv X (pins++Zgs fp s.heap) σ H s :=
 I.pins_of fun p hp=>(List.mem_append.mp hp).elim (fun z=>I.pin p (List.mem_append_right _ z)) fun z=>by
  obtain⟨hb,e⟩:=Zix z;obtain⟨f0,f1,f2,_⟩:=hf p.1 hb;obtain⟨o,e',d⟩:=ho p.1 hb;rw[e] at e';cases e';exact⟨e,f0,f1,f2,d⟩
theorem Inv.unpinned{pins pl:List (Addr×Obj)}{σ : St}{H:Hp}{s:Shared}(I:Inv X (pins++pl) σ H s):Inv X pins σ H s:=I.pins_of fun p hp=>I.pin p (List.mem_append_right _ (List.mem_append_left _ hp))
theorem Za7{iter:Expr}{body:List Stmt}{wi:TI}{g:TG}{tb:TS}{pos:Pos}(hp:PassesOwn (model X.prog X.w) X.A X.env X.xe)(hc:X.calm=true)(hi:PI X tg iter wi)(hg:PG X tg g)(hb:PSs X body tb)
  (hs:∀x,foldedSetIterable iter X.env x=pure x:=by intro _;rfl):PS X (.For tg iter body [] pos) (ZmN wi g tb):=by
 intro pins s σ H D I h;refine wpAny_For (thn (hi pins s σ H _ I h) fun v s1 h1=>thn h1 fun itv s2 h2=>?_) hs;obtain⟨it,fp,tn,J,H2,e,I2,T,st2,f2,W,⟨m0,w0⟩,turn⟩:=h2;subst e;have stat:∀{H':Hp},(∀b∈fp,H' b=none)->∀b∈fp,ZcK X pins H' b:=fun hn b hb=>⟨hn b hb,(f2 b hb).2⟩;refine codeAny_forLoop_any (fun n s'=>∃i σ' H',Inv X pins σ' H' s'/\tn i s'.heap/\(∀b∈fp,H' b=none)/\W i n σ' H') ?_ m0 ⟨0,σ,H2,I2,st2,fun b hb=>(f2 b hb).1,w0⟩;rintro n s3 ⟨i,σ3,H3,I3,st3,fr3,w3⟩;rcases turn i n σ3 H3 w3 with⟨stop,qn⟩|⟨go,N,hN,step⟩
 ·refine wpAny_passesOwn hp (thn (T.done X rfl rfl rfl hc i pins s3 σ3 H3 X.xe I3 (stat fr3) st3 stop) fun r s4 ⟨hr,I4⟩=>?_);subst hr;exact wpAny_execs_nil ⟨σ3,H3,I4,qn⟩
 ·refine wpAny_passesOwn hp (thn (T.item X rfl rfl rfl hc i pins s3 σ3 H3 X.xe I3 (stat fr3) st3 go) fun r s4 ⟨u,hr,h4⟩=>?_);subst hr;refine wpAny_passesOwn hp (thn h4 fun _ s5 ⟨x,H5,I5,r5,y5,st5,fr5⟩=>?_);have I5':=I5.pinned (stat fr5) (T.obj _ _ st5);refine wpAny_passesOwn hp (thn (hg _ s5 σ3 H5 x u _ I5' r5 (step x H5 y5)) fun _ s6 ⟨σ6,H6,I6,q6⟩=>?_);refine wpAny_passesOwn hp (thn (hb _ s6 σ6 H6 _ I6 q6) fun f s7 q7=>?_);have again:∀{σ7:St}{H7:Hp},Inv X (pins++Zgs fp s5.heap) σ7 H7 s7->N σ7 H7->∃m,m<n/\∃i σ' H',Inv X pins σ' H' s7/\tn i s7.heap/\(∀b∈fp,H' b=none)/\W i m σ' H':=fun{σ7 H7} I7 n7=>by
   obtain⟨m',hm,w7⟩:=hN σ7 H7 n7;refine⟨m',hm,i+1,σ7,H7,I7.unpinned,T.keep _ _ _ st5 fun b hb o e=>(I7.pin (b,o) (List.mem_append_right _ (List.mem_append_right _ (ZaZ hb e)))).1,fun b hb=>?_,w7⟩;obtain⟨o,e,d⟩:=T.obj _ _ st5 b hb;exact(I7.pin (b,o) (List.mem_append_right _ (List.mem_append_right _ (ZaZ hb e)))).2.1
  cases f with
  | next=>obtain⟨σ7,H7,I7,n7⟩:=q7;exact again I7 n7
  | cont=>obtain⟨σ7,H7,I7,n7⟩:=q7;exact again I7 n7
  | brk=>obtain⟨σ7,H7,I7,q7⟩:=q7;exact⟨σ7,H7,I7.unpinned,q7⟩
  | ret v=>obtain⟨x7,σ7,H7,I7,r7,q7⟩:=q7;exact⟨x7,σ7,H7,I7.unpinned,r7,q7⟩
end
theorem ZbT{K:PySem.W.Frag}{a:Addr}{xs:List V}{g:TG}{tb:TS}{D:Ends}{σ : St}{H:Hp}(Pv:Nat->St->Hp->Prop)(h0:Pv 0 σ H)(hl:∀i σ H,i<=xs.length->Pv i σ H->SqL K H a xs)
  (hs:∀i x σ H,xs[i]?= some x->Pv i σ H->g x σ H fun σ2 H2=>tb { D with nx:=Pv (i+1),ct:=Pv (i+1),bk:=D.nx } σ2 H2) (hd:∀ σ H,Pv xs.length σ H->D.nx σ H) :
  ∃W:Nat->Nat->St->Hp->Prop,(∃m,W 0 m σ H)/\∀i m σ H,W i m σ H ->
   ((Itl K a).stop i H/\D.nx σ H)\/((Itl K a).go i H/\∃N:St->Hp->Prop,(∀ σ' H',N σ' H'->∃m',m'<m/\W (i+1) m' σ' H')/\∀x H',(Itl K a).yld i H x H'->g x σ H' fun σ2 H2=>tb { D with nx:=N,ct:=N,bk:=D.nx } σ2 H2):=by
 refine⟨fun i m σ H=>m=xs.length-i/\i<=xs.length/\Pv i σ H,⟨xs.length,by simp,Nat.zero_le _,h0⟩,?_⟩;rintro i m σ H ⟨rfl,hi,p⟩;have q:=hl i σ H hi p;by_cases hlt:i<xs.length
 ·refine .inr ⟨⟨xs,xs[i],q,by simp[hlt]⟩,Pv (i+1),fun σ' H' p'=>⟨xs.length-(i+1),by lia,rfl,hlt,p'⟩,fun x H' y=>?_⟩;obtain⟨e,y⟩:=y;subst e;exact hs i x σ _ (y xs q) p
 ·have e:i=xs.length:=by lia
  subst e;exact .inl ⟨⟨xs,q,Nat.le_refl _⟩,hd σ H p⟩
theorem ZeG{K:PySem.W.Frag}{a:Addr}{xs:List V}{g:TG}{tb:TS}{D:Ends}{σ : St}{H:Hp}(Pv:Nat->St->Hp->Prop)(h0:Pv 0 σ H)(hl:∀i σ H,i<=xs.length->Pv i σ H->SqT K H a xs)
  (hs:∀i x σ H,xs[i]?= some x->Pv i σ H->g x σ H fun σ2 H2=>tb { D with nx:=Pv (i+1),ct:=Pv (i+1),bk:=D.nx } σ2 H2) (hd:∀ σ H,Pv xs.length σ H->D.nx σ H) :
  ∃W:Nat->Nat->St->Hp->Prop,(∃m,W 0 m σ H)/\∀i m σ H,W i m σ H ->
   ((Itt K a).stop i H/\D.nx σ H)\/((Itt K a).go i H/\∃N:St->Hp->Prop,(∀ σ' H',N σ' H'->∃m',m'<m/\W (i+1) m' σ' H')/\∀x H',(Itt K a).yld i H x H'->g x σ H' fun σ2 H2=>tb { D with nx:=N,ct:=N,bk:=D.nx } σ2 H2):=by
 refine⟨fun i m σ H=>m=xs.length-i/\i<=xs.length/\Pv i σ H,⟨xs.length,by simp,Nat.zero_le _,h0⟩,?_⟩;rintro i m σ H ⟨rfl,hi,p⟩;have q:=hl i σ H hi p;by_cases hlt:i<xs.length
 ·refine .inr ⟨⟨xs,xs[i],q,by simp[hlt]⟩,Pv (i+1),fun σ' H' p'=>⟨xs.length-(i+1),by lia,rfl,hlt,p'⟩,fun x H' y=>?_⟩;obtain⟨e,y⟩:=y;subst e;exact hs i x σ _ (y xs q) p
 ·have e:i=xs.length:=by lia
  subst e;exact .inl ⟨⟨xs,q,Nat.le_refl _⟩,hd σ H p⟩
theorem ZbE{lo:Int}{n:Nat}{g:TG}{tb:TS}{D:Ends}{σ : St}{H:Hp}(Pv:Nat->St->Hp->Prop)(h0:Pv 0 σ H)
  (hs:∀i σ H,i<n->Pv i σ H->g (.int (lo+i)) σ H fun σ2 H2=>tb { D with nx:=Pv (i+1),ct:=Pv (i+1),bk:=D.nx } σ2 H2) (hd:∀ σ H,Pv n σ H->D.nx σ H) :
  ∃W:Nat->Nat->St->Hp->Prop,(∃m,W 0 m σ H)/\∀i m σ H,W i m σ H ->
   ((Itr lo n).stop i H/\D.nx σ H)\/((Itr lo n).go i H/\∃N:St->Hp->Prop,(∀ σ' H',N σ' H'->∃m',m'<m/\W (i+1) m' σ' H')/\∀x H',(Itr lo n).yld i H x H'->g x σ H' fun σ2 H2=>tb { D with nx:=N,ct:=N,bk:=D.nx } σ2 H2):=by
 refine⟨fun i m σ H=>m=n-i/\i<=n/\Pv i σ H,⟨n,by simp,Nat.zero_le _,h0⟩,?_⟩;rintro i m σ H ⟨rfl,hi,p⟩;by_cases hlt:i<n
 ·refine .inr ⟨hlt,Pv (i+1),fun σ' H' p'=>⟨n-(i+1),by lia,rfl,hlt,p'⟩,fun x H' y=>?_⟩;obtain⟨e,y⟩:=y;subst e y;exact hs i σ _ hlt p
 ·have e:i=n:=by lia
  subst e;exact .inl ⟨Nat.le_refl _,hd σ H p⟩
abbrev R2:=V->V->Hp->VK->Prop
def OpR(X:Cx)(f:Value->Value->Sem Value)(r:R2):Prop :=
 ∀(pins:List (Addr×Obj))(s:Shared)(σ : St)(H:Hp)(x y:V)(v u:Value)(Q:VK),Inv X pins σ H s->RelV x v->RelV y u->r x y H Q ->
  wpAny (model X.prog X.w) X.A (f v u) (EP X pins σ Q) X.xe s
def UnR(X:Cx)(f:Value->Sem Value)(r:V->Hp->VK->Prop):Prop :=
 ∀(pins:List (Addr×Obj))(s:Shared)(σ : St)(H:Hp)(x:V)(v:Value)(Q:VK),Inv X pins σ H s->RelV x v->r x H Q ->
  wpAny (model X.prog X.w) X.A (f v) (EP X pins σ Q) X.xe s
def Zbq(X:Cx)(f:Value)(r:List V->Hp->VK->Prop):Prop :=
 ∀(pins:List (Addr×Obj))(s:Shared)(σ : St)(H:Hp)(xs:List V)(us:List Value)(Q:VK),Inv X pins σ H s->Vals xs us->r xs H Q ->
  wpAny (model X.prog X.w) X.A (call f us) (EP X pins σ Q) X.xe s
def ZmU(X:Cx)(r:V->Hp->(Bool->Hp->Prop)->Prop):Prop :=
 ∀(pins:List (Addr×Obj))(s:Shared)(σ : St)(H:Hp)(x:V)(v:Value)(Q:Bool->Hp->Prop),Inv X pins σ H s->RelV x v->r x H Q ->
  wpAny (model X.prog X.w) X.A (truthy v) (TP X pins σ Q) X.xe s
def tOp(r:R2)(ta tb:TE):TE:=fun σ H Q=>ta σ H fun x H1=>tb σ H1 fun y H2=>r x y H2 Q
def tUn(r:V->Hp->VK->Prop)(ta:TE):TE:=fun σ H Q=>ta σ H fun x H1=>r x H1 Q
def rI(C:Int->Int->Prop)(g:Int->Int->V):R2:=fun x y H Q=>∃i j,x=.int i/\y=.int j/\C i j/\Q (g i j) H
def rI0(g:Int->Int->V):R2:=fun x y H Q=>∃i j,x=.int i/\y=.int j/\Q (g i j) H
def rU(g:Int->V):V->Hp->VK->Prop:=fun x H Q=>∃i,x=.int i/\Q (g i) H
section
variable{X:Cx}{a b c:Expr}{ta tb tc:TE}{pos:Pos}
theorem Zmc(ha:PE X a ta)(hb:PE X b tb){pins:List (Addr×Obj)}{s:Shared}{σ : St}{H:Hp}{R:V->V->Hp->Prop}(I:Inv X pins σ H s)
  (h:ta σ H fun x H1=>tb σ H1 fun y H2=>R x y H2) {Q:Value->Shared->Prop} {f:Value->Value->Sem Value}
  (hf:∀v u s2 x y H2,Inv X pins σ H2 s2->RelV x v->RelV y u->R x y H2->wpAny (model X.prog X.w) X.A (f v u) Q X.xe s2) :
  wpAny (model X.prog X.w) X.A (eval a X.env) (fun v s₁=>wpAny (model X.prog X.w) X.A (eval b X.env) (fun u s₂=>wpAny (model X.prog X.w) X.A (f v u) Q X.xe s₂) X.xe s₁) X.xe s:=by
 refine thn (ha pins s σ H _ I h) fun v s1 ⟨x,H1,I1,r1,q1⟩=>?_;refine thn (hb pins s1 σ H1 _ I1 q1) fun u s2 ⟨y,H2,I2,r2,q2⟩=>?_;exact hf v u s2 x y H2 I2 r1 r2 q2
theorem ZK{op:Operator}{r:R2}(ho:OpR X (binaryOp op) r)(ha:PE X a ta)(hb:PE X b tb):PE X (.BinOp a op b pos) (tOp r ta tb):=by
 intro pins s σ H Q I h;exact wpAny_BinOp (Zmc ha hb I h fun v u s2 x y H2 I2 rx ry q=>ho pins s2 σ H2 x y v u Q I2 rx ry q)
theorem Zmj{op:UnaryOp}{r:V->Hp->VK->Prop}(ho:UnR X (unaryOp op) r)(ha:PE X a ta):PE X (.UnaryOp op a pos) (tUn r ta):=by
 intro pins s σ H Q I h;exact UnaryOp_ (thn (ha pins s σ H _ I h) fun v s1 ⟨x,H1,I1,r1,q1⟩=>ho pins s1 σ H1 x v Q I1 r1 q1)
theorem opI{f:Value->Value->Sem Value}{C:Int->Int->Prop}{g:Int->Int->Int}
  (rule:∀(i j:Int)(t u:Tok)(s:Shared)(Q:Value->Shared->Prop)(E:Value->Shared->Prop),C i j->Q (.int (g i j) s.toks) { s with toks:=s.toks+1 }->wpAny (model X.prog X.w) X.A (f (.int i t) (.int j u)) Q E s) :
  OpR X f (rI C fun i j=>.int (g i j)):=by
 intro pins s σ H x y v u Q I rx ry h;obtain⟨i,j,rfl,rfl,hc,q⟩:=h;obtain⟨t,rfl⟩:=rx;obtain⟨t',rfl⟩:=ry;exact rule i j t t' s _ _ hc ⟨.int (g i j),H,I.tok _,⟨_,rfl⟩,q⟩
theorem Zmy{f:Value->Value->Sem Value}{g:Int->Int->Int}
  (rule:∀(i j:Int)(t u:Tok)(s:Shared)(Q:Value->Shared->Prop)(E:Value->Shared->Prop),Q (.int (g i j) s.toks) { s with toks:=s.toks+1 }->wpAny (model X.prog X.w) X.A (f (.int i t) (.int j u)) Q E s) :
  OpR X f (rI0 fun i j=>.int (g i j)):=by
 intro pins s σ H x y v u Q I rx ry h;obtain⟨i,j,rfl,rfl,q⟩:=h;obtain⟨t,rfl⟩:=rx;obtain⟨t',rfl⟩:=ry;exact rule i j t t' s _ _ ⟨.int (g i j),H,I.tok _,⟨_,rfl⟩,q⟩
theorem Zmk{f:Value->Value->Sem Value}{g:Int->Int->Bool}
  (rule:∀(i j:Int)(t u:Tok)(s:Shared)(Q:Value->Shared->Prop)(E:Value->Shared->Prop),Q (.bool (g i j)) s->wpAny (model X.prog X.w) X.A (f (.int i t) (.int j u)) Q E s) :
  OpR X f (rI0 fun i j=>.bl (g i j)):=by
 intro pins s σ H x y v u Q I rx ry h;obtain⟨i,j,rfl,rfl,q⟩:=h;obtain⟨t,rfl⟩:=rx;obtain⟨t',rfl⟩:=ry;exact rule i j t t' s _ _ ⟨.bl (g i j),H,I,rfl,q⟩
def Zmp(i j:Int):Prop:=0<j/\j<1073741824
def Zma(i j:Int):Prop:=(-(2 ^ 64)<i/\i<2 ^ 64)\/(-(2 ^ 64)<j/\j<2 ^ 64)
theorem Zma.ok{i j:Int}(h:Zma i j):IntMulOk i j:=by
 rcases h with⟨h1,h2⟩|⟨h1,h2⟩
 ·exact .of_left (intBits_le_64 h1 h2)
 ·exact .of_right (intBits_le_64 h1 h2)
theorem Zca:OpR X (binaryOp .Add) (rI0 fun i j=>.int (i+j)):=Zmy fun _ _ _ _ _ _ _ q=>add_int q
theorem Zb6:OpR X (binaryOp .Sub) (rI0 fun i j=>.int (i-j)):=Zmy fun _ _ _ _ _ _ _ q=>sub_int q
theorem ZhF:OpR X (binaryOp .Mult) (rI Zma fun i j=>.int (i*j)):=opI fun _ _ _ _ _ _ _ hc q=>mul_int q hc.ok
theorem Zbk:OpR X (binaryOp .FloorDiv) (rI Zmp fun i j=>.int (i / j)):=opI fun i j _ _ _ _ _ hc q=>by
 have h1:(0:Int)<j:=hc.1;have h2:j<1073741824:=hc.2;exact floordiv_int (by lia) (by rw[Int.fdiv_eq_ediv_of_nonneg i (by lia)];exact q) (.inl (PyProof.noPylong_small (by lia)))
theorem Za9:OpR X (binaryOp .Mod) (rI (fun _ j=>0<j) fun i j=>.int (i % j)):=opI fun i j _ _ _ _ _ hc q=>by
 have h1:(0:Int)<j:=hc;exact mod_int' (by lia) (by rw[Int.fmod_eq_emod_of_nonneg i (by lia)];exact q)
theorem unI{f:Value->Sem Value}{g:Int->Int}
  (rule:∀(i:Int)(t:Tok)(s:Shared)(Q:Value->Shared->Prop)(E:Value->Shared->Prop),Q (.int (g i) s.toks) { s with toks:=s.toks+1 }->wpAny (model X.prog X.w) X.A (f (.int i t)) Q E s) :
  UnR X f (rU fun i=>.int (g i)):=by
 intro pins s σ H x v Q I rx h;obtain⟨i,rfl,q⟩:=h;obtain⟨t,rfl⟩:=rx;exact rule i t s _ _ ⟨.int (g i),H,I.tok _,⟨_,rfl⟩,q⟩
theorem Zk0:UnR X (unaryOp .USub) (rU fun i=>.int (-i)):=unI fun _ _ _ _ _ q=>neg_int q
end
def Zmr:V->V->Bool
 | .non,.non=>true | .non,.int _=>true | .int _,.non=>true | .non,.bl _=>true | .bl _,.non=>true | .non,.str _=>true | .str _,.non=>true
 | .int _,.int _=>true | .bl _,.bl _=>true | .str _,.str _=>true | .byt _,.byt _=>true
 | .int _,.str _=>true | .str _,.int _=>true | .bl _,.str _=>true | .str _,.bl _=>true
 | _,_=>false
def rEq:R2:=fun x y H Q=>Zmr x y=true/\Q (.bl (decide (x=y))) H
def rNe:R2:=fun x y H Q=>Zmr x y=true/\Q (.bl (!decide (x=y))) H
theorem Zig{i j:Int}:decide (V.int i=V.int j)=(i == j):=by
 rw[Bool.eq_iff_iff];simp
theorem ZjT{i j:Bool}:decide (V.bl i=V.bl j)=(i == j):=by
 rw[Bool.eq_iff_iff];simp
theorem ZiP{i j:Str}:decide (V.str i=V.str j)=(i == j):=by
 rw[Bool.eq_iff_iff];simp
theorem Zib{i j:Array UInt8}:decide (V.byt i=V.byt j)=(i.toList == j.toList):=by
 rw[Bool.eq_iff_iff];cases i;cases j;simp
section
variable{X:Cx}{a b c:Expr}{ta tb tc:TE}{pos:Pos}
theorem Zao{pins:List (Addr×Obj)}{σ : St}{H:Hp}{s:Shared}{Q:VK}{k k':Bool}(I:Inv X pins σ H s)(q:Q (.bl k) H)(e:k=k'):EP X pins σ Q (.bool k') s:=by
 subst e;exact⟨.bl k,H,I,rfl,q⟩
theorem ZaM:OpR X (compareOp .Eq) rEq:=by
 intro pins s σ H x y v u Q I rx ry h;obtain⟨hs,q⟩:=h;cases x with
 | non =>
  cases rx;cases y with
  | non=>cases ry;exact PySem.EqNone.eq_none_none (Zao I q (by simp))
  | bl j=>cases ry;exact PySem.EqNone.eq_none_bool (Zao I q (by simp))
  | int j=>obtain⟨t',rfl⟩:=ry;exact PySem.EqNone.eq_none_int (Zao I q (by simp))
  | str j=>obtain⟨t',rfl⟩:=ry;exact PySem.EqNone.eq_none_str (Zao I q (by simp))
  | _=>exact absurd (show false=true from hs) Bool.false_ne_true
 | bl i =>
  cases rx;cases y with
  | non=>cases ry;exact PySem.EqNone.eq_bool_none (Zao I q (by simp))
  | bl j=>cases ry;exact eq_bool (Zao I q ZjT)
  | str j=>obtain⟨t',rfl⟩:=ry;exact PySem.EqMixed.eq_bool_str (Zao I q (by simp))
  | _=>exact absurd (show false=true from hs) Bool.false_ne_true
 | int i =>
  obtain⟨t,rfl⟩:=rx;cases y with
  | non=>cases ry;exact PySem.EqNone.eq_int_none (Zao I q (by simp))
  | int j=>obtain⟨t',rfl⟩:=ry;exact eq_int (Zao I q Zig)
  | str j=>obtain⟨t',rfl⟩:=ry;exact PySem.EqMixed.eq_int_str (Zao I q (by simp))
  | _=>exact absurd (show false=true from hs) Bool.false_ne_true
 | str i =>
  obtain⟨t,rfl⟩:=rx;cases y with
  | non=>cases ry;exact PySem.EqNone.eq_str_none (Zao I q (by simp))
  | bl j=>cases ry;exact PySem.EqMixed.eq_str_bool (Zao I q (by simp))
  | int j=>obtain⟨t',rfl⟩:=ry;exact PySem.EqMixed.eq_str_int (Zao I q (by simp))
  | str j=>obtain⟨t',rfl⟩:=ry;exact eq_str (Zao I q ZiP)
  | _=>exact absurd (show false=true from hs) Bool.false_ne_true
 | byt i =>
  obtain⟨t,rfl⟩:=rx;cases y with
  | byt j=>obtain⟨t',rfl⟩:=ry;exact PySem.W.eq_bytes (Zao I q Zib)
  | _=>exact absurd (show false=true from hs) Bool.false_ne_true
 | _=>cases y <;> exact absurd (show false=true from hs) Bool.false_ne_true
theorem Zi9:OpR X (compareOp .NotEq) rNe:=by
 intro pins s σ H x y v u Q I rx ry h;obtain⟨hs,q⟩:=h;cases x with
 | non =>
  cases rx;cases y with
  | non=>cases ry;exact PySem.EqNone.ne_none_none (Zao I q (by simp))
  | bl j=>cases ry;exact PySem.EqNone.ne_none_bool (Zao I q (by simp))
  | int j=>obtain⟨t',rfl⟩:=ry;exact PySem.EqNone.ne_none_int (Zao I q (by simp))
  | str j=>obtain⟨t',rfl⟩:=ry;exact PySem.EqNone.ne_none_str (Zao I q (by simp))
  | _=>exact absurd (show false=true from hs) Bool.false_ne_true
 | bl i =>
  cases rx;cases y with
  | non=>cases ry;exact PySem.EqNone.ne_bool_none (Zao I q (by simp))
  | bl j=>cases ry;exact ne_bool (Zao I q (congrArg not ZjT))
  | str j=>obtain⟨t',rfl⟩:=ry;exact PySem.EqMixed.ne_bool_str (Zao I q (by simp))
  | _=>exact absurd (show false=true from hs) Bool.false_ne_true
 | int i =>
  obtain⟨t,rfl⟩:=rx;cases y with
  | non=>cases ry;exact PySem.EqNone.ne_int_none (Zao I q (by simp))
  | int j=>obtain⟨t',rfl⟩:=ry;exact ne_int (Zao I q (congrArg not Zig))
  | str j=>obtain⟨t',rfl⟩:=ry;exact PySem.EqMixed.ne_int_str (Zao I q (by simp))
  | _=>exact absurd (show false=true from hs) Bool.false_ne_true
 | str i =>
  obtain⟨t,rfl⟩:=rx;cases y with
  | non=>cases ry;exact PySem.EqNone.ne_str_none (Zao I q (by simp))
  | bl j=>cases ry;exact PySem.EqMixed.ne_str_bool (Zao I q (by simp))
  | int j=>obtain⟨t',rfl⟩:=ry;exact PySem.EqMixed.ne_str_int (Zao I q (by simp))
  | str j=>obtain⟨t',rfl⟩:=ry;exact ne_str (Zao I q (congrArg not ZiP))
  | _=>exact absurd (show false=true from hs) Bool.false_ne_true
 | byt i =>
  obtain⟨t,rfl⟩:=rx;cases y with
  | byt j=>obtain⟨t',rfl⟩:=ry;exact PySem.W.ne_bytes (Zao I q (congrArg not Zib))
  | _=>exact absurd (show false=true from hs) Bool.false_ne_true
 | _=>cases y <;> exact absurd (show false=true from hs) Bool.false_ne_true
theorem ZhJ:OpR X (compareOp .Lt) (rI0 fun i j=>.bl (decide (i<j))):=Zmk fun _ _ _ _ _ _ _ q=>lt_int q
theorem ZjA:OpR X (compareOp .LtE) (rI0 fun i j=>.bl (decide (i<=j))):=Zmk fun _ _ _ _ _ _ _ q=>le_int q
theorem Zhk:OpR X (compareOp .Gt) (rI0 fun i j=>.bl (decide (j<i))):=Zmk fun _ _ _ _ _ _ _ q=>gt_int q
theorem ZG(b:Expr){op:CmpOp}(h:op ≠ .In:=by decide)(h2:op ≠ .NotIn:=by decide):behindInMarks op b=false:=by
 have e1:(op == CmpOp.In)=false:=by cases op <;> first|rfl|exact absurd rfl h
 have e2:(op == CmpOp.NotIn)=false:=by cases op <;> first|rfl|exact absurd rfl h2
 cases b <;> simp[behindInMarks,e1,e2]
theorem Zcx{op:CmpOp}{r:R2}(ho:OpR X (compareOp op) r)(ha:PE X a ta)(hb:PE X b tb)(hm:behindInMarks op b=false):PE X (.Compare a [op] [b] pos) (tOp r ta tb):=by
 intro pins s σ H Q I h;exact wpAny_Compare1 (Zmc ha hb I h fun v u s2 x y H2 I2 rx ry q=>ho pins s2 σ H2 x y v u Q I2 rx ry q) hm
def Zjh(t:TE):TT:=fun σ H Q=>t σ H fun x H'=>∃k,x=.bl k/\Q k H'
theorem Zo{op:CmpOp}{r:R2}(ho:OpR X (compareOp op) r)(ha:PE X a ta)(hb:PE X b tb)(hm:behindInMarks op b=false):PT X (.Compare a [op] [b] pos) (Zjh (tOp r ta tb)):=by
 intro pins s σ H Q I h;refine wpAny_isTrue_Compare1 (thn (ha pins s σ H _ I h) fun v s1 ⟨x,H1,I1,r1,q1⟩=>thn (hb pins s1 σ H1 _ I1 q1) fun u s2 ⟨y,H2,I2,r2,q2⟩ =>
  thn (ho pins s2 σ H2 x y v u _ I2 r1 r2 q2) fun c s3 ⟨z,H3,I3,r3,k,e,q3⟩=>?_) hm
 subst e;cases r3;exact wpAny_truthy_bool ⟨H3,I3,q3⟩
def Zj5(r r':R2)(ta tb tc:TE):TE:=fun σ H Q=>ta σ H fun x H1=>tb σ H1 fun y H2=>r x y H2 fun z H3=>∃k,z=.bl k /\
 (if k=true then tc σ H3 fun w' H4=>r' y w' H4 Q else Q (.bl false) H3)
theorem ZjK{op op':CmpOp}{r r':R2}(ho:OpR X (compareOp op) r)(ho':OpR X (compareOp op') r')(ha:PE X a ta)(hb:PE X b tb)(hc:PE X c tc)
  (hm:lastMarks [op,op'] [b,c]=false:=by with_unfolding_all rfl):PE X (.Compare a [op,op'] [b,c] pos) (Zj5 r r' ta tb tc):=by
 intro pins s σ H Q I h;refine Compare_chain (thn (ha pins s σ H _ I h) fun v s1 ⟨x,H1,I1,r1,q1⟩=>chain_link (thn (hb pins s1 σ H1 _ I1 q1) fun u s2 ⟨y,H2,I2,r2,q2⟩ =>
  thn (ho pins s2 σ H2 x y v u _ I2 r1 r2 q2) fun d s3 ⟨z,H3,I3,r3,k,e,q3⟩=>?_)) hm
 subst e;cases r3;refine wpAny_truthy_bool ?_;cases k with
 | false=>exact ite_ff ⟨.bl false,H3,I3,rfl,q3⟩
 | true=>exact ite_tt (chain_last (thn (hc pins s3 σ H3 _ I3 q3) fun w' s4 ⟨z',H4,I4,r4,q4⟩=>ho' pins s4 σ H4 y z' u w' Q I4 r2 r4 q4))
theorem ZgP{op op':CmpOp}{r r':R2}(ho:OpR X (compareOp op) r)(ho':OpR X (compareOp op') r')(ha:PE X a ta)(hb:PE X b tb)(hc:PE X c tc)
  (hm:lastMarks [op,op'] [b,c]=false:=by with_unfolding_all rfl):PT X (.Compare a [op,op'] [b,c] pos) (Zjh (Zj5 r r' ta tb tc)):=by
 intro pins s σ H Q I h;refine isTrue_chain (thn (ha pins s σ H _ I h) fun v s1 ⟨x,H1,I1,r1,q1⟩=>test_link (thn (hb pins s1 σ H1 _ I1 q1) fun u s2 ⟨y,H2,I2,r2,q2⟩ =>
  thn (ho pins s2 σ H2 x y v u _ I2 r1 r2 q2) fun d s3 ⟨z,H3,I3,r3,k,e,q3⟩=>?_)) hm
 subst e;cases r3;refine wpAny_truthy_bool ?_;cases k with
 | false =>
  obtain⟨k',e',q'⟩:=q3;cases e';exact ite_ff ⟨H3,I3,q'⟩
 | true =>
  refine ite_tt (test_last (thn (hc pins s3 σ H3 _ I3 q3) fun w' s4 ⟨z',H4,I4,r4,q4⟩=>thn (ho' pins s4 σ H4 y z' u w' _ I4 r2 r4 q4) fun d' s5 ⟨z2,H5,I5,r5,k2,e2,q5⟩=>?_));subst e2;cases r5;exact wpAny_truthy_bool ⟨H5,I5,q5⟩
def Zmf(K:PySem.W.Frag)(x:V)(H:Hp)(k:Bool):Prop :=
 match x with
 | .non=>k=false
 | .bl b=>k=b
 | .int i=>k=(i != 0)
 | .str y=>y.length<=sizeLine/\k=((y.length:Int) != 0)
 | .byt y=>y.size<=sizeLine/\k=((y.size:Int) != 0)
 | .ref p=>(∃xs,SqL K H p xs/\k= !xs.isEmpty)\/(∃xs,SqT K H p xs/\k= !xs.isEmpty)\/∃kvs,H p=some (.dK kvs)/\k= !kvs.isEmpty
 | _=>False
theorem Zhf{κ : Type}{kvs:List (κ × V)}{vs:List (κ × Value)}(r:KV kvs vs):(!vs.isEmpty)= !kvs.isEmpty:=by
 cases r <;> rfl
theorem Zel{xs:List V}{its:List Value}(r:Vals xs its):(!its.toArray.isEmpty)= !xs.isEmpty:=by
 cases r <;> simp
theorem Zd0:(sizeLine:Nat)<2 ^ 63:=by rw[sizeLine_eq];decide
theorem ZlL:ZmU X (fun x H Q=>∃k,Zmf X.K x H k/\Q k H):=by
 intro pins s σ H x v Q I rx h;obtain⟨k,e,q⟩:=h;have hl:=Zd0;have hs:sizeLine=16777216:=sizeLine_eq;cases x with
 | non =>
  cases rx;have e':k=false:=e;subst e';exact truthy_none ⟨H,I,q⟩
 | bl b =>
  cases rx;have e':k=b:=e;subst e';exact wpAny_truthy_bool ⟨H,I,q⟩
 | int i =>
  obtain⟨t,rfl⟩:=rx;have e':k=(i != 0):=e;subst e';exact PySem.P.truthy_int ⟨H,I,q⟩
 | str y =>
  obtain⟨t,rfl⟩:=rx;obtain⟨hy,e'⟩:y.length<=sizeLine/\k=((y.length:Int) != 0):=e;subst e';exact PySem.P.truthy_str (by lia) ⟨H,I.tok _,q⟩
 | byt y =>
  obtain⟨t,rfl⟩:=rx;obtain⟨hy,e'⟩:y.size<=sizeLine/\k=((y.size:Int) != 0):=e;subst e';exact PySem.W.truthy_bytes (by lia) ⟨H,I.tok _,q⟩
 | ref p =>
  cases rx;have e':(∃xs,SqL X.K H p xs/\k= !xs.isEmpty)\/(∃xs,SqT X.K H p xs/\k= !xs.isEmpty)\/∃kvs,H p=some (.dK kvs)/\k= !kvs.isEmpty:=e;rcases e' with⟨xs,hx,e'⟩|⟨xs,hx,e'⟩|⟨kvs,hx,e'⟩
  ·subst e';obtain⟨its,r,pl,hz⟩:=I.list hx;have hlen:=r.length;exact wpAny_truthy_list pl.isList (by simp only[List.size_toArray];lia) ⟨H,I.tok _,by rw[Zel r];exact q⟩
  ·subst e';obtain⟨its,r,pl,hz⟩:=I.tuple hx;have hlen:=r.length;exact truthy_tuple pl (by simp only[List.size_toArray];lia) ⟨H,I.tok _,by rw[Zel r];exact q⟩
  ·subst e';obtain⟨hz,hS,vs,r,m⟩:kvs.length<=sizeLine/\(p == sysModules)=false/\∃vs,KV kvs vs/\s.heap.DictOf (ZaB X.prog X.w) p vs:=I.hok p _ hx;have hlen:kvs.length=vs.length:=Paired.length r;exact wpAny_truthy_dict hS m (by lia) ⟨H,I.tok _,by rw[Zhf r];exact q⟩
 | _=>exact(show False from e).elim
theorem Z1(ha:PE X a ta)(he:∀whole,isTrue a X.env whole=(do let v <- whole;standAt a.pos;holding [v] (truthy v))) :
  PT X a (fun σ H Q=>ta σ H fun x H'=>∃k,Zmf X.K x H' k/\Q k H'):=by
 intro pins s σ H Q I h;exact isTrue_plain (thn (ha pins s σ H _ I h) fun v s1 ⟨x,H1,I1,r1,q1⟩=>ZlL pins s1 σ H1 x v Q I1 r1 q1) (he _)
theorem ZL:OpR X (binaryOp .Add) (fun x y H Q=>∃i j,x=.str i/\y=.str j/\i.length+j.length<=sizeLine/\Q (.str (i++j)) H):=by
 intro pins s σ H x y v u Q I rx ry h;obtain⟨i,j,rfl,rfl,hz,q⟩:=h;obtain⟨t,rfl⟩:=rx;obtain⟨t',rfl⟩:=ry;exact add_str (fun t' tk=>⟨.str (i++j),H,I.tok _,⟨_,rfl⟩,q⟩) hz
theorem vals1{x:V}{us:List Value}(r:Vals [x] us):∃u,us=[u]/\RelV x u:=by
 cases r with
 | cons r1 r2=>cases r2;exact⟨_,rfl,r1⟩
theorem vals2{x y:V}{us:List Value}(r:Vals [x,y] us):∃u w',us=[u,w']/\RelV x u/\RelV y w':=by
 cases r with
 | cons r1 r2 =>
  cases r2 with
  | cons r3 r4=>cases r4;exact⟨_,_,rfl,r1,r3⟩
end
structure ObjM(h:Heap)(x dx C:Addr)(mA:Str->Option Value):Prop where
 obj:h.get? x=some (PySem.W.instObj C dx)
 ns:h.Ns1 dx mA
 ne:dx≠x
theorem ZcU{h:Heap}{dx:Addr}{mA:Str->Option Value}(n:h.Ns1 dx mA):∃od,h.get? dx=some od/\∀name,PySem.W.lookIn name od=some (mA name):=by
 obtain⟨o,es,ep,ho,hd,hk,_,hm⟩:=n;refine⟨o,ho,fun name=>?_⟩;have e:=hm name;unfold nsFind findBy at e;rw[<- Array.find?_toList] at e;unfold PySem.W.lookIn;rw[hd];dsimp only
 split
 ·rename_i y q
  rw[q] at e;exact congrArg some e
 ·rename_i q
  rw[q] at e;have a:es.toList.any (·.refKey)=false:=by
   rw[List.any_eq_false];intro y hy;obtain⟨z,t,hkey⟩:=hk y (Array.mem_toList_iff.mp hy);simp[DictEntry.refKey,hkey]
  have a' : ¬ es.toList.any (·.refKey)=true:=by rw[a];exact Bool.false_ne_true
  rw[if_neg a'];exact congrArg some e
theorem ObjM.look{h:Heap}{x dx C:Addr}{mA:Str->Option Value}(I:ObjM h x dx C mA):∃od,PySem.W.InstAt h x (PySem.W.instObj C dx) C (some od)/\∀name,PySem.W.lookIn name od=some (mA name) :=
 let ⟨od,ho,hl⟩:=ZcU I.ns
 ⟨od,⟨I.obj,rfl,rfl,ho⟩,hl⟩
section
variable{prog:Program}{w:World}{A:Around}{E:Value->Shared->Prop}{s:Shared}{K:PySem.W.Frag}{x dx C f:Addr}{mA:Str->Option Value}{name:Str}{v:Value}
theorem ZkB{expr:Bool}{Q:Value->Shared->Prop}(X:K.In s.heap)(I:ObjM s.heap x dx C mA)(hg:PySem.W.plainGet K C name=true)(hh:PySem.W.hasDictIn K C=true)
  (ha:PySem.W.findIn K (.ref C) name=some none) (hv:mA name=some v) (hv':PySem.W.handedIn v=true) (h:Q v { s with toks:=s.toks+1 }) :
  wpAny (model prog w) A (getAttr (.ref x) name expr) Q E s:=by
 obtain⟨od,J,hl⟩:=I.look;exact PySem.W.get_value X J (PySem.W.plainGet_of hg).1 (PySem.W.findObj_own hh ha rfl (by rw[hl,hv])) hv' h
theorem ZjF{pl:Sem Bool}{Q:Value×List Value->Shared->Prop}(X:K.In s.heap)(I:ObjM s.heap x dx C mA)(hg:PySem.W.plainGet K C name=true)
  (hf:PySem.W.findIn K (.ref C) name=some (some (.ref f))) (ht:PySem.W.isFn K (.ref f)=true) (hv:mA name=none) (h:Q (.ref f,[.ref x]) s) :
  wpAny (model prog w) A (getMethod (.ref x) name pl) Q E s:=by
 obtain⟨od,J,hl⟩:=I.look;exact PySem.W.method_fn X J (PySem.W.plainGet_of hg).1 (PySem.W.plainGet_of hg).2 hf (beq_iff_eq.mp ht) (by show(PySem.W.lookIn name od).map (·.isSome)=some false;rw[hl,hv];rfl) h
theorem ZkO{ns:List Str}{Q:Unit->Shared->Prop}(X:K.In s.heap)(I:ObjM s.heap x dx C mA)
  (hs:PySem.W.findIn K (.ref C) "__setattr__" = some (some (.builtin "object.__setattr__"))) (hp:PySem.W.plainOver K C=true) (ht:PySem.W.takerIn K C name=some none) (hh:PySem.W.hasDictIn K C=true)
  (hw:PySem.Within mA ns) (hsz:ns.length<=sizeLine)
  (h:∀h',ObjM h' x dx C (fun y=>if y=name then some v else mA y)->Heap.SameBut dx s.heap h'->Q () { s with heap:=h',toks:=s.toks+2 }) :
  wpAny (model prog w) A (setAttr (.ref x) name v) Q E s:=by
 obtain⟨od,J,hl⟩:=I.look;refine PySem.W.set_plain X J hs (PySem.W.osa_open (s:={ s with toks:=s.toks+1 }) (r:=none) X J hp ht fun b=>?_);obtain⟨cd,hc,hd'⟩:=PySem.W.any_some hh;have hx:s.heap.get? x=some ⟨.ref C,some dx,.plain,#[]⟩:=I.obj;refine wpAny_bind (wpAny_pure (wpAny_bind (wpAny_bind (wpAny_loadPart hx (wpAny_bind (PySem.W.Looks.here (s:={ s with toks:=s.toks+1 }) (PySem.W.looks_clsIn X hc) ?_))))));rw[hd'];refine wpAny_pure (a:=some dx) (wpAny_bind (wpAny_pure (wpAny_bind ?_)));refine wpAny_nsSet1 (s:={ s with toks:=s.toks+1 }) I.ns fun h' hn2 hs2=>?_;obtain⟨oD,esD,epD,hoD,hdD,hcD⟩:=hn2.count (PySem.Within.cons name v hw);refine wpAny_bind (wpAny_lookBehind hoD (by rw[hdD];exact pastItsLine_dict (Nat.le_trans hcD (by rw[List.length_cons];lia))) ?_);exact wpAny_pure (h _ ⟨(hs2.2 _ (Ne.symm I.ne)).trans I.obj,hn2,I.ne⟩ hs2)
theorem ZjB{R:Result->Shared->Prop}{vs:List Value}{kw:List (Str×Value)}(X:K.In s.heap)(hm:PySem.W.makesIn K C=true)
  (hi:PySem.W.findIn K (.ref C) "__init__" = some (some (.ref f))) (hf:PySem.W.typeIn K (.ref f)=some (.type "function"))
  (h:codeAny (model prog w) (A.under (.builtin "type.__call__" ⟨.ref C::vs,kw⟩)) (.call (.ref f) ⟨.ref (s.heap.objs.size+1)::vs,kw⟩) (PySem.W.InitBack (s.heap.objs.size+1) R)
   { s with heap:=(s.heap.push PySem.W.emptyDict).push (PySem.W.instObj C s.heap.objs.size) }) :
  codeAny (model prog w) A (.call (.ref C) ⟨vs,kw⟩) R s:=by
 obtain⟨hh,g,d,t,os⟩:=s;exact PySem.W.make_core (PySem.W.makes_of X hm) (PySem.W.looks_findIn X hi) (fun self=>PySem.W.bind_fn X self hf) (.inl rfl) h
end
def Zfm(f:Str)(v:V):List (Str×V)->List (Str×V)
 | []=>[(f,v)]
 | (g,x)::r=>if g=f then(g,v)::r else(g,x)::Zfm f v r
theorem ZdQ(f g:Str)(v:V):∀fs:List (Str×V),(Zfm f v fs).lookup g=if g=f then some v else fs.lookup g
 | []=>by
  show List.lookup g [(f,v)]=_;by_cases h:g=f
  ·have hb:(g == f)=true:=beq_iff_eq.mpr h;simp only[List.lookup,hb,if_pos h]
  ·have hb:(g == f)=false:=beq_eq_false_iff_ne.mpr h;simp only[List.lookup,hb,if_neg h]
 | (k,x)::r=>by
  have ih:=ZdQ f g v r;rw[show Zfm f v ((k,x)::r)=(if k=f then(k,v)::r else(k,x)::Zfm f v r) from rfl]
  by_cases hk:k=f
  ·rw[if_pos hk];by_cases h:g=k
   ·have hb:(g == k)=true:=beq_iff_eq.mpr h;simp only[List.lookup,hb,if_pos (h.trans hk)]
   ·have hb:(g == k)=false:=beq_eq_false_iff_ne.mpr h;simp only[List.lookup,hb,if_neg (fun e:g=f=>h (e.trans hk.symm))]
  ·rw[if_neg hk];by_cases h:g=k
   ·have hb:(g == k)=true:=beq_iff_eq.mpr h;simp only[List.lookup,hb,if_neg (fun e:g=f=>hk (h.symm.trans e))]
   ·have hb:(g == k)=false:=beq_eq_false_iff_ne.mpr h;simp only[List.lookup,hb];exact ih
theorem ZdB(f:Str)(v:V):∀fs:List (Str×V),f∈(Zfm f v fs).map (·.1)/\∀g,g∈fs.map (·.1)->g∈(Zfm f v fs).map (·.1)
 | []=>⟨by simp[Zfm],fun g h=>by simp at h⟩
 | (k,x)::r=>by
  obtain⟨i1,i2⟩:=ZdB f v r;rw[show Zfm f v ((k,x)::r)=(if k=f then(k,v)::r else(k,x)::Zfm f v r) from rfl]
  by_cases hk:k=f
  ·rw[if_pos hk];subst hk;exact⟨by simp,fun g h=>by simpa using h⟩
  ·rw[if_neg hk];refine⟨?_,fun g h=>?_⟩
   ·rw[List.map_cons];exact List.mem_cons_of_mem _ i1
   ·rw[List.map_cons] at h ⊢;rcases List.mem_cons.mp h with e|e
    ·exact List.mem_cons.mpr (.inl e)
    ·exact List.mem_cons_of_mem _ (i2 g e)
theorem ZdV(f:Str)(v:V):∀fs:List (Str×V),(Zfm f v fs).length<=fs.length+1
 | []=>by simp[Zfm]
 | (k,x)::r=>by
  have ih:=ZdV f v r;rw[show Zfm f v ((k,x)::r)=(if k=f then(k,v)::r else(k,x)::Zfm f v r) from rfl]
  by_cases hk:k=f
  ·rw[if_pos hk,List.length_cons,List.length_cons];lia
  ·rw[if_neg hk,List.length_cons,List.length_cons];lia
theorem Ze2.some_of{v:V}{o:Option Value}(r:Ze2 (some v) o):∃u,o=some u/\RelV v u:=by
 cases o with
 | none=>exact(show False from r).elim
 | some u=>exact⟨u,rfl,r⟩
theorem Ze2.none_of{o:Option Value}(r:Ze2 none o):o=none:=by
 cases o with
 | none=>rfl
 | some u=>exact(show False from r).elim
theorem Ze8{v:V}{u:Value}(r:RelV v u):PySem.W.handedIn u=true:=by
 cases v with
 | non=>cases (show u=Value.none from r);rfl
 | bl b=>cases (show u=Value.bool b from r);rfl
 | int i=>obtain⟨t,e⟩:=(show ∃t,u=Value.int i t from r);cases e;rfl
 | str x=>obtain⟨t,e⟩:=(show ∃t,u=Value.str x t from r);cases e;rfl
 | byt b=>obtain⟨t,e⟩:=(show ∃t,u=Value.bytes b t from r);cases e;rfl
 | flt b=>obtain⟨t,e⟩:=(show ∃t,u=Value.float b t from r);cases e;rfl
 | ref a=>cases (show u=Value.ref a from r);rfl
 | ty n=>cases (show u=Value.type n from r);rfl
section
variable{P:Program}{w:World}{H H':Hp}{h h':Heap}{a C dx:Addr}{fs fs':List (Str×V)}
theorem ZeQ(hok:HOk P w H h)(e:H a=some (.ins C dx fs)):∃mA,ObjM h a dx C mA/\(∀f,Ze2 (fs.lookup f) (mA f))/\PySem.Within mA (fs.map (·.1))/\fs.length<=1000/\H dx=some (.own a):=by
 obtain⟨d,z,ne,ob,mA,n,r,q⟩:=(show Zar P w H h a (.ins C dx fs) from hok a _ e);exact⟨mA,⟨ob,n,ne⟩,r,q,z,d⟩
end
structure Cls(K:PySem.W.Frag)(C:Addr):Prop where
 pg:PySem.W.plainGet K C Str.empty=true
 hd:PySem.W.hasDictIn K C=true
 po:PySem.W.plainOver K C=true
 sa:PySem.W.findIn K (.ref C) "__setattr__" = some (some (.builtin "object.__setattr__"))
theorem Cls.get{K:PySem.W.Frag}{C:Addr}(c:Cls K C)(f:Str):PySem.W.plainGet K C f=true:=c.pg
def ZcL(K:PySem.W.Frag)(C:Addr)(f:Str):Prop:=PySem.W.findIn K (.ref C) f=some none
theorem ZcL.taker{K:PySem.W.Frag}{C:Addr}{f:Str}(n:ZcL K C f):PySem.W.takerIn K C f=some none:=by
 unfold PySem.W.takerIn;rw[show PySem.W.findIn K (.ref C) f=some none from n];rfl
structure Meth(K:PySem.W.Frag)(C:Addr)(m:Str)(f:Addr):Prop where
 at_:PySem.W.findIn K (.ref C) m=some (some (.ref f))
 fn:PySem.W.isFn K (.ref f)=true
 kp:PySem.W.keepIn K (.ref f)=true
section
variable{X:Cx}{pins:List (Addr×Obj)}{σ : St}{H:Hp}{s:Shared}{a C dx:Addr}{fs:List (Str×V)}{f:Str}{v:V}{A:Around}{E:Value->Shared->Prop}
theorem Zen{b:Bool}{Q:Value->Shared->Prop}(I:Inv X pins σ H s)(e:H a=some (.ins C dx fs))(c:Cls X.K C)(n:ZcL X.K C f)(l:fs.lookup f=some v)
  (h:∀u s',Inv X pins σ H s'->RelV v u->Q u s'):wpAny (model X.prog X.w) A (getAttr (.ref a) f b) Q E s:=by
 obtain⟨mA,O,r,_,_,_⟩:=ZeQ I.hok e;obtain⟨u,hu,ru⟩:=Ze2.some_of (v:=v) (o:=mA f) (by rw[<- l];exact r f);exact ZkB I.kIn O (c.get f) c.hd n hu (Ze8 ru) (h u _ (I.tok _) ru)
theorem Zee{m:Str}{g:Addr}{pl:Sem Bool}{Q:Value×List Value->Shared->Prop}(I:Inv X pins σ H s)(e:H a=some (.ins C dx fs))(c:Cls X.K C)(k:Meth X.K C m g)(l:fs.lookup m=none)
  (h:Q (.ref g,[.ref a]) s):wpAny (model X.prog X.w) A (getMethod (.ref a) m pl) Q E s:=by
 obtain⟨mA,O,r,_,_,_⟩:=ZeQ I.hok e;have hn:mA m=none:=Ze2.none_of (by rw[<- l];exact r m);exact ZjF I.kIn O (c.get m) k.at_ k.fn hn h
theorem Zei{y:V}{u:Value}{Q:Unit->Shared->Prop}(I:Inv X pins σ H s)(e:H a=some (.ins C dx fs))(c:Cls X.K C)(n:ZcL X.K C f)(hl:fs.length<1000)(ry:RelV y u)
  (h:∀s',Inv X pins σ (upd H a (.ins C dx (Zfm f y fs))) s'->Q () s'):wpAny (model X.prog X.w) A (setAttr (.ref a) f u) Q E s:=by
 obtain⟨mA,O,r,wi,_,ho⟩:=ZeQ I.hok e;have hz:(fs.map (·.1)).length<=sizeLine:=by rw[List.length_map,sizeLine_eq];lia
 refine ZkO I.kIn O c.sa c.po n.taker c.hd wi hz fun h' O' sb=>h _ ?_;have hd:∃o,h'.get? dx=some o:=let ⟨o,_,_,e',_⟩:=O'.ns;⟨o,e'⟩;refine I.write (x:=a) (e:=dx) (by rw[e];exact True.intro) (.inr ho) (fun b q hb z=>(sb.2 b hb).trans z) hd ?_;refine⟨by rw[Zi O.ne];exact ho,?_,O.ne,O'.obj,_,O'.ns,fun g=>?_,fun g hg=>?_⟩
 ·have:=ZdV f y fs;lia
 ·show Ze2 ((Zfm f y fs).lookup g) (if g=f then some u else mA g)
  rw[ZdQ];by_cases q:g=f
  ·rw[if_pos q,if_pos q];exact ry
  ·rw[if_neg q,if_neg q];exact r g
 ·by_cases q:g=f
  ·rw[q];exact(ZdB f y fs).1
  ·refine(ZdB f y fs).2 g (wi g fun z=>hg ?_);show(if g=f then some u else mA g)=none
   rw[if_neg q];exact z
theorem Inv.made(I:Inv X pins σ H s):Inv X pins σ (upd (upd H s.heap.objs.size (.own (s.heap.objs.size+1))) (s.heap.objs.size+1) (.ins C s.heap.objs.size []))
  { s with heap:=(s.heap.push PySem.W.emptyDict).push (PySem.W.instObj C s.heap.objs.size) }:=by
 have e1:(s.heap.push PySem.W.emptyDict).get? s.heap.objs.size=some PySem.W.emptyDict:=Heap.get?_push_size s.heap rfl;have e2:((s.heap.push PySem.W.emptyDict).push (PySem.W.instObj C s.heap.objs.size)).get? (s.heap.objs.size+1)=some (PySem.W.instObj C s.heap.objs.size):=by
  have:=Heap.get?_push_size (s.heap.push PySem.W.emptyDict) (o:=PySem.W.instObj C s.heap.objs.size) rfl
  rwa [Heap.size_push] at this
 have e3:(s.heap.push PySem.W.emptyDict).Ns s.heap.objs.size (fun _=>none):=⟨PySem.W.emptyDict,#[],_,e1,rfl,(fun e he=>absurd he (by simp)),fun _=>rfl⟩;have I1:=I.laid (a:=s.heap.objs.size) (o:=.own (s.heap.objs.size+1)) (h':=s.heap.push PySem.W.emptyDict) (t':=s.toks) (fun b u q=>Heap.get?_push_of_some _ q) (Nat.le_refl _) ⟨_,e1⟩;refine I1.laid (a:=s.heap.objs.size+1) (o:=.ins C s.heap.objs.size []) (t':=s.toks) (fun b u q=>Heap.get?_push_of_some _ q) (Nat.le_of_eq (Heap.size_push _ _)) ?_;have ne:s.heap.objs.size≠s.heap.objs.size+1:=Nat.ne_of_lt (Nat.lt_succ_self _);refine⟨by rw[Zi ne,Zb],Nat.zero_le _,ne,e2,fun _=>none,(Heap.Ns1.of_empty e3).at fun o q=>Heap.get?_push_of_some _ q,fun _=>True.intro,fun y hy=>absurd rfl hy⟩
theorem Zir{prog:Program}{w:World}{env:Env}{e:Expr}{f:Str}{pos:Pos}{s:Shared}{Q:Value->Shared->Prop}(hb:attributeBase e f env (eval e env)=eval e env)
  (h:wpAny (model prog w) A (eval e env) (fun o s₁=>wpAny (model prog w) A (getAttr o f true) Q E s₁) E s):wpAny (model prog w) A (eval (.Attribute e f pos) env) Q E s :=
 Attribute_any_ h (by rw[arm_eval_Attribute,hb])
end
def ZlR(K:PySem.W.Frag)(ta:TE)(f:Str):TE:=fun σ H Q=>ta σ H fun x H1=>∃a C dx fs v,x=.ref a/\H1 a=some (.ins C dx fs)/\Cls K C/\ZcL K C f/\fs.lookup f=some v/\Q v H1
def Zmz(K:PySem.W.Frag)(ta tv:TE)(f:Str):TS:=fun D σ H=>tv σ H fun y H1=>ta σ H1 fun x H2=>∃a C dx fs,x=.ref a/\H2 a=some (.ins C dx fs)/\Cls K C/\ZcL K C f/\fs.length<1000 /\
 D.nx σ (upd H2 a (.ins C dx (Zfm f y fs)))
def Zmu(X:Cx)(op:Operator)(rd:V->V->Hp->VK->Prop):Prop :=
 ∀(pins:List (Addr×Obj))(s:Shared)(σ : St)(H:Hp)(x y:V)(u v:Value)(Q:VK),Inv X pins σ H s->RelV x u->RelV y v->rd x y H Q->wpAny (model X.prog X.w) X.A (inplaceOp op u v) (EP X pins σ Q) X.xe s
def Zkg(K:PySem.W.Frag)(ta tv:TE)(rd:V->V->Hp->VK->Prop)(f:Str):TS:=fun D σ H=>ta σ H fun x H1=>∃a C dx fs v,x=.ref a/\H1 a=some (.ins C dx fs)/\Cls K C/\ZcL K C f/\fs.lookup f=some v /\
 tv σ H1 fun y H2=>rd v y H2 fun z H3=>∃dx' fs',H3 a=some (.ins C dx' fs')/\fs'.length<1000/\D.nx σ (upd H3 a (.ins C dx' (Zfm f z fs')))
section
variable{X:Cx}{o e value:Expr}{f:Str}{pos pos' tpos:Pos}{ta tv:TE}
theorem ZcS(he:PE X e ta)(hb:attributeBase e f X.env (eval e X.env)=eval e X.env):PE X (.Attribute e f pos) (ZlR X.K ta f):=by
 intro pins s σ H Q I h;refine Zir hb (thn (he pins s σ H _ I h) fun u s1 ⟨x,H1,I1,rx,a,C,dx,fs,v,ex,ea,c,n,l,q⟩=>?_);subst ex;obtain rfl:u=Value.ref a:=rx;exact Zen I1 ea c n l fun u' s2 I2 ru=>⟨v,H1,I2,ru,q⟩
theorem Zj1(ha:PE X o ta)(hv:PE X value tv)(hs:swapsWith value (some (.Attribute o f pos')) pos.line X.env=pure false):PS X (.Assign [.Attribute o f pos'] value pos) (Zmz X.K ta tv f):=by
 intro pins s σ H D I h;refine plainObj_wpAny_Assign_Attribute (thn (hv pins s σ H _ I h) fun u s1 ⟨y,H1,I1,ry,q⟩=>thn (ha pins s1 σ H1 _ I1 q) fun ov s2 ⟨x,H2,I2,rx,a,C,dx,fs,ex,ea,c,n,l,q2⟩=>?_) hs;subst ex;obtain rfl:ov=Value.ref a:=rx;exact Zei I2 ea c n l ry fun s3 I3=>⟨σ,_,I3,q2⟩
theorem Zfp{op:Operator}{rd:V->V->Hp->VK->Prop}(ha:PE X o ta)(hv:PE X value tv)(hop:Zmu X op rd):PS X (.AugAssign (.Attribute o f tpos) op value pos) (Zkg X.K ta tv rd f):=by
 intro pins s σ H D I h;refine wpAny_AugAssign_AttributeAny (thn (ha pins s σ H _ I h) fun ov s1 ⟨x,H1,I1,rx,a,C,dx,fs,v,ex,ea,c,n,l,q⟩=>?_);subst ex;obtain rfl:ov=Value.ref a:=rx;refine Zen I1 ea c n l fun u s2 I2 ru=>thn (hv pins s2 σ H1 _ I2 q) fun w3 s3 ⟨y,H2,I3,ry,q3⟩=>thn (hop pins s3 σ H2 v y u w3 _ I3 ru ry q3) fun w4 s4 ⟨z,H3,I4,rz,dx',fs',ea',l',q4⟩=>?_;exact Zei I4 ea' c n l' rz fun s5 I5=>⟨σ,_,I5,q4⟩
def ZmF:V->V->Hp->VK->Prop:=fun x y H Q=>∃i j,x=.int i/\y=.int j/\Q (.int (i+j)) H
theorem Zkb:Zmu X .Add ZmF:=by
 rintro pins s σ H x y u v Q I rx ry ⟨i,j,rfl,rfl,q⟩;obtain⟨t,rfl⟩:=(show ∃t,u=Value.int i t from rx);obtain⟨t',rfl⟩:=(show ∃t',v=Value.int j t' from ry);exact PyProof.Rows.iadd_int ⟨.int (i+j),H,I.tok _,⟨_,rfl⟩,q⟩
end
section
variable{X:Cx}{pins:List (Addr×Obj)}{σ : St}{H:Hp}{s:Shared}{A:Around}{E:Value->Shared->Prop}{Q:Value->Shared->Prop}{c:Value}{b:Bool}
inductive TyOf(K:PySem.W.Frag)(H:Hp):V->Value->Prop where
 | non:TyOf K H .non (.type "NoneType")
 | bl (x:Bool):TyOf K H (.bl x) (.type "bool")
 | int (i:Int):TyOf K H (.int i) (.type "int")
 | str (x:Str):TyOf K H (.str x) (.type "str")
 | flt (x:UInt64):TyOf K H (.flt x) (.type "float")
 | lst {a:Addr} {xs:List V} (e:H a=some (.lst xs)):TyOf K H (.ref a) (.type "list")
 | frz {a:Addr} {o:Obj} {xs:List V} (e:H a=some (.frz o (.lst xs))):TyOf K H (.ref a) (.type "list")
 | tup {a:Addr} {xs:List V} (e:H a=some (.tup xs)):TyOf K H (.ref a) (.type "tuple")
 | dK {a:Addr} {kvs:List (Key×V)} (e:H a=some (.dK kvs)):TyOf K H (.ref a) (.type "dict")
 | dT {a:Addr} {kvs:List (List Key×V)} (e:H a=some (.dT kvs)):TyOf K H (.ref a) (.type "dict")
 | ins {a C dx:Addr} {fs:List (Str×V)} (e:H a=some (.ins C dx fs)) (cl:Cls K C) (ha:PySem.W.findIn K (.ref C) "__class__" = some (some (.builtin "object.__class__")))
   (hn:PySem.W.specialIn K (.builtin "object.__class__") "__get__" = some (some (.builtin "getset_descriptor.__get__"))) (htk:PySem.W.takesIn K (.builtin "object.__class__")=some true)
   (hm:PySem.W.mroIn K C (.type "object")=some true):TyOf K H (.ref a) (.ref C)
theorem Zfv{x:V}{u t:Value}(I:Inv X pins σ H s)(rx:RelV x u)(ty:TyOf X.K H x t)(e:PySem.W.kitOne X.K t c=some b)(h:∀tk,Q (.bool b) { s with toks:=tk }) :
  wpAny (model X.prog X.w) A (call (.builtin "isinstance") [u,c]) Q E s:=by
 cases ty with
 | non=>cases (show u=Value.none from rx);exact PySem.W.kia_one PySem.W.kitx_none I.kIn True.intro e (fun z=>nomatch z) h
 | bl y=>cases (show u=Value.bool y from rx);exact PySem.W.kia_one PySem.W.kitx_bool I.kIn True.intro e (fun z=>nomatch z) h
 | int i=>obtain⟨t,q⟩:=(show ∃t,u=Value.int i t from rx);cases q;exact PySem.W.kia_one PySem.W.kitx_int I.kIn True.intro e (fun z=>nomatch z) h
 | str y=>obtain⟨t,q⟩:=(show ∃t,u=Value.str y t from rx);cases q;exact PySem.W.kia_one PySem.W.kitx_str I.kIn True.intro e (fun z=>nomatch z) h
 | flt y=>obtain⟨t,q⟩:=(show ∃t,u=Value.float y t from rx);cases q;exact PySem.W.kia_one PySem.W.kitx_float I.kIn True.intro e (fun z=>nomatch z) h
 | @lst a xs ea =>
  cases (show u=Value.ref a from rx);obtain⟨_,_,n,_,h1⟩:=(show Zar X.prog X.w H s.heap a (.lst xs) from I.hok a _ ea);exact PySem.W.kia_one PySem.W.kitx_list I.kIn ⟨_,h1,rfl⟩ e (fun z=>nomatch z) h
 | @frz a ob xs ea =>
  cases (show u=Value.ref a from rx);obtain⟨_,_,_,n,_,h1⟩:=(show Zar X.prog X.w H s.heap a (.frz ob (.lst xs)) from I.hok a _ ea);exact PySem.W.kia_one PySem.W.kitx_list I.kIn ⟨_,h1,rfl⟩ e (fun z=>nomatch z) h
 | @tup a xs ea =>
  cases (show u=Value.ref a from rx);obtain⟨_,_,_,p⟩:=(show Zar X.prog X.w H s.heap a (.tup xs) from I.hok a _ ea);obtain⟨o,h1,h2,_⟩:=p;exact PySem.W.kia_one PySem.W.kitx_tuple I.kIn ⟨o,h1,h2⟩ e (fun z=>nomatch z) h
 | @dK a kvs ea =>
  cases (show u=Value.ref a from rx);obtain⟨_,_,vs,_,p⟩:=(show Zar X.prog X.w H s.heap a (.dK kvs) from I.hok a _ ea);obtain⟨o,es,ep,h1,h2,_⟩:=p;exact PySem.W.kia_one PySem.W.kitx_dict I.kIn ⟨o,h1,h2.1⟩ e (fun z=>nomatch z) h
 | @dT a kvs ea =>
  cases (show u=Value.ref a from rx);obtain⟨_,_,xs,_,o,es,ep,h1,h2,_⟩:=(show Zar X.prog X.w H s.heap a (.dT kvs) from I.hok a _ ea);exact PySem.W.kia_one PySem.W.kitx_dict I.kIn ⟨o,h1,h2.1⟩ e (fun z=>nomatch z) h
 | @ins a C dx fs ea cl ha hn htk hm =>
  cases (show u=Value.ref a from rx);obtain⟨mA,O,_⟩:=ZeQ I.hok ea;obtain⟨od,J,_⟩:=O.look;exact PySem.W.kia_one (PySem.W.kitx_own (cl.get _) cl.hd ha hn htk hm) I.kIn J e (fun z=>nomatch z) h
end
structure Room(k:Nat)(A:Around):Prop where
 hd:A.handled=none
 dp:A.depth+2*k+5<recursionLimit
 un:A.units+16*k+200<cLine
 gd:A.guards=some []
theorem Room.mono{j k:Nat}{A:Around}(r:Room k A)(h:j<=k):Room j A:=⟨r.hd,by have:=r.dp;lia,by have:=r.un;lia,r.gd⟩
theorem Room.deeper{k:Nat}{A:Around}(r:Room (k+1) A)(env:Env):Room k (A.deeper env) :=
 ⟨r.hd,by have:=r.dp;show A.depth+1+2*k+5<_;lia,by have:=r.un;show A.units+3+16*k+200<_;lia,r.gd⟩
theorem Zhh{A:Around}{C:Addr}{us:List Value}{kw:List (Str×Value)}:(A.under (.builtin "type.__call__" ⟨.ref C::us,kw⟩)).depth=A.depth+1:=by
 first|rfl|simp[Around.under,Code.weight,Code.isCreation,Code.isGuard,Code.isCaller,Code.frames,Code.isFrame,guardIds]
theorem Zhn{A:Around}{C:Addr}{us:List Value}{kw:List (Str×Value)}:(A.under (.builtin "type.__call__" ⟨.ref C::us,kw⟩)).units=A.units+1:=by
 first|rfl|simp[Around.under,Code.cUnits,Code.frames,Code.isFrame]
theorem Zgj{A:Around}{C:Addr}{us:List Value}{kw:List (Str×Value)}:(A.under (.builtin "type.__call__" ⟨.ref C::us,kw⟩)).guards=A.guards:=by
 have h:(Code.builtin "type.__call__" ⟨.ref C::us,kw⟩).guards=[]:=by first|rfl|simp[Code.guards,Code.isGuard,guardIds]
 unfold Around.under;dsimp only;rw[h];cases A.guards <;> rfl
theorem Room.make{k:Nat}{A:Around}(r:Room (k+1) A)(C:Addr)(us:List Value)(kw:List (Str×Value)):Room k (A.under (.builtin "type.__call__" ⟨.ref C::us,kw⟩)) :=
 ⟨r.hd,by have:=r.dp;rw[Zhh];lia,by have:=r.un;rw[Zhn];lia,by rw[Zgj];exact r.gd⟩
theorem Room.depth{k:Nat}{A:Around}(r:Room k A):A.depth<recursionLimit:=by have:=r.dp;lia
def Zga:TA:=fun _ H Q=>Q [] H
def Zb8(ta:TE)(tr:TA):TA:=fun σ H Q=>ta σ H fun x H1=>tr σ H1 fun xs H2=>Q (x::xs) H2
section
variable{X:Cx}{e:Expr}{es:List Expr}{te:TE}{t:TA}{pos:Pos}
theorem Zd:PA X [] Zga:=fun _ _ _ _ H Q I h=>Calls.spliced_nil ⟨[],H,I,.nil,h⟩
theorem Za(ha:PE X e te)(hr:PA X es t)(hs:starEach (e::es) X.env=(false,eval e X.env)::starEach es X.env:=by rfl):PA X (e::es) (Zb8 te t):=by
 intro pos pins s σ H Q I h;rw[hs];show wpAny _ _ (spliced ((false,eval e X.env)::backTo pos (starEach es X.env))) _ _ s;refine Calls.spliced_cons (thn (ha pins s σ H _ I h) fun u s1 ⟨x,H1,I1,r1,q1⟩=>?_);exact thn (hr pos pins s1 σ H1 _ I1 q1) fun us s2 ⟨xs,H2,I2,r2,q2⟩=>⟨x::xs,H2,I2,.cons r1 r2,q2⟩
def Zll(t:TA):TE:=fun σ H Q=>t σ H fun xs H1=>xs.length<=sizeLine/\∀p,H1 p=none->Q (.ref p) (upd H1 p (.tup xs))
def ZmX(t:TA):TE:=fun σ H Q=>t σ H fun xs H1=>xs.length<=sizeLine/\∀p,H1 p=none->Q (.ref p) (upd H1 p (.lst xs))
theorem ZM{x1}(h:PA X es t):PE X (.Tuple es x1 pos) (Zll t):=by
 intro pins s σ H Q I hq;refine wpAny_Tuple_spliced (thn (h pos pins s σ H _ I hq) fun us s1 ⟨xs,H1,I1,r,z,q⟩=>⟨by rw[<- r.length];exact z,?_⟩);have hf:H1 s1.heap.objs.size=none:=I1.hok.fresh (Nat.le_refl _);refine⟨.ref s1.heap.objs.size,upd H1 s1.heap.objs.size (.tup xs),I1.laid (t':=s1.toks) (fun b u e=>Heap.get?_push_of_some _ e) (Nat.le_refl _) ?_,rfl,q _ hf⟩;exact⟨z,us,r,⟨_,Heap.get?_push_size _ rfl,rfl,_,rfl⟩⟩
theorem ZaA(h:PA X es t):PE X (.List es pos) (ZmX t):=by
 intro pins s σ H Q I hq;refine wpAny_List_spliced (thn (h pos pins s σ H _ I hq) fun us s1 ⟨xs,H1,I1,r,z,q⟩=>⟨by rw[<- r.length];exact z,?_⟩);have hf:H1 s1.heap.objs.size=none:=I1.hok.fresh (Nat.le_refl _);refine⟨.ref s1.heap.objs.size,upd H1 s1.heap.objs.size (.lst xs),I1.laid (t':=s1.toks) (fun b u e=>Heap.get?_push_of_some _ e) (Nat.le_refl _) ?_,rfl,q _ hf⟩;exact⟨z,us,0,r,Heap.get?_push_size _ rfl⟩
end
abbrev Sp:=List V->Hp->VK->XK->Prop
abbrev CXT:=List Env->Hp->Shared->XK->Value->Shared->Prop
structure Env0(P:Program)(w:World)(K:PySem.W.Frag)(mg:Str->Option Value)(base:Heap)(A:Around)(outer:List Env)(s:Shared)(H:Hp):Prop where
 frames:A.frames=some outer
 mod:Mod K mg base
 bs:∀b o,base.get? b=some o->s.heap.get? b=some o/\H b=none
 bsz:base.objs.size<=s.heap.objs.size
 funs:s.heap.FunFrames base outer
 frf:∀b∈frs outer,H b=none
 hok:HOk P w H s.heap
 bare:AllBare s.gens
def CE(outer:List Env)(P:Program)(w:World)(H:Hp)(s:Shared)(Q:VK)(u:Value)(s':Shared):Prop :=
 ∃v H',s'.os=s.os/\AllBare s'.gens/\Un (frs outer) [] H H' s.heap s'.heap/\HOk P w H' s'.heap/\RelV v u/\Q v H'
def CR(CX:CXT)(outer:List Env)(P:Program)(w:World)(H:Hp)(s:Shared)(Q:VK)(E:XK)(r:Result)(s':Shared):Prop :=
 match r with
 | .ok (.ret u)=>CE outer P w H s Q u s'
 | .ok _=>False
 | .error e=>CX outer H s E e s'
structure FnOk(P:Program)(w:World)(K:PySem.W.Frag)(mg:Str->Option Value)(base:Heap)(CX:CXT)(k:Nat)(f:Addr)(fd:FuncData)(ps:List Str)(sp:Sp):Prop where
 len:∀vs H Q E,sp vs H Q E->vs.length=ps.length
 run:∀(A:Around)(outer:List Env)(s:Shared)(H:Hp)(args:Args)(us:List Value)(vs:List V)(Q:VK)(E:XK),Room k A->Env0 P w K mg base A outer s H->BindsTo s fd args (ps.zip us)->Vals vs us->sp vs H Q E ->
  codeAny (model P w) A (.call (.ref f) args) (CR CX outer P w H s Q E) s
theorem Env0.make{P:Program}{w:World}{K:PySem.W.Frag}{mg:Str->Option Value}{base:Heap}{A:Around}{outer:List Env}{s:Shared}{H:Hp}(e:Env0 P w K mg base A outer s H)(C:Addr)(us:List Value)(kw:List (Str×Value)) :
  Env0 P w K mg base (A.under (.builtin "type.__call__" ⟨.ref C::us,kw⟩)) outer s H:=⟨by first|exact e.frames|(simpa[Around.under,Code.envs,Code.isFrame,pushEnvs] using e.frames),e.mod,e.bs,e.bsz,e.funs,e.frf,e.hok,e.bare⟩
section
variable{X:Cx}{pins:List (Addr×Obj)}{σ : St}{H:Hp}{s s':Shared}
theorem Inv.env0(I:Inv X pins σ H s):Env0 X.prog X.w X.K X.mg X.base X.A X.stack s H :=
 ⟨I.ok.frames,I.ok.mod,I.bs,Nat.le_trans I.ok.bsz I.sz,I.stack,I.stkFree,I.hok,I.bare⟩
theorem Inv.after{Q:VK}{u:Value}(I:Inv X pins σ H s)(h:CE X.stack X.prog X.w H s Q u s'):EP X pins σ Q u s':=by
 obtain⟨v,H',os,bare,un,hok,r,q⟩:=h;obtain⟨hh,g,d,t,os'⟩:=s';obtain rfl:os'=s.os:=os;exact⟨v,H',I.call (h':=hh) (g':=g) (d':=d) (t':=t) (ch:=[]) un hok bare (fun b z=>absurd z (by simp)),r,q⟩
end
def ZkT(sp:Sp)(dvs:List V)(E:XK)(t:TA):TE:=fun σ H Q=>t σ H fun vs H1=>sp (vs++dvs) H1 Q E
def Zjp(C:Addr)(m:Str)(sp:Sp)(dvs:List V)(E:XK)(ta:TE)(t:TA):TE:=fun σ H Q=>ta σ H fun x H1=>∃a dx fs,x=.ref a/\H1 a=some (.ins C dx fs)/\fs.lookup m=none /\
 t σ H1 fun vs H2=>sp (x::(vs++dvs)) H2 Q E
def Zlk(C:Addr)(sp:Sp)(dvs:List V)(E:XK)(t:TA):TE:=fun σ H Q=>t σ H fun vs H1=>∀x dx,H1 x=none->H1 dx=none->dx≠x ->
 sp (.ref x::(vs++dvs)) (upd (upd H1 dx (.own x)) x (.ins C dx [])) (fun v H2=>v=.non/\Q (.ref x) H2) E
def Binds(K:PySem.W.Frag)(fd:FuncData)(ps:List Str)(ds:List Value):Prop :=
 ∀(s:Shared)(us:List Value),K.In s.heap->(us++ds).length=ps.length->BindsTo s fd ⟨us,[]⟩ (ps.zip (us++ds))
theorem Binds.all{K:PySem.W.Frag}{fd:FuncData}{ps:List Str}(h:∀us:List Value,us.length=ps.length->bindArgs fd ⟨us,[]⟩=pure (ps.zip us)):Binds K fd ps []:=fun s us _ hl=>by
 rw[List.append_nil] at hl ⊢;exact .of_eq (h us hl)
def ZdG(CX:CXT)(X:Cx)(E:XK):Prop := ∀(pins:List (Addr×Obj))(σ : St)(H:Hp)(s:Shared)(e:Value)(s':Shared),Inv X pins σ H s->CX X.stack H s E e s'->X.xe e s'
section
variable{X:Cx}{CX:CXT}{k:Nat}{f C:Addr}{fd:FuncData}{ps:List Str}{sp:Sp}{dvs:List V}{ds:List Value}{E:XK}{x m:Str}{p pos apos:Pos}{e o:Expr}{es:List Expr}{ta:TE}{t:TA}
theorem ZiD{pins:List (Addr×Obj)}{σ : St}{H:Hp}{s:Shared}{Q:VK}{us:List Value}{vs:List V}(F:FnOk X.prog X.w X.K X.mg X.base CX k f fd ps sp)(hr:Room k X.A)(hb:Binds X.K fd ps ds)(hd:Vals dvs ds)(hx:ZdG CX X E)
  (I:Inv X pins σ H s) (r:Vals vs us) (h:sp (vs++dvs) H Q E):wpAny (model X.prog X.w) X.A (call (.ref f) us) (EP X pins σ Q) X.xe s:=by
 have r2:Vals (vs++dvs) (us++ds):=r.append hd;have hl:(us++ds).length=ps.length:=by rw[<- r2.length];exact F.len _ _ _ _ h
 refine wpAny_call (codeAny_mono (F.run X.A X.stack s H ⟨us,[]⟩ (us++ds) (vs++dvs) Q E hr I.env0 (hb s us I.kIn hl) r2 h) fun r s' hq=>?_);cases r with
 | error e=>exact hx pins σ H s e s' I hq
 | ok fl =>
  cases fl with
  | ret u=>exact I.after hq
  | next=>exact False.elim hq
  | brk=>exact False.elim hq
  | cont=>exact False.elim hq
theorem Zkr(F:FnOk X.prog X.w X.K X.mg X.base CX k f fd ps sp)(hr:Room k X.A)(hg:Gl X x)(hm:X.mg x=some (.ref f))(hk:PySem.W.keepIn X.K (.ref f)=true)(hb:Binds X.K fd ps ds)(hd:Vals dvs ds)(hx:ZdG CX X E)
  (ha:PA X (e::es) t) (hdb:(x == ("__debug__" : Str))=false:=by decide) (he:starEach (e::es) X.env=(false,eval e X.env)::starEach es X.env:=by rfl) (hpl:(backTo pos (starEach es X.env)).any (·.1)=false:=by rfl) :
  PE X (.Call (.Name x p) (e::es) [] pos) (ZkT sp dvs E t):=by
 intro pins s σ H Q I h;refine wpAny_Call_Name_kw (Zdf I hg hm ?_ hdb);refine PySem.W.callWith_K (h₀ := X.base) I.ok.mod.kin hk (thn (ha pos pins s σ H _ I h) fun us s1 ⟨vs,H1,I1,r,q⟩=>⟨I1.kIn,?_⟩) he hpl;exact ZiD F hr hb hd hx I1 r q
theorem Zkj{pl:Sem Bool}(he:PE X o ta)(c:Cls X.K C)(hm:Meth X.K C m f)(F:FnOk X.prog X.w X.K X.mg X.base CX k f fd ps sp)(hr:Room k X.A)(hb:Binds X.K fd ps ds)(hd:Vals dvs ds)(hx:ZdG CX X E)(ha:PA X (e::es) t)
  (hst:starEach (e::es) X.env=(false,eval e X.env)::starEach es X.env:=by rfl) (hpl:(backTo pos (starEach es X.env)).any (·.1)=false:=by rfl)
  (ht:eval (.Call (.Attribute o m apos) (e::es) [] pos) X.env=(do
   let ov <- eval o X.env
   standAt apos.atName
   let (f,first) <- holding [ov] (getMethod ov m pl)
   callWith pos f first (backTo pos (starEach (e::es) X.env)) (backToKw pos (keywordEach [] X.env))):=by rfl) :
  PE X (.Call (.Attribute o m apos) (e::es) [] pos) (Zjp C m sp dvs E ta t):=by
 intro pins s σ H Q I h;refine PySem.W.methodCall_KW (pl:=pl) (thn (he pins s σ H _ I h) fun u s1 ⟨x,H1,I1,rx,a,dx,fs,ex,ea,l,q⟩=>?_) ht;subst ex;obtain rfl:u=Value.ref a:=rx;refine Zee I1 ea c hm l ?_;refine PySem.W.callWith_K (first:=[.ref a]) (h₀ := X.base) I.ok.mod.kin hm.kp (thn (ha pos pins s1 σ H1 _ I1 q) fun us s2 ⟨vs,H2,I2,r,q2⟩=>⟨I2.kIn,?_⟩) hst hpl
 exact ZiD (us:=.ref a::us) (vs:=.ref a::vs) F hr hb hd hx I2 (.cons rfl r) q2
theorem Zjs{pl:Sem Bool}(he:PE X o ta)(c:Cls X.K C)(hm:Meth X.K C m f)(F:FnOk X.prog X.w X.K X.mg X.base CX k f fd ps sp)(hr:Room k X.A)(hb:Binds X.K fd ps ds)(hd:Vals dvs ds)(hx:ZdG CX X E)
  (ht:eval (.Call (.Attribute o m apos) [] [] pos) X.env=(do
   let ov <- eval o X.env
   standAt apos.atName
   let (f,first) <- holding [ov] (getMethod ov m pl)
   callWith pos f first (backTo pos (starEach [] X.env)) (backToKw pos (keywordEach [] X.env))):=by rfl) :
  PE X (.Call (.Attribute o m apos) [] [] pos) (Zjp C m sp dvs E ta Zga):=by
 intro pins s σ H Q I h;refine PySem.W.methodCall_KW (pl:=pl) (thn (he pins s σ H _ I h) fun u s1 ⟨x,H1,I1,rx,a,dx,fs,ex,ea,l,q⟩=>?_) ht;subst ex;obtain rfl:u=Value.ref a:=rx;refine Zee I1 ea c hm l ?_;exact PySem.W.callWith_K0 (first:=[.ref a]) I1.kIn hm.kp (ZiD (us:=[.ref a]) (vs:=[.ref a]) F hr hb hd hx I1 (.cons rfl .nil) q)
structure Mk(K:PySem.W.Frag)(C f:Addr):Prop where
 makes:PySem.W.makesIn K C=true
 init:PySem.W.findIn K (.ref C) "__init__" = some (some (.ref f))
 fn:PySem.W.isFn K (.ref f)=true
 kp:PySem.W.keepIn K (.ref C)=true
theorem ZjO{pins:List (Addr×Obj)}{σ : St}{H:Hp}{s:Shared}{Q:VK}{us:List Value}{vs:List V}(M:Mk X.K C f)(F:FnOk X.prog X.w X.K X.mg X.base CX k f fd ps sp)(hr:Room (k+1) X.A)(hb:Binds X.K fd ps ds)(hd:Vals dvs ds)
  (hx:ZdG CX X E) (I:Inv X pins σ H s) (r:Vals vs us)
  (h:∀x dx,H x=none->H dx=none->dx≠x->sp (.ref x::(vs++dvs)) (upd (upd H dx (.own x)) x (.ins C dx [])) (fun v H2=>v=.non/\Q (.ref x) H2) E) :
  wpAny (model X.prog X.w) X.A (call (.ref C) us) (EP X pins σ Q) X.xe s:=by
 have hq:=h (s.heap.objs.size+1) s.heap.objs.size (I.hok.fresh (Nat.le_succ _)) (I.hok.fresh (Nat.le_refl _)) (Nat.ne_of_lt (Nat.lt_succ_self _));have I2:=Inv.made (C:=C) I;have r2:Vals (V.ref (s.heap.objs.size+1)::(vs++dvs)) (Value.ref (s.heap.objs.size+1)::(us++ds)):=.cons rfl (r.append hd);have hl:(Value.ref (s.heap.objs.size+1)::us++ds).length=ps.length:=by
  have e:=r2.length;rw[F.len _ _ _ _ hq] at e;exact e.symm
 refine wpAny_call (ZjB (f:=f) I.kIn M.makes M.init (beq_iff_eq.mp M.fn) (codeAny_mono (F.run _ X.stack _ _ ⟨Value.ref (s.heap.objs.size+1)::us,[]⟩ (Value.ref (s.heap.objs.size+1)::(us++ds)) _ _ E (hr.make C us [])
  (I2.env0.make C us []) (hb _ (Value.ref (s.heap.objs.size+1)::us) I2.kIn hl) r2 hq) fun r s' hq'=>?_))
 cases r with
 | error e=>exact hx pins σ _ _ e s' I2 hq'
 | ok fl =>
  cases fl with
  | ret u =>
   obtain⟨v,H',I3,rv,ev,q3⟩:=I2.after hq';subst ev;exact⟨rv,⟨V.ref (s.heap.objs.size+1),H',I3,rfl,q3⟩⟩
  | next=>exact False.elim hq'
  | brk=>exact False.elim hq'
  | cont=>exact False.elim hq'
theorem ZkC(M:Mk X.K C f)(F:FnOk X.prog X.w X.K X.mg X.base CX k f fd ps sp)(hr:Room (k+1) X.A)(hg:Gl X x)(hm:X.mg x=some (.ref C))(hb:Binds X.K fd ps ds)(hd:Vals dvs ds)(hx:ZdG CX X E)
  (ha:PA X (e::es) t) (hdb:(x == ("__debug__" : Str))=false:=by decide) (he:starEach (e::es) X.env=(false,eval e X.env)::starEach es X.env:=by rfl) (hpl:(backTo pos (starEach es X.env)).any (·.1)=false:=by rfl) :
  PE X (.Call (.Name x p) (e::es) [] pos) (Zlk C sp dvs E t):=by
 intro pins s σ H Q I h;refine wpAny_Call_Name_kw (Zdf I hg hm ?_ hdb);refine PySem.W.callWith_K (h₀ := X.base) I.ok.mod.kin M.kp (thn (ha pos pins s σ H _ I h) fun us s1 ⟨vs,H1,I1,r,q⟩=>⟨I1.kIn,?_⟩) he hpl;exact ZjO M F hr hb hd hx I1 r q
end
def PK(X:Cx)(kws:List Keyword)(t:TA):Prop :=
 ∀(pos:Pos)(pins:List (Addr×Obj))(s:Shared)(σ : St)(H:Hp)(Q:List V->Hp->Prop),Inv X pins σ H s->t σ H Q->wpAny (model X.prog X.w) X.A (evalAll ((backToKw pos (keywordEach kws X.env)).map (·.2))) (AP X pins σ Q) X.xe s
section
variable{X:Cx}{CX:CXT}{k:Nat}{f C:Addr}{fd:FuncData}{ps ks:List Str}{sp:Sp}{E:XK}{x m:Str}{p pos apos kpos:Pos}{e o:Expr}{es:List Expr}{kws:List Keyword}{te ta:TE}{t tk:TA}{nm:Option Str}
theorem Zlb:PK X [] Zga:=fun _ _ _ _ H Q I h=>wpAny_evalAll_nil ⟨[],H,I,.nil,h⟩
theorem ZkH(ha:PE X e te)(hr:PK X kws t):PK X (⟨nm,e,kpos⟩::kws) (Zb8 te t):=by
 intro pos pins s σ H Q I h;show wpAny _ _ (evalAll ((do let v <- eval e X.env;standAt pos;pure v)::(backToKw pos (keywordEach kws X.env)).map (·.2))) _ _ s;refine wpAny_evalAll_cons (wpAny_bind (thn (ha pins s σ H _ I h) fun u s1 ⟨x,H1,I1,r1,q1⟩=>wpAny_bind (wpAny_standAt (wpAny_pure ?_))));exact thn (hr pos pins s1 σ H1 _ I1 q1) fun us s2 ⟨xs,H2,I2,r2,q2⟩=>⟨x::xs,H2,I2,.cons r1 r2,q2⟩
variable{g:List Value->List Value->List Value}{gV:List V->List V->List V}
end
structure FnScope(N P:List Str)(sc:Scope):Prop where
 kind:sc.kind=.function
 co:sc.isCoroutine=false
 gen:sc.isGenerator=false
 nd:N.Nodup
 pre:N.take P.length=P
 par:∀x∈P,sc.names.lookup x=some .local\/sc.names.lookup x=some .cell
 Zc1:∀y∈sc.names,y.2 ≠ .free
theorem Zfh{kindOf:Str->Option NameKind}{x:Str}:∀{binds:List (Str×Value)}{m:Str->Option Value},(∀v,(x,v)∉binds)->bindL kindOf binds m x=m x
 | [],_,_=>rfl
 | (n,v)::r,m,h=>by
  unfold bindL;rw[Zfh fun w hw=>h w (List.mem_cons_of_mem _ hw)]
  split
  ·have:x≠n:=by rintro rfl;exact h v List.mem_cons_self
   simp[this]
  ·rfl
theorem Zfj{kindOf:Str->Option NameKind}{x:Str}:∀{binds:List (Str×Value)}{m:Str->Option Value},(∀v,(x,v)∉binds)->bindC kindOf binds m x=m x
 | [],_,_=>rfl
 | (n,v)::r,m,h=>by
  unfold bindC;rw[Zfj fun w hw=>h w (List.mem_cons_of_mem _ hw)]
  split
  ·rfl
  ·have:x≠n:=by rintro rfl;exact h v List.mem_cons_self
   simp[this]
theorem Zfi{kindOf:Str->Option NameKind}{x:Str}{v:Value}:∀{P:List Str}{vs:List Value}{i:Nat}{m:Str->Option Value},P.Nodup->P[i]?= some x->vs[i]?= some v->kindOf x=some .local ->
  bindL kindOf (P.zip vs) m x=some v
 | [],_,_,_,_,h,_,_=>by simp at h
 | _::_,[],_,_,_,_,h,_=>by simp at h
 | p::P,w::vs,0,m,nd,h1,h2,hk=>by
  simp at h1 h2;subst h1;subst h2;show bindL kindOf ((p,w)::P.zip vs) m p=_;unfold bindL;rw[Zfh fun v hv=>(List.nodup_cons.mp nd).1 (List.of_mem_zip hv).1,if_pos hk];simp
 | p::P,w::vs,i+1,m,nd,h1,h2,hk=>by
  show bindL kindOf ((p,w)::P.zip vs) m x=_;unfold bindL;exact Zfi (i:=i) (List.nodup_cons.mp nd).2 (by simpa using h1) (by simpa using h2) hk
theorem Zfe{kindOf:Str->Option NameKind}{x:Str}{v:Value}:∀{P:List Str}{vs:List Value}{i:Nat}{m:Str->Option Value},P.Nodup->P[i]?= some x->vs[i]?= some v->kindOf x≠some .local ->
  bindC kindOf (P.zip vs) m x=some v
 | [],_,_,_,_,h,_,_=>by simp at h
 | _::_,[],_,_,_,_,h,_=>by simp at h
 | p::P,w::vs,0,m,nd,h1,h2,hk=>by
  simp at h1 h2;subst h1;subst h2;show bindC kindOf ((p,w)::P.zip vs) m p=_;unfold bindC;rw[Zfj fun v hv=>(List.nodup_cons.mp nd).1 (List.of_mem_zip hv).1,if_neg hk];simp
 | p::P,w::vs,i+1,m,nd,h1,h2,hk=>by
  show bindC kindOf ((p,w)::P.zip vs) m x=_;unfold bindC;exact Zfe (i:=i) (List.nodup_cons.mp nd).2 (by simpa using h1) (by simpa using h2) hk
def start(N:List Str)(vs:List V):St:=vs.map some++List.replicate (N.length-vs.length) none
def ZjE(CX:CXT)(P:Program)(w:World)(K:PySem.W.Frag)(mg:Str->Option Value)(base:Heap)(N:List Str)(qual:Str)(scope:Scope)(f:Addr)(cd:Value)(A:Around)(outer:List Env)(s:Shared)(H:Hp)(E:XK):Cx where
 prog:=P
 w:=w
 K:=K
 mg:=mg
 base:=base
 A:=A.deeper (envOfC qual scope s.heap.objs.size f cd)
 N:=N
 s₀ := s
 H₀ := H
 env:=envOfC qual scope s.heap.objs.size f cd
 outer:=outer
 stack:=envOfC qual scope s.heap.objs.size f cd::outer
 ex:=[]
 calm:=true
 fn:=fun _=>true
 pn:=[]
 xe:=fun e s'=>wpAny (model P w) (A.deeper (envOfC qual scope s.heap.objs.size f cd)) (leaving (envOfC qual scope s.heap.objs.size f cd) e) (fun _ s''=>CX outer H s E e s'') (fun e' s''=>CX outer H s E e' s'') s'
theorem Zgr{sc:Scope}{n:Nat}{x:Str}(h:sc.names.lookup x=some .cell):∃c,(cellsFrom n sc.names []).lookup x=some c:=by
 have q:=PySem.W.cellsFrom_some sc.names n [] (.inl h);exact Option.isSome_iff_exists.mp q
theorem ZhA{CX:CXT}{P:Program}{w:World}{K:PySem.W.Frag}{mg:Str->Option Value}{base:Heap}{N ps:List Str}{qual:Str}{scope:Scope}{f:Addr}{cd:Value}{A:Around}{outer:List Env}{s s1:Shared}{H:Hp}{E:XK}{us:List Value}{vs:List V}
  (S:FnScope N ps scope) (hd:A.handled=none) (e0:Env0 P w K mg base A outer s H) (hl:vs.length=ps.length) (r:Vals vs us)
  (x:InCallC s s.heap.objs.size (bindL (envOfC qual scope s.heap.objs.size f cd).kindOf (ps.zip us) fun _=>none) (cellsFrom (s.heap.objs.size+1) scope.names []) (bindC (envOfC qual scope s.heap.objs.size f cd).kindOf (ps.zip us) fun _=>none) s1) :
  Inv (ZjE CX P w K mg base N qual scope f cd A outer s H E) [] (start N vs) H s1:=by
 have hpl:ps.length<=N.length:=by have:=congrArg List.length S.pre;rw[List.length_take] at this;lia
 obtain⟨h1,tk,rfl,hk⟩:=x.done;have noA:∀b:Addr,b∉(ZjE CX P w K mg base N qual scope f cd A outer s H E).ex:=fun b z=>absurd (show b∈([]:List Addr) from z) (by simp);refine⟨⟨e0.mod,S.kind,rfl,rfl,Nat.le_refl _,fun y z c h1 h2=>?_,fun y hy=>?_,fun y c _ h=>?_,fun _=>hd,Around.frames_deeper e0.frames,.inr ⟨rfl,rfl⟩,fun b z=>absurd z (noA b),e0.bs,e0.bsz,fun b _ _=>noA b,fun b z=>absurd z (noA b),e0.funs,e0.frf⟩,
  rfl,e0.bare,Un.kept hk,⟨_,x.toInCall.ns,fun i y v h1 h2 h3=>?_⟩,fun y c h=>⟨_,x.cell y c h⟩,e0.hok.fresh (Nat.le_refl _),fun y c h=>?_,fun p hp=>absurd (show p∈([]:List (Addr×Obj)) from hp) (by simp),e0.hok.kept hk,?_⟩
 ·exact name_of_addr x.apart (PySem.mem_of_lookup h1) (PySem.mem_of_lookup h2)
 ·have hy:scope.names.lookup y=some .cell\/scope.names.lookup y=some .free:=hy;rcases hy with hy|hy
  ·exact Zgr hy
  ·exact absurd rfl (S.Zc1 _ (PySem.mem_of_lookup hy))
 ·exact Nat.le_of_lt (x.above y c (PySem.mem_of_lookup h))
 ·have hi:i<vs.length:=by
   unfold start at h2;by_cases hi:i<vs.length
   ·exact hi
   ·rw[List.getElem?_append_right (by simpa using hi)] at h2;rw[List.getElem?_replicate] at h2
    split at h2 <;> cases h2
  have ha:vs[i]?= some v:=by
   unfold start at h2;rw[List.getElem?_append_left (by simpa using hi),List.getElem?_map] at h2;cases e:vs[i]? with
   | none=>rw[e] at h2;cases h2
   | some a=>rw[e] at h2;cases h2;rfl
  obtain⟨u,hu,rv⟩:=r.get ha;have hp:ps[i]?= some y:=by
   rw[<- S.pre,List.getElem?_take_of_lt (by lia)];exact h1
  have ndP:ps.Nodup:=by rw[<- S.pre];exact S.nd.sublist (List.take_sublist _ _)
  refine⟨u,rv,?_⟩;rcases S.par y (List.mem_of_getElem? hp) with k|k
  ·exact .inl ⟨k,Zfi ndP hp hu k⟩
  ·obtain⟨c,e⟩:=Zgr (n:=s.heap.objs.size+1) k;refine .inr ⟨.inl k,c,e,?_⟩;have q:=x.cell y c e;rw[Zfe ndP hp hu (by show scope.names.lookup y≠_;rw[k];decide)] at q;exact q
 ·exact e0.hok.fresh (Nat.le_of_lt (x.above y c (PySem.mem_of_lookup h)))
 ·unfold start;show _=N.length;rw[List.length_append,List.length_map,List.length_replicate];lia
theorem Zlm{CX:CXT}{P:Program}{w:World}{K:PySem.W.Frag}{mg:Str->Option Value}{base:Heap}{k:Nat}{f:Addr}{name qual:Str}{params:Arguments}{body:List Stmt}{scope:Scope}{dV kV doc pm cdv ct oc:Value}{an od:Option Addr}
  {osl:Array (Option Value)} {N ps:List Str} {sp:Sp} (lk:K.lookup f=some ⟨oc,od,.func (PySem.W.fnOf name qual params body scope dV kV doc pm an cdv ct),osl⟩) (hcd:PySem.W.codeIn K cdv qual=true) (S:FnScope N ps scope)
  (len:∀vs H Q E,sp vs H Q E->vs.length=ps.length)
  (hbody:∀(A:Around)(outer:List Env)(s:Shared)(H:Hp)(vs:List V)(Q:VK)(E:XK),Room k (A.deeper (envOfC qual scope s.heap.objs.size f cdv))->sp vs H Q E ->
   ∃t,PSs (ZjE CX P w K mg base N qual scope f cdv A outer s H E) body t/\t { nx:=fun _ H'=>Q .non H',rt:=Q } (start N vs) H) :
  FnOk P w K mg base CX (k+1) f (PySem.W.fnOf name qual params body scope dV kV doc pm an cdv ct) ps sp:=by
 refine⟨len,fun A outer s H args us vs Q E hr e0 hb r hsp=>?_⟩;have hl:=len _ _ _ _ hsp;have KX:K.In s.heap:=e0.mod.kin.keeps fun b o e=>(e0.bs b o e).1;have lim:s.heap.NoLimit:=e0.mod.nolimit.keeps fun b o e=>(e0.bs b o e).1;have hkind:∀y∈ps.zip us,scope.names.lookup y.1=some .local\/(scope.names.lookup y.1=some .cell/\((cellsFrom (s.heap.objs.size+1) scope.names []).lookup y.1).isSome=true):=fun⟨n,v⟩ hy=>by
  rcases S.par n (List.of_mem_zip hy).1 with q|q
  ·exact .inl q
  ·exact .inr ⟨q,PySem.W.cellsFrom_some _ _ _ (.inl q)⟩
 refine codeAny_call_function hr.depth (KX _ _ lk) rfl S.co S.gen rfl (PySem.W.codeRec_of KX hcd) (hb _ _ _ _ ?_);refine wpAny_newFunctionEnv_cells S.kind hkind fun env he s1 x=>?_;subst he;refine⟨lim.keeps x.toInCall.keep,codeAny_func ?_⟩;obtain⟨t,ht,hq⟩:=hbody A outer s H vs Q E (hr.deeper _) hsp;have I:Inv (ZjE CX P w K mg base N qual scope f cdv A outer s H E) [] (start N vs) H s1:=ZhA S hr.hd e0 hl r x;refine wpAny_mono (ht [] s1 (start N vs) H _ I hq) (fun fl s' hs=>?_) fun e s' hs=>hs;have fin:∀{σ':St}{H':Hp}{v:V}{u:Value},Inv (ZjE CX P w K mg base N qual scope f cdv A outer s H E) [] σ' H' s'->RelV v u->Q v H'->CE outer P w H s Q u s' :=
  fun{σ' H' v u} J rv q=>⟨v,H',J.os,J.bare,J.base,J.hok,rv,q⟩
 cases fl with
 | ret u =>
  obtain⟨v,σ',H',J,rv,q⟩:=hs;exact fin J rv q
 | next =>
  obtain⟨σ',H',J,q⟩:=hs;exact fin (v:=V.non) (u:=Value.none) J rfl q
 | brk =>
  obtain⟨_,_,_,q⟩:=hs;exact False.elim q
 | cont =>
  obtain⟨_,_,_,q⟩:=hs;exact False.elim q
section
variable{X:Cx}{x:Str}{p pos:Pos}{e:Expr}{es:List Expr}{t:TA}{id T:String}{r:List V->Hp->VK->Prop}
def tCB(r:List V->Hp->VK->Prop)(t:TA):TE:=fun σ H Q=>t σ H fun vs H1=>r vs H1 Q
theorem Zu(hc:Zbq X (.builtin id) r)(hg:Gl X x)(hm:X.mg x=none)(hv:bootBuiltins x=some (.builtin id))(ha:PA X (e::es) t)(hn:x ≠ "__name__" := by decide) (hdb:(x == ("__debug__" : Str))=false:=by decide)
  (he:starEach (e::es) X.env=(false,eval e X.env)::starEach es X.env:=by rfl) (hpl:(backTo pos (starEach es X.env)).any (·.1)=false:=by rfl):PE X (.Call (.Name x p) (e::es) [] pos) (tCB r t):=by
 intro pins s σ H Q I h;refine wpAny_Call_Name_kw (Zfo I hg hm hv ?_ hn hdb);exact PyProof.Rows.callWith_builtin1 (thn (ha pos pins s σ H _ I h) fun us s1 ⟨vs,H1,I1,r1,q1⟩=>hc pins s1 σ H1 vs us Q I1 r1 q1) he hpl
theorem Zam(hc:Zbq X (.type T) r)(hg:Gl X x)(hm:X.mg x=none)(hv:bootBuiltins x=some (.type T))(ha:PA X (e::es) t)(hn:x ≠ "__name__" := by decide) (hdb:(x == ("__debug__" : Str))=false:=by decide)
  (he:starEach (e::es) X.env=(false,eval e X.env)::starEach es X.env:=by rfl) (hpl:(backTo pos (starEach es X.env)).any (·.1)=false:=by rfl):PE X (.Call (.Name x p) (e::es) [] pos) (tCB r t):=by
 intro pins s σ H Q I h;refine wpAny_Call_Name_kw (Zfo I hg hm hv ?_ hn hdb);exact PyProof.Rows.callWith_type1 (thn (ha pos pins s σ H _ I h) fun us s1 ⟨vs,H1,I1,r1,q1⟩=>hc pins s1 σ H1 vs us Q I1 r1 q1) he hpl
end
end L2
namespace HT
open PySem PyProof.Rows
section
variable{prog:Program}{w:World}{A:Around}{E:Value->Shared->Prop}{s:Shared}
def sIx(n d:Nat):Option Int->Nat
 | none=>d
 | some v=>if v<0 then(v+(n:Int)).toNat else min v.toNat n
theorem ZgO(n d:Nat):sIx n d none=d:=rfl
theorem ZiT(n d k:Nat):sIx n d (some (k:Int))=min k n:=by
 show(if(k:Int)<0 then((k:Int)+(n:Int)).toNat else min (k:Int).toNat n)=min k n
 rw[if_neg (by lia),Int.toNat_natCast]
end
end HT
namespace L2
open PySem PySem.Spec PyProof.Rows
abbrev TO:=St->Hp->(Option Int->Hp->Prop)->Prop
def PO(X:Cx)(e:Option Expr)(t:TO):Prop :=
 ∀(pins:List (Addr×Obj))(s:Shared)(σ : St)(H:Hp)(Q:Option Int->Hp->Prop),Inv X pins σ H s->t σ H Q ->
  wpAny (model X.prog X.w) X.A (evalPart e X.env) (fun u s'=>∃o H',Inv X pins σ H' s'/\IsPart u o/\Q o H') X.xe s
def Zkx:TO:=fun _ H Q=>Q none H
def ZkK(t:TE):TO:=fun σ H Q=>t σ H fun x H1=>∃i,x=.int i/\Q (some i) H1
section
variable{X:Cx}{e:Expr}{te:TE}{lo hi:Option Expr}{tl th:TO}{pos p2:Pos}
theorem Zdc:PO X none Zkx:=by
 intro pins s σ H Q I h;rw[evalPart_none];exact wpAny_pure ⟨none,H,I,.none,h⟩
theorem Zcc(h:PE X e te):PO X (some e) (ZkK te):=by
 intro pins s σ H Q I hw;rw[evalPart_some];refine thn (h pins s σ H _ I hw) fun u s1 ⟨x,H1,I1,r1,q1⟩=>?_;obtain⟨i,rfl,q⟩:=q1;obtain⟨t,rfl⟩:=r1;exact⟨some i,H1,I1,.int i t,q⟩
def SlR(X:Cx)(r:V->Option Int->Option Int->Hp->VK->Prop):Prop :=
 ∀(pins:List (Addr×Obj))(s:Shared)(σ : St)(H:Hp)(x:V)(v vl vu:Value)(lo hi:Option Int)(sl:Addr)(Q:VK),Inv X pins σ H s->RelV x v->s.heap.IsSliceOf sl vl vu .none->IsPart vl lo->IsPart vu hi->r x lo hi H Q ->
  ∃T id,typeLookup (.type T) "__getitem__" = pure (some (.builtin id))/\s.TypeIs v T/\wpAny (model X.prog X.w) X.A (getItem v (.ref sl)) (EP X pins σ Q) X.xe s
def tSl(r:V->Option Int->Option Int->Hp->VK->Prop)(te:TE)(tl th:TO):TE:=fun σ H Q=>te σ H fun x H1=>tl σ H1 fun l H2=>th σ H2 fun u H3=>r x l u H3 Q
theorem ZbL{r:V->Option Int->Option Int->Hp->VK->Prop}(hr:SlR X r)(he:PE X e te)(hl:PO X lo tl)(hu:PO X hi th):PE X (.Subscript e (.Slice lo hi none p2) pos) (tSl r te tl th):=by
 intro pins s σ H Q I h;refine Subscript_ (thn (he pins s σ H _ I h) fun v s1 ⟨x,H1,I1,r1,q1⟩=>?_);refine wpAny_Slice (thn (hl pins s1 σ H1 _ I1 q1) fun vl s2 ⟨l,H2,I2,pl,q2⟩=>thn (hu pins s2 σ H2 _ I2 q2) fun vu s3 ⟨u,H3,I3,pu,q3⟩=>?_);rw[evalPart_none];refine wpAny_pure ?_;have I4:Inv X pins σ H3 { s3 with heap:=s3.heap.push { cls:=.type "slice",data:=.fields #[vl,vu,.none] } }:=I3.kept (t':=s3.toks) fun b ob q=>Heap.get?_push_of_some _ q;obtain⟨T,id,hT,ht,hg⟩:=hr pins { s3 with heap:=s3.heap.push { cls:=.type "slice",data:=.fields #[vl,vu,.none] } } σ H3 x v vl vu l u s3.heap.objs.size Q I4 r1 (Heap.IsSliceOf.new ..) pl pu q3;show wpAny (model X.prog X.w) X.A (subscriptTail e (.Slice lo hi none p2) v (.ref s3.heap.objs.size)) (EP X pins σ Q) X.xe { s3 with heap:=s3.heap.push { cls:=.type "slice",data:=.fields #[vl,vu,.none] } };exact tail_any (ops:=[.ref s3.heap.objs.size,v]) ht hT hg (by with_unfolding_all rfl)
def ZiA(xs:List V)(lo hi:Option Int):List V:=(xs.drop (HT.sIx xs.length 0 lo)).take (HT.sIx xs.length xs.length hi-HT.sIx xs.length 0 lo)
theorem ZfM(xs:List V)(lo hi:Option Int):(ZiA xs lo hi).length<=xs.length:=by
 unfold ZiA;rw[List.length_take,List.length_drop];lia
end
def ixN(n:Nat)(i:Int):Option Nat:=if 0<=i then(if i<n then some i.toNat else none) else if -(n:Int)<=i then some (i+n).toNat else none
def atI{α : Type}(xs:List α)(i:Int):Option α := (ixN xs.length i).bind fun j=>xs[j]?
theorem Zh7{n:Nat}{i:Int}{j:Nat}(h:ixN n i=some j):seqIndex? i n=some j/\j<n /\ -(n:Int)<=i/\i<n:=by
 unfold ixN at h;by_cases h0:0<=i
 ·rw[if_pos h0] at h;by_cases h1:i<n
  ·rw[if_pos h1] at h;have e:i.toNat=j:=Option.some.inj h;exact⟨by rw[seqIndex_of h0 h1,e],by lia,by lia,h1⟩
  ·rw[if_neg h1] at h;cases h
 ·rw[if_neg h0] at h;by_cases h1 : -(n:Int)<=i
  ·rw[if_pos h1] at h;have e:(i+n).toNat=j:=Option.some.inj h;exact⟨by rw[seqIndex_neg (by lia) h1,e],by lia,h1,by lia⟩
  ·rw[if_neg h1] at h;cases h
theorem ZfJ{α : Type}{xs:List α}{i:Int}{v : α}(h:atI xs i=some v):∃j,seqIndex? i xs.length=some j/\xs[j]?= some v/\j<xs.length /\ -(xs.length:Int)<=i/\i<xs.length:=by
 unfold atI at h;cases e:ixN xs.length i with
 | none=>rw[e] at h;cases h
 | some j =>
  rw[e] at h;obtain⟨h1,h2,h3,h4⟩:=Zh7 e;exact⟨j,h1,h,h2,h3,h4⟩
theorem Zbc{α : Type}{xs:List α}{j:Nat}{v : α}(h:xs[j]?= some v):atI xs (j:Int)=some v:=by
 have hj:j<xs.length:=(List.getElem?_eq_some_iff.mp h).1;have e:ixN xs.length (j:Int)=some j:=by
  unfold ixN;rw[if_pos (by lia),if_pos (by lia)];simp
 unfold atI;rw[e];exact h
theorem ZjC{α : Type}(xs:List α)(v : α):atI (xs ++ [v]) (-1)=some v:=by
 have hl:(xs ++ [v]).length=xs.length+1:=by simp
 have e:ixN (xs ++ [v]).length (-1)=some xs.length:=by
  unfold ixN;rw[hl,if_neg (by decide),if_pos (by lia)]
  congr 1
  lia
 unfold atI;rw[e];show(xs ++ [v])[xs.length]?= some v;simp
def Zkv(b:Expr):Prop := ∀o i,subscripted b false o i=operate [o,i] (getItem o i)
def IxR(X:Cx)(r:R2):Prop :=
 ∀(value slice:Expr)(pins:List (Addr×Obj))(s:Shared)(σ : St)(H:Hp)(x y:V)(v u:Value)(Q:VK),Inv X pins σ H s->RelV x v->RelV y u->r x y H Q ->
  subscripted slice false v u=operate [v,u] (getItem v u)->wpAny (model X.prog X.w) X.A (subscriptTail value slice v u) (EP X pins σ Q) X.xe s
def MtR(X:Cx)(id:String)(r:V->List V->Hp->VK->Prop):Prop :=
 ∀(pins:List (Addr×Obj))(s:Shared)(σ : St)(H:Hp)(x:V)(xs:List V)(v:Value)(us:List Value)(Q:VK),Inv X pins σ H s->RelV x v->Vals xs us->r x xs H Q ->
  wpAny (model X.prog X.w) X.A (call (.builtin id) (v::us)) (EP X pins σ Q) X.xe s
section
variable{X:Cx}{a b:Expr}{ta tb:TE}{pos:Pos}
theorem ZP{r:R2}(hr:IxR X r)(ha:PE X a ta)(hb:PE X b tb)(hs:Zkv b):PE X (.Subscript a b pos) (tOp r ta tb):=by
 intro pins s σ H Q I h;exact Subscript_ (Zmc ha hb I h fun v u s2 x y H2 I2 rx ry q=>hr a b pins s2 σ H2 x y v u Q I2 rx ry q (hs _ _))
def ZlN(K:PySem.W.Frag):R2:=fun x y H Q=>∃p xs i v,x=.ref p/\y=.int i/\SqL K H p xs/\atI xs i=some v/\Q v H
def Zl7(K:PySem.W.Frag):R2:=fun x y H Q=>∃p xs i v,x=.ref p/\y=.int i/\SqT K H p xs/\atI xs i=some v/\Q v H
def ZmJ:R2:=fun x y H Q=>∃z i c,x=.str z/\y=.int i/\z.length<=sizeLine/\atI z.cps.toList i=some c/\Q (.str ⟨#[c]⟩) H
theorem Z6:IxR X (ZlN X.K):=by
 intro value slice pins s σ H x y v u Q I rx ry h hs;obtain⟨p,xs,i,z,rfl,rfl,hq,he,q⟩:=h;cases rx;obtain⟨t,rfl⟩:=ry;obtain⟨its,r,pl,hz⟩:=I.list hq;obtain⟨j,h1,h2,h3,h4,h5⟩:=ZfJ he;obtain⟨w,ew,rw'⟩:=r.get h2;have hl:=r.length;have hn:=Zd0;have fin:EP X pins σ Q w s:=⟨z,H,I,rw',q⟩;by_cases h0:0<=i
 ·have hj:i.toNat=j:=by
   rw[seqIndex_of h0 h5] at h1;exact Option.some.inj h1
  exact item_listR pl.isList h0 (by lia) (by rw[hj];simpa using ew) fin hs
 ·have hj:(i+(its.toArray.size:Int)).toNat=j:=by
   rw[seqIndex_neg (by lia) h4] at h1;rw[List.size_toArray,<- hl];exact Option.some.inj h1
  exact subscriptTail_builtinR (x:=w) pl.isList.typeIs slot_list_getitem.lookup
   (wpAny_getItem_list_neg (Q:=fun r s'=>r=w/\EP X pins σ Q r s') pl.isList (by lia) (by rw[List.size_toArray] <;> lia) (by lia) (by rw[hj];simpa using ew) ⟨rfl,fin⟩) hs
theorem ZX:IxR X (Zl7 X.K):=by
 intro value slice pins s σ H x y v u Q I rx ry h hs;obtain⟨p,xs,i,z,rfl,rfl,hq,he,q⟩:=h;cases rx;obtain⟨t,rfl⟩:=ry;obtain⟨its,r,pl,hz⟩:=I.tuple hq;obtain⟨j,h1,h2,h3,h4,h5⟩:=ZfJ he;obtain⟨w,ew,rw'⟩:=r.get h2;have hl:=r.length;have hn:=Zd0;have fin:EP X pins σ Q w s:=⟨z,H,I,rw',q⟩;exact subscriptTail_builtinR (x:=w) pl.typeIs slot_tuple_getitem.lookup
  (getItem_tuple (j:=j) (Q:=fun r s'=>r=w/\EP X pins σ Q r s') pl (by lia) (by lia) (by rw[List.size_toArray,<- hl];exact h1) (by simpa using ew) ⟨rfl,fin⟩) hs
theorem ZgN:IxR X ZmJ:=by
 intro value slice pins s σ H x y v u Q I rx ry h hs;obtain⟨z,i,c,rfl,rfl,hz,he,q⟩:=h;obtain⟨t,rfl⟩:=rx;obtain⟨t',rfl⟩:=ry;obtain⟨j,h1,h2,h3,h4,h5⟩:=ZfJ he;have hl:z.cps.toList.length=z.length:=by simp[Str.length]
 rw[hl] at h1 h4 h5;have hn:=Zd0;exact tail_any (typeIs_str s z t) slot_str_getitem.lookup (getItem_str (c:=c) (by
  have e1:decide (i < -(2 ^ 63:Int))=false:=decide_eq_false (by lia);have e2:decide (i>=2 ^ 63)=false:=decide_eq_false (by lia);rw[e1,e2,Bool.or_false]) (by rw[h1];simpa using h2) ⟨.str ⟨#[c]⟩,H,I.tok _,⟨_,rfl⟩,q⟩) hs
theorem Zhr(its:List Value)(n j:Nat)(u:Value):Obj.mapSeq (·.setIfInBounds j u) { cls:=.type "list",data:=.seq its.toArray n }= { cls:=.type "list",data:=.seq (its.set j u).toArray n }:=by
 simp[Obj.mapSeq]
theorem Inv.lst{pins:List (Addr×Obj)}{σ : St}{H:Hp}{s:Shared}{p:Addr}{xs:List V}(I:Inv X pins σ H s)(h:H p=some (.lst xs)) :
  ∃(its:List Value)(n:Nat),Vals xs its/\s.heap.get? p=some { cls:=.type "list",data:=.seq its.toArray n }/\xs.length<=sizeLine:=by
 obtain⟨z,its,n,r,e⟩:=I.hok p _ h;exact⟨its,n,r,e,z⟩
theorem Inv.lstUpd{pins:List (Addr×Obj)}{σ : St}{H:Hp}{s:Shared}{p:Addr}{xs ys:List V}{its its':List Value}{n n':Nat}{f:Obj->Obj}(I:Inv X pins σ H s)(h:H p=some (.lst xs))
  (ho:s.heap.get? p=some { cls:=.type "list",data:=.seq its.toArray n }) (hf:f { cls:=.type "list",data:=.seq its.toArray n }= { cls:=.type "list",data:=.seq its'.toArray n' }) (r:Vals ys its') (hz:ys.length<=sizeLine) (t:Nat) :
  Inv X pins σ (upd H p (.lst ys)) { s with heap:=s.heap.update p f,toks:=t }:=by
 have e:(s.heap.update p f).get? p=some { cls:=.type "list",data:=.seq its'.toArray n' }:=by
  rw[Heap.get?_update_self f ho (by rw[hf] <;> rfl),hf]
 refine I.write (x:=p) (e:=p) (by rw[h];trivial) (.inl rfl) (fun b u hb q=>(Heap.get?_update_other _ _ (Ne.symm hb)).trans q) ⟨_,e⟩ ?_;exact⟨hz,its',n',r,e⟩
def Zl5:V->V->V->Hp->(Hp->Prop)->Prop:=fun o i v H Q=>∃p xs k j,o=.ref p/\i=.int k/\H p=some (.lst xs)/\ixN xs.length k=some j/\Q (upd H p (.lst (xs.set j v)))
theorem set_list:Zms X Zl5:=by
 intro pins s σ H o i v ov iv u Q I ro ri rv h;obtain⟨p,xs,k,j,rfl,rfl,hp,hj,q⟩:=h;cases ro;obtain⟨t,rfl⟩:=ri;obtain⟨its,n,r,ho,hz⟩:=I.lst hp;obtain⟨h1,h2,h3,h4⟩:=Zh7 hj;have hl:=r.length;have hn:=Zd0;have I':Inv X pins σ (upd H p (.lst (xs.set j v))) { s with heap:=s.heap.update p (Obj.mapSeq (·.setIfInBounds j u)) } :=
  I.lstUpd hp ho (Zhr its n j u) (r.set rv j) (by rw[List.length_set];exact hz) s.toks
 by_cases h0:0<=k
 ·have hk:k.toNat=j:=by
   rw[seqIndex_of h0 h4] at h1;exact Option.some.inj h1
  exact PySem.W.ki_setAt ho h0 (by lia) (by rw[List.size_toArray,<- hl];exact h4) (by rw[hk];exact⟨_,I',q⟩)
 ·have hk:(k+(its.toArray.size:Int)).toNat=j:=by
   rw[seqIndex_neg (by lia) h3] at h1;rw[List.size_toArray,<- hl];exact Option.some.inj h1
  exact PySem.W.ki_setBack ho (by lia) (by rw[List.size_toArray,<- hl];exact h3) (by lia) (by rw[hk];exact⟨_,I',q⟩)
theorem Ze6(lo hi:Option Int)(n:Nat):(sliceBounds lo hi none n).1=((HT.sIx n 0 lo:Nat):Int)/\(sliceBounds lo hi none n).2.1=((HT.sIx n n hi:Nat):Int)/\(sliceBounds lo hi none n).2.2=1:=by
 refine⟨?_,?_,rfl⟩
 ·cases lo with
  | none=>simp[sliceBounds,HT.sIx]
  | some i =>
   simp only[sliceBounds,HT.sIx,Option.getD_none,show(1:Int) > 0 by decide,if_true];by_cases h:i<0
   ·simp only[h,if_true] <;> lia
   ·simp only[h,if_false] <;> lia
 ·cases hi with
  | none=>simp[sliceBounds,HT.sIx]
  | some i =>
   simp only[sliceBounds,HT.sIx,Option.getD_none,show(1:Int) > 0 by decide,if_true];by_cases h:i<0
   ·simp only[h,if_true] <;> lia
   ·simp only[h,if_false] <;> lia
theorem ZeZ(its:List Value)(lo hi:Option Int):slicePick its.toArray lo hi none=((its.drop (HT.sIx its.length 0 lo)).take (HT.sIx its.length its.length hi-HT.sIx its.length 0 lo)).toArray:=by
 obtain⟨h1,h2,h3⟩:=Ze6 lo hi its.toArray.size;unfold slicePick;rw[h1,h2,h3];simp only[sliceRange_one,pick_run,List.size_toArray] <;> rfl
def ZmW(K:PySem.W.Frag):V->Option Int->Option Int->Hp->VK->Prop:=fun x lo hi H Q=>∃a xs,x=.ref a/\SqL K H a xs/\∀p,H p=none->Q (.ref p) (upd H p (.lst (ZiA xs lo hi)))
theorem ZeW:SlR X (ZmW X.K):=by
 intro pins s σ H x v vl vu lo hi sl Q I rx hs pl pu h;obtain⟨a,xs,rfl,hx,q⟩:=h;cases rx;obtain⟨its,r,ht,hz⟩:=I.list hx;have hlen:=r.length;refine⟨"list",_,slot_list_getitem.lookup,ht.isList.typeIs,?_⟩;refine wpAny_getItem_list_slice ht.isList hs pl pu .none (by simp) ?_ (by rw[List.size_toArray] <;> lia)
 rw[ZeZ,<- hlen];refine⟨.ref s.heap.objs.size,_,I.laid (t':=s.toks) (o:=.lst (ZiA xs lo hi)) (fun b ob q=>Heap.get?_push_of_some _ q) (Nat.le_refl _) ?_,rfl,q _ (I.hok.fresh (Nat.le_refl _))⟩;exact⟨Nat.le_trans (ZfM xs lo hi) hz,_,0,(r.drop (HT.sIx xs.length 0 lo)).take (HT.sIx xs.length xs.length hi-HT.sIx xs.length 0 lo),Heap.get?_push_size _ rfl⟩
def Zea:V->Bool
 | .non=>true
 | .bl _=>true
 | .int _=>true
 | .str _=>true
 | _=>false
def eqV:V->V->Bool
 | .non,.non=>true
 | .bl a,.bl b=>a == b
 | .bl a,.int b=>(if a then 1 else 0) == b
 | .int a,.bl b=>a == (if b then 1 else 0)
 | .int a,.int b=>a == b
 | .str a,.str b=>a == b
 | _,_=>false
theorem Zk3{A:Around}{s:Shared}{y x:V}{u v:Value}(ry:RelV y u)(rx:RelV x v)(fy:Zea y=true)(fx:Zea x=true):SeqAt.EqAt A s u v (eqV y x):=by
 cases y with
 | non =>
  cases ry;cases x with
  | non=>cases rx;exact SeqAt.EqAt.same _
  | bl b=>cases rx;exact SeqAt.EqAt.none_bool b
  | int b=>obtain⟨t,rfl⟩:=rx;exact SeqAt.EqAt.none_int b t
  | str b=>obtain⟨t,rfl⟩:=rx;exact SeqAt.EqAt.none_str b t
  | _=>exact absurd (show false=true from fx) Bool.false_ne_true
 | bl a =>
  cases ry;cases x with
  | non=>cases rx;exact SeqAt.EqAt.bool_none a
  | bl b=>cases rx;exact SeqAt.EqAt.bool_bool a b
  | int b=>obtain⟨t,rfl⟩:=rx;exact SeqAt.EqAt.bool_int a b t
  | str b=>obtain⟨t,rfl⟩:=rx;exact SeqAt.EqAt.bool_str a b t
  | _=>exact absurd (show false=true from fx) Bool.false_ne_true
 | int a =>
  obtain⟨t',rfl⟩:=ry;cases x with
  | non=>cases rx;exact SeqAt.EqAt.int_none a t'
  | bl b=>cases rx;exact SeqAt.EqAt.int_bool a t' b
  | int b=>obtain⟨t,rfl⟩:=rx;exact SeqAt.EqAt.int_int a t' b t
  | str b=>obtain⟨t,rfl⟩:=rx;exact SeqAt.EqAt.int_str a t' b t
  | _=>exact absurd (show false=true from fx) Bool.false_ne_true
 | str a =>
  obtain⟨t',rfl⟩:=ry;cases x with
  | non=>cases rx;exact SeqAt.EqAt.str_none a t'
  | bl b=>cases rx;exact SeqAt.EqAt.str_bool a t' b
  | int b=>obtain⟨t,rfl⟩:=rx;exact SeqAt.EqAt.str_int a t' b t
  | str b=>obtain⟨t,rfl⟩:=rx;exact SeqAt.EqAt.str_str a t' b t
  | _=>exact absurd (show false=true from fx) Bool.false_ne_true
 | _=>exact absurd (show false=true from fy) Bool.false_ne_true
def eqU(x:V)(u:Value):Bool:=match u with
 | .none=>eqV .non x
 | .bool b=>eqV (.bl b) x
 | .int i _=>eqV (.int i) x
 | .str z _=>eqV (.str z) x
 | _=>false
theorem ZgJ{x y:V}{u:Value}(r:RelV y u)(f:Zea y=true):eqU x u=eqV y x:=by
 cases y with
 | non=>cases r;rfl
 | bl b=>cases r;rfl
 | int i=>obtain⟨t,rfl⟩:=r;rfl
 | str z=>obtain⟨t,rfl⟩:=r;rfl
 | _=>exact absurd (show false=true from f) Bool.false_ne_true
theorem ZdK{x:V}:∀{xs:List V}{us:List Value},Vals xs us->xs.all Zea=true->us.any (eqU x)=xs.any fun y=>eqV y x
 | _,_,.nil,_=>rfl
 | y::xs,u::us,.cons r t,f=>by
  rw[List.all_cons,Bool.and_eq_true] at f;rw[List.any_cons,List.any_cons,ZgJ r f.1,ZdK t f.2]
theorem ZbK{A:Around}{s:Shared}{x:V}{v:Value}(rx:RelV x v)(fx:Zea x=true):∀{xs:List V}{us:List Value},Vals xs us->xs.all Zea=true->∀u∈us,SeqAt.EqAt A s u v (eqU x u)
 | _,_,.nil,_=>fun u hu=>by cases hu
 | y::xs,u::us,.cons r t,f=>fun u' hu=>by
  rw[List.all_cons,Bool.and_eq_true] at f;rcases List.mem_cons.mp hu with rfl|hu
  ·rw[ZgJ r f.1];exact Zk3 r rx f.1 fx
  ·exact ZbK rx fx t f.2 u' hu
def inV(x:V)(xs:List V):Bool:=xs.any fun y=>eqV y x
def rIn(K:PySem.W.Frag)(neg:Bool):R2:=fun x y H Q=>∃p xs,y=.ref p/\(SqL K H p xs\/SqT K H p xs)/\Zea x=true/\xs.all Zea=true/\Q (.bl (if neg then !inV x xs else inV x xs)) H
theorem ZbB:OpR X (compareOp .In) (rIn X.K false):=by
 intro pins s σ H x y v u Q I rx ry h;obtain⟨p,xs,rfl,hq,fx,fs,q⟩:=h;cases ry;rcases hq with hq|hq
 ·obtain⟨its,r,pl,hz⟩:=I.list hq;refine SeqAt.in_listAt (eqU x) pl.isList (fun w hw=>ZbK rx fx r fs w (by simpa using hw)) ⟨.bl _,H,I,rfl,?_⟩;rw[show its.toArray.any (eqU x)=its.any (eqU x) by simp,ZdK r fs];exact q
 ·obtain⟨its,r,pl,hz⟩:=I.tuple hq;refine SeqAt.in_tupleAt (eqU x) pl (fun w hw=>ZbK rx fx r fs w (by simpa using hw)) ⟨.bl _,H,I,rfl,?_⟩;rw[show its.toArray.any (eqU x)=its.any (eqU x) by simp,ZdK r fs];exact q
theorem Zby:OpR X (compareOp .NotIn) (rIn X.K true):=by
 intro pins s σ H x y v u Q I rx ry h;obtain⟨p,xs,rfl,hq,fx,fs,q⟩:=h;cases ry;rcases hq with hq|hq
 ·obtain⟨its,r,pl,hz⟩:=I.list hq;refine SeqAt.notIn_listAt (eqU x) pl.isList (fun w hw=>ZbK rx fx r fs w (by simpa using hw)) ⟨.bl _,H,I,rfl,?_⟩;rw[show its.toArray.any (eqU x)=its.any (eqU x) by simp,ZdK r fs];exact q
 ·obtain⟨its,r,pl,hz⟩:=I.tuple hq;refine SeqAt.notIn_tupleAt (eqU x) pl (fun w hw=>ZbK rx fx r fs w (by simpa using hw)) ⟨.bl _,H,I,rfl,?_⟩;rw[show its.toArray.any (eqU x)=its.any (eqU x) by simp,ZdK r fs];exact q
theorem ZD:Zbq X (.builtin "len") (fun xs H Q=>∃p ys,xs=[.ref p]/\(SqL X.K H p ys\/SqT X.K H p ys)/\Q (.int ys.length) H):=by
 intro pins s σ H xs us Q I r h;obtain⟨p,ys,rfl,hq,q⟩:=h;obtain⟨u,rfl,rx⟩:=vals1 r;cases rx;have hn:=Zd0;rcases hq with hq|hq
 ·obtain⟨its,r',pl,hz⟩:=I.list hq;have hlen:=r'.length;exact Calls.call_len_list pl.isList (by simp only[List.size_toArray] <;> lia) ⟨.int ys.length,H,I.tok _,⟨s.toks+1,by rw[List.size_toArray,hlen]⟩,q⟩
 ·obtain⟨its,r',pl,hz⟩:=I.tuple hq;have hlen:=r'.length;exact len_tuple pl (by simp only[List.size_toArray] <;> lia) ⟨.int ys.length,H,I.tok _,⟨s.toks+1,by rw[List.size_toArray,hlen]⟩,q⟩
theorem Za0:Zbq X (.builtin "len") (fun xs H Q=>∃z,xs=[.str z]/\z.length<=sizeLine/\Q (.int z.length) H):=by
 intro pins s σ H xs us Q I r h;obtain⟨z,rfl,hz,q⟩:=h;obtain⟨u,rfl,t,rfl⟩:=vals1 r;have hn:=Zd0;exact len_str (by lia) ⟨.int z.length,H,I.tok _,⟨_,rfl⟩,q⟩
theorem Zbx:Zbq X (.type "list") (fun xs H Q=>∃p ys,xs=[.ref p]/\(SqL X.K H p ys\/SqT X.K H p ys)/\∀l,H l=none->Q (.ref l) (upd H l (.lst ys))):=by
 intro pins s σ H xs us Q I r h;obtain⟨p,ys,rfl,hq,q⟩:=h;obtain⟨u,rfl,rx⟩:=vals1 r;cases rx;have fin:∀(its:List Value),Vals ys its->ys.length<=sizeLine->∀(h':Heap)(c':Nat),(∀b o',s.heap.get? b=some o'->h'.get? b=some o') ->
   h'.get? s.heap.objs.size=some { cls:=.type "list",dict:=none,data:=.seq its.toArray c',slots :=#[] }->EP X pins σ Q (.ref s.heap.objs.size) { s with heap:=h' }:=fun its r' hz h' c' kp e =>
  ⟨.ref s.heap.objs.size,_,I.laid (t':=s.toks) kp (Nat.le_refl _) (show Zar X.prog X.w _ h' _ (.lst ys) from⟨hz,its,c',r',e⟩),rfl,q _ (I.hok.fresh (Nat.le_refl _))⟩
 rcases hq with hq|hq
 ·obtain⟨its,r',pl,hz⟩:=I.list hq;have hlen:=r'.length;obtain⟨o,ho,hc,n,hd⟩:=pl.isList;exact call_list_seq p (.inl rfl) ho hc hd (fun h' c' kp e=>fin its r' hz h' c' kp e) (by simp only[List.size_toArray] <;> lia)
 ·obtain⟨its,r',pl,hz⟩:=I.tuple hq;have hlen:=r'.length;obtain⟨o,ho,hc,n,hd⟩:=pl;exact call_list_seq p (.inr rfl) ho hc hd (fun h' c' kp e=>fin its r' hz h' c' kp e) (by simp only[List.size_toArray] <;> lia)
theorem ZbW:Zbq X (.type "tuple") (fun xs H Q=>∃p ys,xs=[.ref p]/\((SqL X.K H p ys/\∀l,H l=none->Q (.ref l) (upd H l (.tup ys)))\/(SqT X.K H p ys/\Q (.ref p) H))):=by
 intro pins s σ H xs us Q I r h;obtain⟨p,ys,rfl,h⟩:=h;obtain⟨u,rfl,rx⟩:=vals1 r;cases rx;rcases h with⟨hq,q⟩|⟨hq,q⟩
 ·obtain⟨its,r',pl,hz⟩:=I.list hq;have hlen:=r'.length;refine call_tuple_list pl.isList (fun h' kp=>?_) (by simp only[List.size_toArray] <;> lia)
  have I1:Inv X pins σ H { s with heap:=h' }:=I.kept (t':=s.toks) kp;have I2:Inv X pins σ (upd H h'.objs.size (.tup ys)) { s with heap:=h'.push { cls:=.type "tuple",data:=.seq its.toArray } } :=
   I1.laid (t':=s.toks) (fun b o e=>Heap.get?_push_of_some _ e) (Nat.le_refl _) (show Zar X.prog X.w _ _ _ (.tup ys) from⟨hz,its,r',IsTup.new _ _⟩)
  exact⟨.ref h'.objs.size,_,I2,rfl,q _ (I1.hok.fresh (Nat.le_refl _))⟩
 ·obtain⟨its,r',pl,hz⟩:=I.tuple hq;exact call_tuple_same pl ⟨.ref p,H,I,rfl,q⟩
def tyV(K:PySem.W.Frag)(T:String)(x:V)(H:Hp):Prop:=match x with
 | .str _=>T= "str"
 | .int _=>T= "int"
 | .ref p=>(T= "list" /\ ∃xs,SqL K H p xs)\/(T= "tuple" /\ ∃o,K.lookup p=some o/\o.cls=.type "tuple" /\ o.dict=none) \/
   (T= "dict" /\ ((∃kvs,H p=some (.dK kvs))\/∃kvs,H p=some (.dT kvs)))\/(T= "set" /\ ∃S n,H p=some (.set S n))
 | _=>False
theorem ZlC{pins:List (Addr×Obj)}{σ : St}{H:Hp}{s:Shared}{T:String}{x:V}{v:Value}(I:Inv X pins σ H s)(r:RelV x v)(ty:tyV X.K T x H) :
  s.TypeIs v T/\∀a,v=.ref a->∃ob,s.heap.get? a=some ob/\ob.dict=none:=by
 cases x with
 | str z =>
  obtain⟨t,rfl⟩:=r;cases (show T= "str" from ty);exact⟨typeIs_str s z t,fun _ e=>nomatch e⟩
 | int i =>
  obtain⟨t,rfl⟩:=r;cases (show T= "int" from ty);exact⟨typeIs_int s i t,fun _ e=>nomatch e⟩
 | ref p =>
  cases r;rcases ty with⟨rfl,xs,hq⟩|⟨rfl,o,hk,hc,hd⟩|⟨rfl,hk⟩|⟨rfl,S,n,hk⟩
  ·obtain⟨its,_,pl,_⟩:=I.list hq;refine⟨pl.isList.typeIs,fun a e=>?_⟩;cases e;obtain⟨o,n,e,c,hd,_⟩:=pl;exact⟨o,e,hd⟩
  ·refine⟨⟨o,I.kIn p o hk,hc⟩,fun a e=>?_⟩;cases e;exact⟨o,I.kIn _ o hk,hd⟩
  ·have z:∃o,s.heap.get? p=some o/\o.ExactDict:=by
    rcases hk with⟨kvs,hk⟩|⟨kvs,hk⟩
    ·obtain⟨_,_,_,_,o,_,_,e,ex,_⟩:=I.hok p _ hk;exact⟨o,e,ex⟩
    ·obtain⟨_,_,_,_,o,_,_,e,ex,_⟩:=I.hok p _ hk;exact⟨o,e,ex⟩
   obtain⟨o,e,ex⟩:=z;refine⟨⟨o,e,ex.1⟩,fun a e2=>?_⟩;cases e2;exact⟨o,e,ex.2.1⟩
  ·obtain⟨o,_,_,_,e,ex,_⟩:=I.hok p _ hk;refine⟨⟨o,e,ex.1⟩,fun a e2=>?_⟩;cases e2;exact⟨o,e,ex.2.1⟩
 | _=>exact False.elim ty
def tBM(K:PySem.W.Frag)(T:String)(r:V->List V->Hp->VK->Prop)(to:TE)(t:TA):TE:=fun σ H Q=>to σ H fun x H1=>tyV K T x H1/\t σ H1 fun xs H2=>r x xs H2 Q
variable{o e:Expr}{es:List Expr}{to:TE}{t:TA}{name:Str}{apos cpos:Pos}{T id:String}{r:V->List V->Hp->VK->Prop}
theorem Zb0(pa:PlainAttrs T)(slot:Slot T name id)(hty:typeOf (.builtin id)=pure (.type "method_descriptor")) (hm:MtR X id r) (ho:PE X o to) (ha:PA X (e::es) t)
  (hbase:attributeBase o name X.env (eval o X.env)=eval o X.env:=by rfl)
  (hfew:((backTo cpos (starEach (e::es) X.env)).all (fun x=>!x.1)&&(backToKw cpos (keywordEach [] X.env)).all (fun x=>x.1.isSome)
   && decide ((e::es).length+([]:List Keyword).length+(if([]:List Keyword).isEmpty then 0 else 1)<30))=true:=by rfl)
  (hline:(apos.endLine == cpos.line)=true:=by rfl) (hs:starEach (e::es) X.env=(false,eval e X.env)::starEach es X.env:=by rfl) (hplain:(backTo cpos (starEach es X.env)).any (·.1)=false:=by rfl) :
  PE X (.Call (.Attribute o name apos) (e::es) [] cpos) (tBM X.K T r to t):=by
 intro pins s σ H Q I h;refine wpAny_Call_method_late hbase hfew hline rfl (thn (ho pins s σ H _ I h) fun v s1 ⟨x,H1,I1,r1,ty,q1⟩=>?_);obtain⟨h1,h2⟩:=ZlC I1 r1 ty;refine⟨T,id,pa,slot,hty,h1,h2,?_⟩;have hA:=ha cpos pins s1 σ H1 _ I1 q1;rw[hs] at hA ⊢;refine Calls.callWith_builtin (by show(false || (backTo cpos (starEach es X.env)).any (·.1))=false;rw[hplain] <;> rfl) (Calls.evalArgs_plain ?_)
 exact thn hA fun us s2 ⟨vs,H2,I2,r2,q2⟩=>hm pins s2 σ H2 x vs v us Q I2 r1 r2 q2
/- xs.append(e),list.index on a module's tuple .. are MtR facts of 06m -/
end
def MtM(X:Cx)(id:String)(r:V->List V->Hp->VK->Prop):Prop :=
 ∀(pins:List (Addr×Obj))(s:Shared)(σ : St)(H:Hp)(x:V)(xs:List V)(v:Value)(us:List Value)(Q:VK),Inv X pins σ H s->RelV x v->Vals xs us->r x xs H Q ->
  wpAny (model X.prog X.w) X.A (call (.builtin id) (v::us)) (EP X pins σ Q) X.xe s
theorem Vals.one:∀{x:V}{us:List Value},Vals [x] us->∃u,us=[u]/\RelV x u
 | _,_,.cons r .nil=>⟨_,rfl,r⟩
theorem Vals.two:∀{x y:V}{us:List Value},Vals [x,y] us->∃u v,us=[u,v]/\RelV x u/\RelV y v
 | _,_,_,.cons r (.cons q .nil)=>⟨_,_,rfl,r,q⟩
section
variable{X:Cx}{pins:List (Addr×Obj)}{σ : St}{H:Hp}{s:Shared}{l b:Addr}{xs ys zs:List V}
theorem Inv.lset{its its':List Value}{n:Nat}{f:Array Value->Array Value}{t':Nat}(I:Inv X pins σ H s)(hH:H l=some (.lst xs))
  (e:s.heap.get? l=some { cls:=.type "list",data:=.seq its.toArray n }) (hf:f its.toArray=its'.toArray) (hv:Vals ys its') (hz:ys.length<=sizeLine) :
  Inv X pins σ (upd H l (.lst ys)) { s with heap:=s.heap.update l (Obj.mapSeq f),toks:=t' }:=by
 have q:=PySem.IsL.update e f;rw[hf] at q;refine I.write (x:=l) (e:=l) (by rw[hH];exact trivial) (.inl rfl) (fun b' u hb hu=>(Heap.get?_update_other s.heap (Obj.mapSeq f) (Ne.symm hb)).trans hu) ⟨_,q⟩ ?_;exact⟨hz,its',_,hv,q⟩
theorem Inv.lnew{its:List Value}{t':Nat}(I:Inv X pins σ H s)(hv:Vals ys its)(hz:ys.length<=sizeLine) :
  Inv X pins σ (upd H s.heap.objs.size (.lst ys)) { s with heap:=s.heap.push { cls:=.type "list",data:=.seq its.toArray },toks:=t' } :=
 I.laid (fun _ _ q=>Heap.get?_push_of_some _ q) (Nat.le_refl _) ⟨hz,its,0,hv,Heap.get?_push_size _ rfl⟩
theorem Inv.fresh(I:Inv X pins σ H s):H s.heap.objs.size=none:=I.hok.fresh (Nat.le_refl _)
theorem Inv.lstM(I:Inv X pins σ H s)(hH:H l=some (.lst xs)):xs.length<=sizeLine/\∃(its:List Value)(n:Nat),Vals xs its/\xs.length=its.length/\s.heap.get? l=some { cls:=.type "list",data:=.seq its.toArray n }:=by
 obtain⟨z,its,n,r,e⟩:=I.hok l _ hH;exact⟨z,its,n,r,r.length,e⟩
theorem Zjv{n:Nat}(h:n<=sizeLine):Builtin.List.listTooLong n=false:=by
 unfold Builtin.List.listTooLong;exact decide_eq_false (by lia)
end
section
variable{X:Cx}
def ZkI:V->List V->Hp->VK->Prop:=fun x vs H Q=>∃l xs y,x=.ref l/\vs=[y]/\H l=some (.lst xs)/\xs.length<sizeLine/\Q .non (upd H l (.lst (xs ++ [y])))
theorem Za3:MtM X "list.append" ZkI:=by
 intro pins s σ H x vs v us Q I rx rv h;obtain⟨l,xs,y,rfl,rfl,hH,hz,q⟩:=h;cases rx;obtain⟨u,rfl,ru⟩:=rv.one;obtain⟨z,its,n,r,hl,e⟩:=I.lstM hH;refine call_meets F.slot_list_append ⟨_,e,rfl⟩ F.entry_list_append (F.args_list_append_2 _ _) (PySem.list_append l its.toArray n u (by rw[List.size_toArray];lia)) ⟨e,?_⟩;refine⟨.non,_,I.lset (its':=its ++ [u]) hH e (by simp) (r.append (.cons ru .nil)) ?_,rfl,q⟩;rw[List.length_append,List.length_singleton];lia
def Zks:V->List V->Hp->VK->Prop:=fun x vs H Q=>∃l b xs zs,x=.ref l/\vs=[.ref b]/\H l=some (.lst xs)/\H b=some (.lst zs)/\xs.length+zs.length<=sizeLine/\Q .non (upd H l (.lst (xs++zs)))
theorem Ze5:MtM X "list.extend" Zks:=by
 intro pins s σ H x vs v us Q I rx rv h;obtain⟨l,b,xs,zs,rfl,rfl,hH,hB,hz,q⟩:=h;cases rx;obtain⟨u,rfl,ru⟩:=rv.one;cases ru;obtain⟨z,its,n,r,hl,e⟩:=I.lstM hH;obtain⟨z2,its2,n2,r2,hl2,e2⟩:=I.lstM hB;have hsz:its.toArray.size+its2.toArray.size<=sizeLine:=by rw[List.size_toArray,List.size_toArray];lia
 have hlong : ¬ (!its.toArray.isEmpty&&Builtin.List.listTooLong (its.toArray.size+its2.toArray.size))=true:=by
  rw[Zjv hsz,Bool.and_false];exact Bool.false_ne_true
 refine call_meets F.slot_list_extend ⟨_,e,rfl⟩ F.entry_list_extend (F.args_list_extend_2 _ _)
  (AutoSeq1.list_extend_list_list_0 l its.toArray n b its2.toArray n2 hlong (by rw[List.size_toArray];lia) (by lia)) ⟨e,e2,?_⟩
 refine⟨.non,_,I.lset (its':=its++its2) hH e (by simp) (r.append r2) ?_,rfl,q⟩;rw[List.length_append];lia
def ZmG:R2:=fun x y H Q=>∃l b xs zs,x=.ref l/\y=.ref b/\H l=some (.lst xs)/\H b=some (.lst zs)/\xs.length+zs.length<=sizeLine/\∀p,H p=none->Q (.ref p) (upd H p (.lst (xs++zs)))
theorem Ziu:OpR X (binaryOp .Add) ZmG:=by
 intro pins s σ H x y v u Q I rx ry h;obtain⟨l,b,xs,zs,rfl,rfl,hH,hB,hz,q⟩:=h;cases rx;cases ry;obtain⟨z,its,n,r,hl,e⟩:=I.lstM hH;obtain⟨z2,its2,n2,r2,hl2,e2⟩:=I.lstM hB;refine PySem.P.add_list e e2 ?_ (by rw[List.size_toArray,List.size_toArray];lia);have ea:its.toArray++its2.toArray=(its++its2).toArray:=by simp
 rw[ea];exact⟨.ref _,_,I.lnew (t':=s.toks) (r.append r2) (by rw[List.length_append];lia),rfl,q _ I.fresh⟩
end
end L2
namespace Att
open PySem PySem.W PySem.Calls PyProof.Rows
theorem ZdF{P:Params}{h:Heap}:∀(ns:List Int)(vs:List Value),WellAll P h vs (ns.map WData.int)->IntsAre vs ns:=by
 intro ns
 induction ns with
 | nil =>
  intro vs w;rw[List.map_nil] at w;cases w;exact .nil
 | cons n ns ih =>
  intro vs w;rw[List.map_cons] at w;cases w with
  | cons a b =>
   cases a;exact .cons _ _ (ih _ b)
theorem Zh4{l:OpenLaw}{n:Nat}(hn:l.most=some n){P:Params}{h:Heap}{args:List WData}{vals:List Value}
  (hpre:l.row.toRowW.claim.pre args=true) (hwl:WellAll P h vals args) :
  ∃a vs ns,vals=[Value.ref a]/\args=[WData.list (ns.map WData.int)]/\h.get? a=some { cls:=.type "list",data:=.seq vs.toArray }/\IntsAre vs ns/\ns.length<=n:=by
 have hsh:WShape.hasAll [] args [.list .int]=true:=(pre_splitW hpre).1;have hc:l.pre.holds [] { args:=args }=true:=(pre_splitW hpre).2;obtain⟨d,r,rfl,h1,h2⟩:=hasAllW_cons hsh;obtain rfl:=hasAllW_nil h2;obtain⟨xs,rfl,h3⟩:=hasW_list h1;obtain⟨ns,rfl⟩:=items_int h3;have hlen:ns.length<=n:=by
  unfold OpenLaw.pre at hc;have h4:(WTm.not (.lt (.lit (.int (n:Int))) (.len (.arg 0)))).holds [] { args:=[.list (ns.map .int)] }=true:=by
   have h4:=(holds_andW hc).1;rw[hn] at h4;exact h4
  have h5:=condW_of h4 (w_not (w_lt w_lit (w_len_list (w_arg rfl))));rw[List.length_map] at h5;refine Nat.le_of_not_lt fun q=>?_;have q':(n:Int)<((ns.length:Nat):Int):=by lia
  first
   | (rw[decide_eq_true q'] at h5;exact absurd h5 (by decide))
   | (simp at h5;lia)
 cases hwl with
 | cons w1 w2 =>
  cases w2;cases w1 with
  | list ho hall=>exact⟨_,_,ns,rfl,rfl,ho,ZdF ns _ hall,hlen⟩
theorem ZhB(l:OpenLaw)(args:List WData):l.row.toRowW.claim.post args (.bool true) args=true :=
 postW_of (r:=l.row.toRowW) (X:=(true == true))
  (show WShape.has [] (.bool true) .bool=true by first|rfl|decide|simp[WShape.has,WShape.arms,WShape.armsAll])
  (show(WTm.eq .res (.lit (.bool true))).value [] { args:=args,res:=some (.bool true),after:=args }=some (.bool (true == true)) from w_eq_bool (w_res rfl) w_lit) rfl
theorem Zf9{l:OpenLaw}{n:Nat}{q:Program}{loose:List Str}{XP:(Str->Option Value)->Heap->Prop}{YP:World->Heap->Prop}{d:DefRec}
  (hn:l.most=some n) (hdf:d.params.defaults=[])
  (call:∀(w:World)(s₀ s₁ : Shared)(mg mb:Str->Option Value)(fa:Addr)(o:Obj)(pm cd doc:Value)(a:Addr)(vs:List Value)(ns:List Int),
   Ground q loose [] XP w s₀ mg mb s₁.heap->YP w s₁.heap ->
   s₁.heap.get? fa=some o->o.data=.func (docDef d.name d.params d.body d.scope pm cd doc)->s₁.heap.CodeRec cd d.name->mg d.name=some (.ref fa) ->
   s₁.heap.get? a=some { cls:=.type "list",data:=.seq vs.toArray }->IntsAre vs ns->ns.length<=n->s₁.gens=#[] ->
   codeAny (model l.prog w) callerA (.call (.ref fa) ⟨[.ref a],[]⟩) (fun r s'=>r=.ok (.ret (.bool true))/\OldK s₁.heap s'.heap/\s'.os=s₁.os/\AllBare s'.gens) s₁) :
  WalkO q loose XP YP l.row.toRowW d [] (fun f vs=>PySem.call f vs):=by
 intro w s₀ s₁ mg mb G Y fa o pm cd doc dV kV ho hd hcd hD hmg hg args vals as hpre hlay hrd hwl hlo;obtain rfl:dV=.none:=Dflts.none hD hdf;obtain rfl:kV=.none:=Dflts.noKw hD;obtain⟨a,vs,ns,rfl,rfl,hobj,hints,hlen⟩:=Zh4 hn hpre hwl;refine enter_call (codeAny_mono (call w s₀ s₁ mg mb fa o pm cd doc a vs ns G Y ho (fd_plain hd) hcd hmg hobj hints hlen hg) fun r s' hq=>?_);obtain⟨rfl,h2,h3,h4⟩:=hq;exact⟨.inl ⟨.bool true,.bool true,[],rfl,fun _=>rfl,.bool true,ZhB l _,fun _=>⟨List.Pairwise.nil,fun _ hm=>(nomatch hm)⟩⟩,h2,h3,h4⟩
end Att
namespace L2
open PySem PySem.Spec PyProof.Rows
theorem Zfq:∀{vs:List Value}{ns:List Int},IntsAre vs ns->Vals (ns.map V.int) vs
 | _,_,.nil=>.nil
 | _,_,.cons n t h=>.cons ⟨t,rfl⟩ (Zfq h)
def Only(H:Hp):Prop := ∀b,H b=none\/∃o xs,H b=some (.frz o (.lst xs))
theorem Zjn{P:Program}{w:World}{K:PySem.W.Frag}{mg mb:Str->Option Value}{CX:CXT}{k:Nat}{fa a:Addr}{fd:FuncData}{x:Str}{sp:Sp}{s₁ : Shared}{vs:List Value}{ns:List Int}
  (KX:K.In s₁.heap) (hns:s₁.heap.Ns mainGlobals mg) (hb:s₁.heap.Ns builtinsNs mb) (hbb:∀x:Str,x ≠ "__name__" -> mb x=bootBuiltins x) (hlim:s₁.heap.NoLimit) (hg:s₁.gens=#[])
  (ha:s₁.heap.get? a=some { cls:=.type "list",data:=.seq vs.toArray }) (hi:IntsAre vs ns) (hl:ns.length<=sizeLine) (hr:Room k callerA)
  (F:∀base:Heap,K.In base->base.Ns mainGlobals mg->FnOk P w K mg base CX k fa fd [x] sp) (hbind:∀(s:Shared)(u:Value),BindsTo s fd ⟨[u],[]⟩ [(x,u)])
  (hsp:∀H:Hp,Only H->SqL K H a (ns.map V.int)->sp [.ref a] H (fun v _=>v=.bl true) fun _ _ _=>False)
  (hCX:∀H e s',CX [] H s₁ (fun _ _ _=>False) e s'->False) :
  codeAny (model P w) callerA (.call (.ref fa) ⟨[.ref a],[]⟩) (fun r s'=>r=.ok (.ret (.bool true))/\OldK s₁.heap s'.heap/\s'.os=s₁.os/\AllBare s'.gens) s₁ := by
 have rv:=Zfq hi;have lenV:=hi.length;have core:∀H:Hp,Only H->SqL K H a (ns.map V.int)->HOk P w H s₁.heap->(∀b,H b≠none->b=a)->(H a≠none->K.lookup a=none) ->
   codeAny (model P w) callerA (.call (.ref fa) ⟨[.ref a],[]⟩) (fun r s'=>r=.ok (.ret (.bool true))/\OldK s₁.heap s'.heap/\s'.os=s₁.os/\AllBare s'.gens) s₁ := by
  intro H hO hS hok hA hK;have base_of:∀{b:Addr}{o:Obj},s₁.heap.get? b=some o->H b=none->(Zjc s₁.heap H).get? b=some o:=fun e n=>ZjG e n;have noA:∀{b:Addr}{o:Obj}{es:Array DictEntry}{ep:Nat},s₁.heap.get? b=some o->o.data=.dict es ep->H b=none:=fun{b o es ep} e d=>by
   cases q:H b with
   | none=>rfl
   | some u =>
    have e':b=a:=hA b (by rw[q];simp);subst e';rw[ha] at e;cases e;have d':Data.seq vs.toArray _=Data.dict es ep:=d;cases d'
  have nsK:∀{b:Addr}{m:Str->Option Value},s₁.heap.Ns b m->(Zjc s₁.heap H).Ns b m:=fun{b m} ⟨o,es,ep,e,d,r⟩=>⟨o,es,ep,base_of e (noA e d),d,r⟩;have hKb:K.In (Zjc s₁.heap H):=fun b o e=>base_of (KX b o e) (by
   cases q:H b with
   | none=>rfl
   | some u =>
    have e':b=a:=hA b (by rw[q];simp);subst e';rw[hK (by rw[q];simp)] at e;cases e)
  have hM:Mod K mg (Zjc s₁.heap H):=⟨hKb,nsK hns,⟨mb,nsK hb,hbb⟩,let ⟨mc,h1,h2⟩:=hlim;⟨mc,nsK h1,h2⟩⟩;have e0:Env0 P w K mg (Zjc s₁.heap H) callerA [] s₁ H:=⟨rfl,hM,fun b o e=>ZkP e,Nat.le_of_eq (ZiX _ _),trivial,fun b hb=>absurd (show b∈([]:List Addr) from hb) (by simp),hok,.of_eq hg⟩;refine codeAny_mono ((F _ hKb (nsK hns)).run callerA [] s₁ H ⟨[.ref a],[]⟩ [.ref a] [.ref a] _ _ hr e0 (hbind s₁ (.ref a)) (.cons rfl .nil) (hsp H hO hS)) fun r s' h=>?_;cases r with
  | error e=>exact(hCX H e s' h).elim
  | ok fl =>
   cases fl with
   | next=>exact False.elim h
   | brk=>exact False.elim h
   | cont=>exact False.elim h
   | ret u =>
    obtain⟨v,H',os,bare,un,hok',r',q⟩:=h;have q':v=.bl true:=q;subst q';obtain rfl:u=Value.bool true:=r';refine⟨rfl,OldK.of_keep fun b o e=>?_,os,bare⟩;cases q:H b with
    | none=>exact un.keep b o e q (by intro z;exact absurd (show b∈([]:List Addr) from z) (by simp)) (by simp)
    | some u =>
     rcases hO b with z|⟨ob,xs,z⟩
     ·rw[q] at z;cases z
     ·have z2:=un.frzs b ob _ z;obtain⟨e1,_⟩:=hok b _ z;obtain⟨e2,_⟩:=hok' b _ z2;rw[e] at e1;cases e1;exact e2
 cases hk:K.lookup a with
 | some o =>
  have e:=KX a o hk;rw[ha] at e;cases e;refine core (fun _=>none) (fun _=>.inl rfl) (.inr ⟨_,vs.toArray,_,hk,rfl,rfl,rfl,by rw[List.size_toArray,lenV];exact hl,by simpa using rv⟩) (fun b u z=>by have z':(none:Option HO)=some u:=z;cases z') (fun b z=>absurd rfl z) fun z=>absurd rfl z
 | none =>
  refine core (fun b=>if b=a then some (.frz { cls:=.type "list",data:=.seq vs.toArray } (.lst (ns.map V.int))) else none) (fun b=>?_) (.inl (.inr ⟨{ cls:=.type "list",data:=.seq vs.toArray },if_pos rfl⟩)) (fun b u z=>?_) (fun b z=>?_) fun _=>hk
  ·by_cases hb:b=a
   ·exact .inr ⟨_,_,if_pos hb⟩
   ·exact .inl (if_neg hb)
  ·by_cases hb:b=a
   ·have z':=(if_pos hb).symm.trans z;cases z';subst hb;exact⟨ha,by rw[List.length_map];exact hl,vs,_,rv,ha⟩
   ·have z':=(if_neg hb).symm.trans z;cases z'
  ·by_cases hb:b=a
   ·exact hb
   ·exact absurd (if_neg hb) z
theorem Ziw{l:PySem.W.OpenLaw}{n k:Nat}{q:Program}{loose:List Str}{XP:(Str->Option Value)->Heap->Prop}{YP:World->Heap->Prop}{d:DefRec}{K:Params->PySem.W.Frag}{CX:World->CXT}{sp:World->Sp}{x:Str}
  (hn:l.most=some n) (hn2:n<=sizeLine) (hdf:d.params.defaults=[]) (hr:Room k callerA)
  (hY:∀(w:World)(h:Heap),YP w h->(K w.params).In h)
  (F:∀(w:World)(mg:Str->Option Value)(fa:Addr)(h:Heap),(K w.params).In h->h.Ns mainGlobals mg->mg d.name=some (.ref fa) ->
   ∃fd:FuncData,(∀(s:Shared)(u:Value),BindsTo s fd ⟨[u],[]⟩ [(x,u)]) /\
    ∀base:Heap,(K w.params).In base->base.Ns mainGlobals mg->FnOk l.prog w (K w.params) mg base (CX w) k fa fd [x] (sp w))
  (hsp:∀(w:World)(H:Hp)(a:Addr)(ns:List Int),ns.length<=n->Only H->SqL (K w.params) H a (ns.map V.int)->sp w [.ref a] H (fun v _=>v=.bl true) fun _ _ _=>False)
  (hCX:∀(w:World)(H:Hp)(s:Shared)(e:Value)(s':Shared),CX w [] H s (fun _ _ _=>False) e s'->False) :
  PySem.W.WalkO q loose XP YP l.row.toRowW d [] (fun f vs=>PySem.call f vs):=by
 refine Att.Zf9 hn hdf fun w s₀ s₁ mg mb fa o pm cd doc a vs ns G Y ho hd hcd hmg hobj hints hlen hg=>?_;have KX:=hY w _ Y;obtain⟨fd,hb,hF⟩:=F w mg fa _ KX G.T.g hmg;exact Zjn KX G.T.g G.T.b G.T.builtins G.T.nolimit hg hobj hints (Nat.le_trans hlen hn2) hr hF hb (fun H hO hS=>hsp w H a ns hlen hO hS) fun H e s'=>hCX w H s₁ e s'
end L2
/- THE LAST THEOREM (shape;LID,My.* are yours):
   My.Adr: a structure of the addresses that your layer names (classes,functions);My.Txt K t: a structure (Prop) of the equations over K;
   My.txt_mk:{K} {implicit addresses ..} (e1:nsIn K mainGlobals "law" = some (some (.ref f))) (e2:K.lookup f=some ⟨oc,od,.func (fnOf "law" "law" params body scope dV kV doc pm an cdv ct),sl⟩) (e3:codeIn K cdv "law" = true) .. : ∃t,My.Txt K t
set_option maxRecDepth 100000 in
set_option maxHeartbeats 0 in
theorem PySem.Challenge.cw_LID_holds : PySem.Challenge.rw_LID.Holds := by
 w_on;o_law;k_head;(case hw=>w_witness2)
 k_fill
 refine L2.Ziw (l:=PySem.Challenge.rw_LID) (n:=63) (k:=40) (x := "script") (CX:=fun w=>..) (sp:=fun _=>My.sp_law) rfl (by decide) rfl ⟨rfl,by decide,by decide⟩ (fun w h Y=>PySem.W.kIn_of Y) ?F ?S ?C
 case F =>
  intro w mg fa h KX G hmg;have T:∃t,My.Txt (L2.KOf KX) t:=by
   dsimp only[L2.KOf]                          -- K must stand as «<heap const> w.params» for k_is
   refine' My.txt_mk ?e1 ?e2 ?e3 ..
   (case e1=>PySem.W.k_is)                    -- in the order: a name->its address->its object->its parts
   (case e2=>PySem.W.k_is)
   ..
  obtain⟨t,T⟩:=T;have e0:=hmg.symm.trans (PySem.W.mg_of KX G T.law);cases e0                                       -- fa is the law's own address
  exact⟨_,fun s u=>.of_eq rfl,fun base kb nb=>My.law_fn T kb nb⟩     -- if «.of_eq rfl» comes too early: refine' ⟨_,?b,fun base kb nb=>My.law_fn T kb nb⟩;exact fun s u=>.of_eq rfl
 case S=>exact fun w H a ns hl hO hS=>..
 case C=>exact ..
(the tactic k_is has no namespace: write k_is) -/
namespace L2
open PySem PySem.Spec PyProof.Rows
def inClass(s:Stmt)(j:Nat):Stmt:=match s with
 | .ClassDef _ _ _ body _ _ _ _ _ _ _=>body.getD j (.Pass ⟨0,0,0,0⟩)
 | _=>.Pass ⟨0,0,0,0⟩
def Zw(s:Stmt):Arguments:=match s with
 | .FunctionDef _ a _ _ _ _ _ _ _ _=>a
 | _=>{ posonlyargs:=[],args:=[],vararg:=none,kwonlyargs:=[],kw_defaults:=[],kwarg:=none,defaults:=[] }
def Ze(s:Stmt):List Stmt:=match s with
 | .FunctionDef _ _ b _ _ _ _ _ _ _=>b
 | _=>[]
def Zg(s:Stmt):Scope:=match s with
 | .FunctionDef _ _ _ _ _ _ sc _ _ _=>sc
 | _=>{ kind:=.function,names:=[],isGenerator:=false,isCoroutine:=false }
abbrev CX0:CXT:=fun _ _ _ _ _ _=>False
abbrev E0:XK:=fun _ _ _=>False
theorem ZjL{X:Cx}:ZdG CX0 X E0:=fun _ _ _ _ _ _ _ h=>h.elim
structure Fun(K:PySem.W.Frag)(x qual:Str)(st:Stmt)(f:Addr)(fd:FuncData):Prop where
 ex:∃(oc:Value)(od:Option Addr)(kV doc pm:Value)(an:Option Addr)(cdv ct:Value)(osl:Array (Option Value)),
  fd=PySem.W.fnOf x qual (Zw st) (Ze st) (Zg st) .none kV doc pm an cdv ct/\K.lookup f=some ⟨oc,od,.func fd,osl⟩/\PySem.W.codeIn K cdv qual=true
 kp:PySem.W.keepIn K (.ref f)=true
section
variable{P:Program}{w:World}{K:PySem.W.Frag}{mg:Str->Option Value}{base:Heap}
theorem Fun.ok{x qual:Str}{st:Stmt}{f:Addr}{fd:FuncData}{N ps:List Str}{k:Nat}{sp:Sp}(F:Fun K x qual st f fd)(S:FnScope N ps (Zg st))(len:∀vs H Q E,sp vs H Q E->vs.length=ps.length)
  (hbody:∀(cdv:Value)(A:Around)(outer:List Env)(s:Shared)(H:Hp)(vs:List V)(Q:VK)(E:XK),Room k (A.deeper (envOfC qual (Zg st) s.heap.objs.size f cdv))->sp vs H Q E ->
   ∃t,PSs (ZjE CX0 P w K mg base N qual (Zg st) f cdv A outer s H E).nox (Ze st) t/\t { nx:=fun _ H'=>Q .non H',rt:=Q } (start N vs) H):FnOk P w K mg base CX0 (k+1) f fd ps sp:=by
 obtain⟨oc,od,kV,doc,pm,an,cdv,ct,osl,rfl,lk,hcd⟩:=F.ex;refine Zlm lk hcd S len fun A outer s H vs Q E hr hsp=>?_;obtain⟨t,h,q⟩:=hbody cdv A outer s H vs Q E hr hsp;exact⟨t,h.nox,q⟩
theorem Fun.binds{x qual:Str}{st:Stmt}{f:Addr}{fd:FuncData}{ps:List Str}(F:Fun K x qual st f fd)
  (h:∀(kV doc pm:Value)(an:Option Addr)(cdv ct:Value)(us:List Value),us.length=ps.length->bindArgs (PySem.W.fnOf x qual (Zw st) (Ze st) (Zg st) .none kV doc pm an cdv ct) ⟨us,[]⟩=pure (ps.zip us)):Binds K fd ps []:=by
 obtain⟨oc,od,kV,doc,pm,an,cdv,ct,osl,rfl,lk,hcd⟩:=F.ex;exact .all (h kV doc pm an cdv ct)
theorem ZW{x qual:Str}{st:Stmt}{f:Addr}{oc:Value}{od an:Option Addr}{osl:Array (Option Value)}{kV doc pm cdv ct:Value}(l:K.lookup f=some ⟨oc,od,.func (PySem.W.fnOf x qual (Zw st) (Ze st) (Zg st) .none kV doc pm an cdv ct),osl⟩)
  (c:PySem.W.codeIn K cdv qual=true) (k:PySem.W.keepIn K (.ref f)=true):Fun K x qual st f (PySem.W.fnOf x qual (Zw st) (Ze st) (Zg st) .none kV doc pm an cdv ct):=⟨⟨oc,od,kV,doc,pm,an,cdv,ct,osl,rfl,l,c⟩,k⟩
end
section
variable{X:Cx}
theorem pv(i:Nat){x:Str}{pos:Pos}(hN:X.N[i]?= some x:=by rfl)(hv:Vis X.env.scope x:=by first|exact Or.inl rfl|exact Or.inr (Or.inl rfl)|exact Or.inr (Or.inr rfl))(hd:(x == ("__debug__" : Str))=false:=by decide)
  (hcd:(x == ("__classdict__" : Str))=false:=by decide):PE X (.Name x pos) (Zhg i):=ZlI hN hv hd hcd
end
theorem ZbD{A B:Prop}(h:B):if false=true then A else B:=by
 rw[if_neg Bool.false_ne_true];exact h
theorem Zcz{A B:Prop}(h:A):if true=true then A else B:=by
 rw[if_pos rfl];exact h
theorem Zaz{c A B:Prop}[Decidable c](h1:c->A)(h2 : ¬ c->B):if c then A else B:=by
 by_cases h:c
 ·rw[if_pos h];exact h1 h
 ·rw[if_neg h];exact h2 h
def Zk(H H':Hp):Prop := ∀b o,H b=some o->H' b=some o
theorem Zk.refl(H:Hp):Zk H H:=fun _ _ h=>h
theorem Zk.trans{H H1 H2:Hp}(a:Zk H H1)(b:Zk H1 H2):Zk H H2:=fun c o h=>b c o (a c o h)
theorem Zk.free{H H':Hp}(e:Zk H H'){l:Addr}(h:H' l=Option.none):H l=Option.none:=by
 cases q:H l with
 | none=>rfl
 | some o =>
  rw[e l o q] at h;cases h
theorem Zk.seq{K:PySem.W.Frag}{H H':Hp}{a:Addr}{xs:List V}(e:Zk H H')(h:SqL K H a xs):SqL K H' a xs:=by
 rcases h with(h|⟨o,h⟩)|h
 ·exact .inl (.inl (e _ _ h))
 ·exact .inl (.inr ⟨o,e _ _ h⟩)
 ·exact .inr h
theorem Zc6:bootBuiltins "list" = some (.type "list"):=by decide +kernel
theorem ZcX:bootBuiltins "tuple" = some (.type "tuple"):=by decide +kernel
theorem ZgG:bootBuiltins "str" = some (.type "str"):=by decide +kernel
theorem Zgu:bootBuiltins "int" = some (.type "int"):=by decide +kernel
theorem ZhE:bootBuiltins "dict" = some (.type "dict"):=by decide +kernel
theorem Zk4:bootBuiltins "max" = some (.builtin "max"):=by decide +kernel
theorem ZJ:bootBuiltins "isinstance" = some (.builtin "isinstance"):=by decide +kernel
section
variable{X:Cx}
theorem ZeS{x:Str}{n:String}{pos:Pos}(hg:Gl X x)(hm:X.mg x=none)(hv:bootBuiltins x=some (.type n))(hn:x ≠ "__name__" := by decide) (hd:(x == ("__debug__" : Str))=false:=by decide):PE X (.Name x pos) (tC (.ty n)) :=
 Zkt (v:=.ty n) hg hm hv rfl hn hd
theorem ZcI:Zbq X (.builtin "isinstance") (fun xs H Q=>∃x n t b,xs=[x,.ty n]/\TyOf X.K H x t/\PySem.W.kitOne X.K t (.type n)=some b/\Q (.bl b) H):=by
 intro pins s σ H xs us Q I r h;obtain⟨x,n,t,b,rfl,ty,e,q⟩:=h;obtain⟨u,v,rfl,rx,ry⟩:=Vals.two r;obtain rfl:v=Value.type n:=ry;exact Zfv I rx ty e fun tk=>⟨.bl b,H,I.tok tk,rfl,q⟩
end
structure Has(P:Program)(w:World)(K:PySem.W.Frag)(mg:Str->Option Value)(base:Heap)(x:Str)(ps:List Str)(k:Nat)(sp:Sp):Prop where
 ex:∃(f:Addr)(fd:FuncData),FnOk P w K mg base CX0 k f fd ps sp/\Binds K fd ps []/\PySem.W.keepIn K (.ref f)=true/\mg x=some (.ref f)
section
variable{X:Cx}{x:Str}{ps:List Str}{j k:Nat}{sp:Sp}{e:Expr}{es:List Expr}{t:TA}{p pos:Pos}
theorem FnOk.room{P:Program}{w:World}{K:PySem.W.Frag}{mg:Str->Option Value}{base:Heap}{CX:CXT}{f:Addr}{fd:FuncData}(F:FnOk P w K mg base CX j f fd ps sp)(h:j<=k):FnOk P w K mg base CX k f fd ps sp :=
 ⟨F.len,fun A outer s H args us vs Q E hr=>F.run A outer s H args us vs Q E (hr.mono h)⟩
theorem ZQ(G:Has X.prog X.w X.K X.mg X.base x ps j sp)(hr:Room k X.A)(hg:Gl X x)(ha:PA X (e::es) t)(hk:j<=k:=by decide)(hdb:(x == ("__debug__" : Str))=false:=by decide)
  (he:starEach (e::es) X.env=(false,eval e X.env)::starEach es X.env:=by rfl) (hpl:(backTo pos (starEach es X.env)).any (·.1)=false:=by rfl) :
  PE X (.Call (.Name x p) (e::es) [] pos) (ZkT sp [] E0 t):=by
 obtain⟨f,fd,F,b,kp,m⟩:=G.ex;exact Zkr (F.room hk) hr hg m kp b .nil ZjL ha hdb he hpl
end
mutual
inductive Dp(K:PySem.W.Frag)(H:Hp):V->PyData->Prop
 | non:Dp K H .non .none
 | bl (b:Bool):Dp K H (.bl b) (.bool b)
 | int (i:Int):Dp K H (.int i) (.int i)
 | str (x:Str):Dp K H (.str x) (.str x)
 | lst {a:Addr} {xs:List V} {ds:List PyData}:SqL K H a xs->DpAll K H xs ds->Dp K H (.ref a) (.list ds)
 | tup {a:Addr} {xs:List V} {ds:List PyData}:SqT K H a xs->DpAll K H xs ds->Dp K H (.ref a) (.tuple ds)
inductive DpAll(K:PySem.W.Frag)(H:Hp):List V->List PyData->Prop
 | nil:DpAll K H [] []
 | cons {v:V} {vs:List V} {d:PyData} {ds:List PyData}:Dp K H v d->DpAll K H vs ds->DpAll K H (v::vs) (d::ds)
end
section
variable{X:Cx}{pins:List (Addr×Obj)}{σ : St}{H:Hp}{s:Shared}
mutual
theorem Dp.reads(I:Inv X pins σ H s):∀{v:V}{d:PyData}{u:Value},Dp X.K H v d->RelV v u->∃as,Reads s.heap u d as
 | _,_,u,.non,r=>by
  obtain rfl:u=Value.none:=r;exact⟨_,.none⟩
 | _,_,u,.bl b,r=>by
  obtain rfl:u=Value.bool b:=r;exact⟨_,.bool b⟩
 | _,_,_,.int i,⟨t,e⟩=>by
  subst e;exact⟨_,.int i t⟩
 | _,_,_,.str x,⟨t,e⟩=>by
  subst e;exact⟨_,.str x t⟩
 | _,_,u,@Dp.lst _ _ a xs ds hq hall,r=>by
  obtain rfl:u=Value.ref a:=r;obtain⟨its,rv,⟨o,n,e,hc,_,hd⟩,_⟩:=I.list hq;obtain⟨as,ha⟩:=DpAll.reads I hall rv;exact⟨_,.list e hc hd (by simpa using ha)⟩
 | _,_,u,@Dp.tup _ _ a xs ds hq hall,r=>by
  obtain rfl:u=Value.ref a:=r;obtain⟨its,rv,⟨o,e,hc,n,hd⟩,_⟩:=I.tuple hq;obtain⟨as,ha⟩:=DpAll.reads I hall rv;exact⟨_,.tuple e hc hd (by simpa using ha)⟩
theorem DpAll.reads(I:Inv X pins σ H s):∀{vs:List V}{ds:List PyData}{us:List Value},DpAll X.K H vs ds->Vals vs us->∃as,ReadsAll s.heap us ds as
 | _,_,_,.nil,.nil=>⟨_,.nil⟩
 | _,_,_,.cons h t,.cons r rs=>by
  obtain⟨as,ha⟩:=Dp.reads I h r;obtain⟨bs,hb⟩:=DpAll.reads I t rs;exact⟨_,.cons ha hb⟩
end
end
section
variable{X:Cx}
theorem Zd2{A:Around}{k:Nat}(hr:Room k A):A.units+200<cLine:=by
 have:=hr.un;lia
end
def TK(H H':Hp):Prop := ∀b xs,H b=some (.tup xs)->H' b=some (.tup xs)
theorem TK.trans{H H1 H2:Hp}(a:TK H H1)(b:TK H1 H2):TK H H2:=fun c xs h=>b c xs (a c xs h)
theorem TK.lst{H:Hp}{p:Addr}{xs:List V}{o:HO}(h:H p=some (.lst xs)):TK H (upd H p o):=fun b ys q=>by
 by_cases e:b=p
 ·subst e;rw[h] at q;cases q
 ·rw[Zi e];exact q
theorem Zk.tk{H H':Hp}(h:Zk H H'):TK H H':=fun b xs q=>h b _ q
theorem Zk.new{H:Hp}{p:Addr}{o:HO}(h:H p=none):Zk H (upd H p o):=fun b u q=>by
 rw[Zi (Zm q h)];exact q
theorem Zk.upd_new{H H':Hp}{p:Addr}{o:HO}(h:Zk H H')(hp:H p=none):Zk H (upd H' p o):=fun b u q=>by
 rw[Zi (Zm q hp)];exact h b u q
theorem Za4{H:Hp}{p b:Addr}{o:HO}(h:upd H p o b=none):b≠p/\H b=none:=by
 by_cases e:b=p
 ·subst e;rw[Zb] at h;cases h
 ·rw[Zi e] at h;exact⟨e,h⟩
theorem Paired.app{α β : Type}{F : α -> β -> Prop}:∀{l₁ k₁ : List α}{l₂ k₂ : List β},Paired F l₁ l₂ -> Paired F k₁ k₂ -> Paired F (l₁ ++ k₁) (l₂ ++ k₂)
 | _,_,_,_,.nil,s=>s
 | _,_,_,_,.cons r t,s=>.cons r (Paired.app t s)
end L2
namespace Fg
open PySem L2 FgM
def Zmd(t:Str):Prop:=t.cps.toList ≠ []/\∀c∈t.cps.toList,97<=c/\c<=122
theorem ZhR(x y:Str):(x++y).cps.toList=x.cps.toList++y.cps.toList:=by
 show(x.cps++y.cps).toList=_;simp
theorem ZkJ{ns:List Int}{k:Int}(h0:0<=k)(h:k<(ns.length:Int)):∃v:Int,atI (ns.map V.int) k=some (.int v):=by
 obtain⟨n,rfl⟩:=Int.eq_ofNat_of_zero_le h0;have hn:n<ns.length:=by lia
 exact⟨ns[n],Zbc (by rw[List.getElem?_map,List.getElem?_eq_getElem hn];rfl)⟩
def Zjl(K:PySem.W.Frag):Sp:=fun vs H Q _=>∃(a:Addr)(ns:List Int),vs=[.ref a]/\SqL K H a (ns.map V.int)/\ns.length<=63/\∀H',Q (.bl true) H'
theorem Zx{n:Nat}(h:n<=100000):n<=sizeLine:=Nat.le_trans h (by decide)
theorem ZR{n:Nat}(h:n<=100000):n<sizeLine:=Nat.lt_of_le_of_lt h (by decide)
theorem Zy(x y:Str):(x++y).length=x.length+y.length:=by
 show(x.cps++y.cps).size=_;rw[Array.size_append];rfl
theorem ZgQ(xs:List V)(n:Nat):ZiA xs (some (n:Int)) none=xs.drop n:=by
 unfold ZiA;rw[HT.ZiT,HT.ZgO];rw[List.take_of_length_le (by rw[List.length_drop];exact Nat.le_refl _)];by_cases h:n<=xs.length
 ·rw[Nat.min_eq_left h]
 ·rw[Nat.min_eq_right (by lia),List.drop_length,List.drop_eq_nil_of_le (by lia)]
theorem Zjk(xs:List V)(n:Nat):ZiA xs none (some (n:Int))=xs.take n:=by
 unfold ZiA;rw[HT.ZiT,HT.ZgO,List.drop_zero,Nat.sub_zero];by_cases h:n<=xs.length
 ·rw[Nat.min_eq_left h]
 ·rw[Nat.min_eq_right (by lia),List.take_length,List.take_of_length_le (by lia)]
end Fg
namespace L2
open PySem PySem.Spec PyProof.Rows
theorem Zeo:∀{ys:List Str}{us:List Value},Vals (ys.map V.str) us->StrsAre us ys
 | [],_,.nil=>.nil
 | y::ys,_,.cons r t=>by
  obtain⟨tk,e⟩:=r;subst e;exact .cons y tk (Zeo t)
section
variable{X:Cx}
def rJoin(K:PySem.W.Frag):V->List V->Hp->VK->Prop:=fun x vs H Q=>∃z a ys,x=.str z/\vs=[.ref a]/\SqL K H a (ys.map V.str)/\(ys.map (·.length)).sum+ys.length*z.length<=16777216/\Q (.str (Txt.join z ys)) H
theorem ZdA:MtM X "str.join" (rJoin X.K):=by
 intro pins s σ H x vs v us Q I rx rv h;obtain⟨z,a,ys,rfl,rfl,hS,hz,q⟩:=h;obtain⟨t,rfl⟩:=rx;obtain⟨u,rfl,ru⟩:=rv.one;cases ru;obtain⟨its,r,pl,_⟩:=I.list hS;exact join_list pl.isList (by simpa using Zeo r) hz fun t' k=>⟨.str _,H,I.tok _,⟨_,rfl⟩,q⟩
end
end L2
namespace Fg
open PySem L2 FgM
def cs(x:Str):List Nat:=x.cps.toList
theorem ZhO{x y:Str}(h:cs x=cs y):x=y:=by
 cases x with
 | mk a =>
  cases y with
  | mk b=>exact congrArg Str.mk (Array.toList_inj.mp h)
theorem ZaI(x y:Str):cs (x++y)=cs x++cs y:=ZhR x y
def jn(sep:Str):List Str->List Nat
 | []=>[]
 | [x]=>cs x
 | x::y::r=>cs x++(cs sep++jn sep (y::r))
theorem Zeh(sep:Str):∀ys:List Str,cs (Str.join sep ys)=jn sep ys
 | []=>rfl
 | [x]=>rfl
 | x::y::r=>by
  show cs (x++sep++Str.join sep (y::r))=_;rw[ZaI,ZaI,Zeh sep (y::r),List.append_assoc];rfl
theorem Zie(sep:Str)(ys:List Str):cs (Txt.join sep ys)=jn sep ys:=by
 have e:Txt.join sep ys=Str.join sep ys:=PySem.StrLaws.glued_eq_join sep ys;rw[e,Zeh]
theorem Zdb(sep:Str)(ys:List Str):(Txt.join sep ys).length<=(ys.map (·.length)).sum+ys.length*sep.length:=by
 have e:Txt.join sep ys=Str.join sep ys:=PySem.StrLaws.glued_eq_join sep ys;rw[e];exact PySem.StrLaws.join_length_le sep ys
end Fg
namespace L2
open PySem PySem.Spec PyProof.Rows
section
variable{P:Program}{w:World}{H:Hp}{h h':Heap}{a:Addr}{o:HO}
theorem Zar.there(x:Zar P w H h a o):∃ob,h.get? a=some ob:=by
 cases o with
 | lst xs=>obtain⟨_,_,_,_,e⟩:=x;exact⟨_,e⟩
 | tup xs=>obtain⟨_,_,_,ob,e,_⟩:=x;exact⟨_,e⟩
 | dK kvs=>obtain⟨_,_,_,_,ob,_,_,e,_⟩:=x;exact⟨_,e⟩
 | dT kvs=>obtain⟨_,_,_,_,ob,_,_,e,_⟩:=x;exact⟨_,e⟩
 | set S n=>obtain⟨ob,_,_,_,e,_⟩:=x;exact⟨_,e⟩
 | ins C dx fs=>obtain⟨_,_,_,e,_⟩:=x;exact⟨_,e⟩
 | own y=>obtain⟨_,e⟩:=x;exact⟨_,e⟩
 | xd fs=>obtain⟨_,⟨_,_,_,e,_⟩,_⟩:=x;exact⟨_,e⟩
 | rng lo hi=>obtain⟨_,_,_,e⟩:=x;exact⟨_,e⟩
 | frz ob u=>obtain⟨e,_⟩:=x;exact⟨_,e⟩
 | tbl ps=>exact⟨_,(show h.get? a=some _ from x)⟩
 | met f y=>exact⟨_,(show h.get? a=some _ from x)⟩
 | ext φ=>obtain⟨_,⟨_,e⟩,_⟩:=x;exact⟨_,e⟩
theorem HOk.freshN(x:HOk P w H h)(e:h.get? a=none):H a=none:=by
 cases q:H a with
 | none=>rfl
 | some u =>
  obtain⟨ob,e'⟩:=(x a u q).there;rw[e] at e';cases e'
end
section
variable{X:Cx}{pins:List (Addr×Obj)}{σ : St}{H:Hp}{s:Shared}{h':Heap}
theorem Inv.laidN{a:Addr}{o:HO}{t':Nat}(I:Inv X pins σ H s)(k:∀b u,s.heap.get? b=some u->h'.get? b=some u)(hp:s.heap.get? a=none)(new:Zar X.prog X.w (upd H a o) h' a o) :
  Inv X pins σ (upd H a o) { s with heap:=h',toks:=t' }:=by
 have hn:=I.hok.freshN hp;have ne:∀b u,s.heap.get? b=some u->b≠a:=fun b u e z=>by
  rw[z,hp] at e;cases e
 refine I.un ⟨fun b u q _ _ _=>k b u q,fun b u q _ _ _=>⟨u.slots,k b u q⟩,fun b u q n _=>by rw[Zi (ne b u q)];exact n,fun b u q _=>⟨u,k b u q⟩,
  fun b xs q=>by rw[Zi (Zm q hn)];exact q,fun b u xs q=>by rw[Zi (Zm q hn)];exact q,fun b ps q=>⟨#[],by rw[Zi (Zm q hn),q];simp⟩⟩ fun b u e=>?_
 by_cases hb:b=a
 ·subst hb;rw[Zb] at e;cases e;exact new
 ·rw[Zi hb] at e;exact(I.hok b u e).stay (fun c v _ q=>k c v q) (fun c q=>by rw[Zi (Zm q hn)];exact q) fun c xs q=>by rw[Zi (Zm q hn)];exact q
end
section
variable{X:Cx}
theorem ZeJ:∀{bs:List Bool}{us:List Value},Vals (bs.map V.bl) us->∀(i:Nat)(v:Value),us[i]?= some v->∃b,bs[i]?= some b/\v=.bool b
 | [],_,.nil,i,v,e=>by simp at e
 | b::bs,_,.cons r t,0,v,e=>by
  obtain rfl:_=Value.bool b:=r;simp at e;exact⟨b,rfl,e.symm⟩
 | b::bs,_,.cons r t,i+1,v,e=>by
  obtain⟨c,h1,h2⟩:=ZeJ t i v (by simpa using e);exact⟨c,by simpa using h1,h2⟩
theorem all_range:∀(bs:List Bool),((List.range bs.length).all fun i=>(bs[i]?).getD true)=bs.all id:=by
 intro bs;rw[Bool.eq_iff_iff,List.all_eq_true,List.all_eq_true];constructor
 ·intro h b hb;obtain⟨i,hi,rfl⟩:=List.getElem_of_mem hb;have:=h i (List.mem_range.mpr hi);rw[List.getElem?_eq_getElem hi] at this;exact this
 ·intro h i hi;have hi':=List.mem_range.mp hi;rw[List.getElem?_eq_getElem hi'];exact h _ (List.getElem_mem hi')
theorem Zjo(hc:X.calm=true):Zbq X (.builtin "all") (fun xs H Q=>∃(p:Addr)(bs:List Bool),xs=[.ref p]/\SqL X.K H p (bs.map V.bl)/\Q (.bl (bs.all id)) H):=by
 intro pins s σ H xs us Q I r h;obtain⟨p,bs,rfl,hS,q⟩:=h;obtain⟨u,rfl,ru⟩:=Vals.one r;cases ru;obtain⟨its,rv,pl,hz⟩:=I.list hS;have hl:=pl.isList;have hlen:bs.length=its.length:=by
  have:=rv.length;rw[List.length_map] at this;exact this
 refine call_all_walk (wpAny_pyIter_list hl ⟨s.heap.objs.size,[s.heap.objs.size,p],[s.heap.objs.size],its.toArray.size,_,_,fun i=>(bs[i]?).getD true,rfl,
  Walks.list (A:=X.A.in1) (I.ok.hd hc) _ p (Nat.ne_of_lt pl.lt) its.toArray,⟨⟨_,Heap.get?_push_size _ rfl,rfl,rfl⟩,hl.push _⟩,fun i v s' Q' E' hP hQ=>?_,fun h' tk hk=>?_⟩)
 ·obtain⟨b,e,e2⟩:=ZeJ rv i v (by simpa using hP);subst e2;simp only[e,Option.getD_some] at hQ;exact wpAny_truthy_bool hQ
 ·rw[List.size_toArray,<- hlen,all_range];refine⟨.bl _,H,I.kept (t':=tk) fun b o e=>hk b o (fun hm=>?_) (Heap.get?_push_of_some _ e),rfl,q⟩;rw[List.mem_singleton.mp hm] at e;exact Nat.lt_irrefl _ (Heap.lt_size e)
theorem Zia:SlR X (fun x lo hi H Q=>∃z,x=.str z/\z.length<=sizeLine/\Q (.str (PySem.StrLaws.sliceText z lo hi)) H):=by
 intro pins s σ H x v vl vu lo hi sl Q I rx hs pl pu h;obtain⟨z,rfl,hz,q⟩:=h;obtain⟨t,rfl⟩:=rx;refine⟨"str",_,F.slot_str_getitem.lookup,typeIs_str s z t,?_⟩;have key:∀l u:Option (Int×Tok),s.heap.IsSlice sl l u none->l.map (·.1)=lo->u.map (·.1)=hi->wpAny (model X.prog X.w) X.A (getItem (.str z t) (.ref sl)) (EP X pins σ Q) X.xe s:=by
  intro l u hsl el eu;refine wpAny_getItem_str_slice hsl rfl ?_;unfold sliceMade slicePicked;rw[el,eu];unfold PySem.StrLaws.sliceText at q;by_cases c:((1:Int) == 1&&(Builtin.Str.strSliceIndices lo hi 1 z.length).length == z.length)=true
  ·rw[if_pos c] at q;rw[if_pos (show((((none:Option (Int×Tok)).map (·.1)).getD 1 == 1)&&(Builtin.Str.strSliceIndices lo hi (((none:Option (Int×Tok)).map (·.1)).getD 1) z.length).length == z.length)=true from c)];exact⟨.str z,H,I,⟨_,rfl⟩,q⟩
  ·rw[if_neg c] at q;rw[if_neg (show ¬ ((((none:Option (Int×Tok)).map (·.1)).getD 1 == 1)&&(Builtin.Str.strSliceIndices lo hi (((none:Option (Int×Tok)).map (·.1)).getD 1) z.length).length == z.length)=true from c)];refine⟨?_,.str _,H,I.tok _,⟨_,rfl⟩,q⟩;show(((Builtin.Str.strSliceIndices lo hi 1 z.length).filterMap (z.cps[·]?)).toArray).size<=sizeLine;rw[List.size_toArray];refine Nat.le_trans (List.length_filterMap_le _ _) (Nat.le_trans ?_ hz);refine sliceRange_length_le _ _ _ _ (fun _=>?_) (fun z=>absurd (by decide) z);cases lo with
   | none =>
    cases hi with
    | none=>exact⟨Int.le_refl 0,Int.le_refl _⟩
    | some j=>exact⟨Int.le_refl 0,by simp only[show(1:Int) > 0 by decide,if_true];lia⟩
   | some i =>
    cases hi with
    | none=>exact⟨by simp only[show(1:Int) > 0 by decide,if_true];lia,Int.le_refl _⟩
    | some j=>exact⟨by simp only[show(1:Int) > 0 by decide,if_true];lia,by simp only[show(1:Int) > 0 by decide,if_true];lia⟩
 cases pl with
 | none =>
  cases pu with
  | none=>exact key none none hs rfl rfl
  | int j tj=>exact key none (some (j,tj)) hs rfl rfl
 | int i ti =>
  cases pu with
  | none=>exact key (some (i,ti)) none hs rfl rfl
  | int j tj=>exact key (some (i,ti)) (some (j,tj)) hs rfl rfl
end
def azB(c:Nat):Bool:=decide (97<=c)&&decide (c<=122)
theorem ZjW(a b:Nat):decide (([a]:List Nat) < [b])=decide (a<b):=by
 have h:(([a]:List Nat) < [b])↔a<b:=by
  constructor
  ·intro h;cases h with
   | rel h=>exact h
   | cons h=>cases h
  ·intro h;exact List.Lex.rel h
 exact decide_eq_decide.mpr h
section
variable{prog:Program}{w:World}{A:Around}{E:Value->Shared->Prop}{s:Shared}
theorem ZkQ{x y:Str}{t u:Tok}{Q:Value->Shared->Prop}(h:Q (.bool (!decide (y.cps.toList<x.cps.toList))) s):wpAny (model prog w) A (compareOp .LtE (.str x t) (.str y u)) Q E s:=PySem.P.le_str h
theorem Zmb{s₂ : Shared}{C:Addr}{m:Str->Option Value}{sc:Scope}{env:Env}{n:Str}{pos:Pos}{v:Value}{Q:Value->Shared->Prop}(x:InComp s₂ C m s)(hk:sc.kind=.function)(hl:sc.names.lookup n=some .local)
  (hv:m n=some v) (hd:(n == ("__debug__" : Str))=false) (h:Q v s):wpAny (model prog w) A (eval (.Name n pos) (compEnv sc C env)) Q E s:=PySem.ldK x hk hl hv h hd
theorem Zk8{scope:Scope}{C:Addr}{env:Env}{m:Str->Option Value}{x:Str}{c:Nat}{u:Tok}{j j2:Nat}{p1 p2 p3 pos:Pos}(hk:scope.kind=.function)(hx:scope.names.lookup x=some .local)(hd:(x == ("__debug__" : Str))=false)
  (hn:s.heap.Ns C m) (hm:m x=some (.str ⟨#[c]⟩ u)) :
  wpAny (model prog w) A (eval (.Compare (.Constant (.str "a") j p1) [.LtE,.LtE] [.Name x p2,.Constant (.str "z") j2 p3] pos) (compEnv scope C env)) (fun r s'=>r=.bool (azB c)/\Keeps s s') E s:=by
 have I0:=(InComp.start hn).tok (s.toks+1);have ea:("a" : Str).cps.toList=[97]:=by decide +kernel
 have ez:("z" : Str).cps.toList=[122]:=by decide +kernel
 have e1:decide (([c]:List Nat) < [97])=decide (c<97):=ZjW c 97;have e2:decide (([122]:List Nat) < [c])=decide (122<c):=ZjW 122 c;refine Compare_chain (Calls.Constant_str ?_);refine chain_link ?_;refine Zmb I0 hk hx hm hd ?_;refine ZkQ ?_;rw[ea];show wpAny (model prog w) A (truthy (.bool (!decide (([c]:List Nat) < [97])))) _ _ _;rw[e1];refine wpAny_truthy_bool ?_;by_cases h1:c<97
 ·rw[decide_eq_true h1];refine ite_ff ⟨?_,I0.done⟩;unfold azB;rw[decide_eq_false (by lia : ¬ 97<=c)];rfl
 ·rw[decide_eq_false h1];refine ite_tt ?_;refine chain_last ?_;refine Calls.Constant_str ?_;refine ZkQ ?_;rw[ez];refine⟨?_,(I0.tok _).done⟩;show Value.bool (!decide (([122]:List Nat) < [c]))=_;rw[e2];unfold azB;rw[decide_eq_true (by lia:97<=c)];by_cases h2:c<=122
  ·rw[decide_eq_true h2,decide_eq_false (by lia)];rfl
  ·rw[decide_eq_false h2,decide_eq_true (by lia)];rfl
end
theorem Zj3:∀{cs:List Nat}{vs us:List Value},(∀(j:Nat)(v:Value),vs[j]?= some v->∃(c:Nat)(u:Tok),cs[j]?= some c/\v=Value.str ⟨#[c]⟩ u)->vs.length=cs.length->Paired (fun v r=>∃c u,v=Value.str ⟨#[c]⟩ u/\r=Value.bool (azB c)) vs us ->
  Vals (cs.map fun c=>.bl (azB c)) us
 | [],[],_,_,_,.nil=>.nil
 | [],v::vs,_,_,h,_=>by simp at h
 | c::cs,[],_,_,h,_=>by simp at h
 | c::cs,v::vs,_,hP,hl,.cons hr t=>by
  obtain⟨c',u',e1,e2⟩:=hP 0 v rfl;obtain⟨c2,u2,e3,e4⟩:=hr;simp at e1;subst e1;rw[e2] at e3;injection e3 with e5 _;injection e5 with e6;simp at e6;subst e6;refine .cons e4 (Zj3 (fun j v hv=>?_) (by simpa using hl) t);obtain⟨c3,u3,f1,f2⟩:=hP (j+1) v (by simpa using hv);exact⟨c3,u3,by simpa using f1,f2⟩
section
variable{X:Cx}{iter:Expr}{te:TE}{scope:Scope}{x:Str}{px p1 p2 p3 p4 pos:Pos}{j j2:Nat}
theorem Zhc(hi:PE X iter te)(hc:X.calm=true)(hfree:∀y∈scope.names,y.2 ≠ .free)(hcell:∀y∈scope.names,y.2 ≠ .cell)(hk:scope.kind=.function)
  (hnames:∀y∈scope.names,y.2=.local->scope.names.lookup y.1=some .local) (hx:scope.names.lookup x=some .local) (hd:(x == ("__debug__" : Str))=false) (hs:∀v,foldedSetIterable iter X.env v=pure v) :
  PE X (.ListComp (.Compare (.Constant (.str "a") j p1) [.LtE,.LtE] [.Name x p2,.Constant (.str "z") j2 p3] p4) [⟨.Name x px,iter,[],0⟩] scope pos)
   (fun σ H Q=>te σ H fun v H1=>∃z,v=.str z/\z.length<=sizeLine/\∀p,H1 p=none->Q (.ref p) (upd H1 p (.lst (z.cps.toList.map fun c=>.bl (azB c))))):=by
 intro pins s σ H Q I h;refine wpAny_ListComp_walk (fun _=>true) (fun v r=>∃c u,v=Value.str ⟨#[c]⟩ u/\r=Value.bool (azB c)) hfree hcell hk hnames hx (thn (hi pins s σ H _ I h) fun v s1 ⟨xv,H1,I1,r1,q1⟩=>?_) hs;obtain⟨z,rfl,hz,q⟩:=q1;obtain⟨t,rfl⟩:=r1;refine wpAny_pyIter_str fun o St W hst=>⟨s1.heap.objs.size,[s1.heap.objs.size],[s1.heap.objs.size],z.cps.size,SignAt z,St,rfl,W X.A (I1.ok.hd hc),hz,hst,fun b hb=>?_,⟨?_,?_⟩,?_⟩
 ·show b<(s1.heap.push o).objs.size;rw[Heap.size_push,List.mem_singleton.mp hb];exact Nat.lt_succ_self _
 ·intro C i v s3 m3 E' hP hn hm _ _;exact wpAny_pure ⟨rfl,(InComp.start hn).done⟩
 ·intro C i v s3 m3 E' hP hp hn hm _ _;obtain⟨c,u,_,e⟩:=hP;subst e;exact wpAny_mono (Zk8 hk hx hd hn hm) (fun r s4 h4=>⟨⟨c,u,rfl,h4.1⟩,h4.2⟩) fun _ _ e=>e
 ·intro D h' tk ys vs hnew hlD hplD hlen hP hF hkp;have hF':Paired (fun v r=>∃c u,v=Value.str ⟨#[c]⟩ u/\r=Value.bool (azB c)) vs ys.toList:=by
   rw[List.filter_eq_self.mpr (fun _ _=>rfl)] at hF;exact hF
  have hV:=Zj3 (cs:=z.cps.toList) (fun j v hv=>by
   obtain⟨c,u,e1,e2⟩:=hP j v hv;exact⟨c,u,by rw[Array.getElem?_toList];exact e1,e2⟩) (by rw[hlen,Array.length_toList]) hF'
  have up:∀b ob,s1.heap.get? b=some ob->h'.get? b=some ob:=fun b ob e=>hkp b ob (fun hm=>by
   rw[List.mem_singleton.mp hm] at e;exact Nat.lt_irrefl _ (Heap.lt_size e)) (Heap.get?_push_of_some _ e)
  have hD:s1.heap.get? D=none:=by
   cases e:s1.heap.get? D with
   | none=>rfl
   | some ob =>
    rw[Heap.get?_push_of_some _ e] at hnew;cases hnew
  obtain⟨nD,eD⟩:=hplD;refine⟨.ref D,_,I1.laidN (a:=D) (o:=.lst (z.cps.toList.map fun c=>.bl (azB c))) (t':=tk) up hD ⟨?_,ys.toList,nD,hV,by rw[Array.toArray_toList];exact eD⟩,rfl,q D (I1.hok.freshN hD)⟩;rw[List.length_map,Array.length_toList];exact hz
end
end L2
namespace L2
open PySem
theorem Zli:bootBuiltins "all" = some (.builtin "all"):=by decide +kernel
end L2
namespace Fg
open PySem L2 FgM
def ZlO(z:Str):Bool:=decide (1<=z.length)&&decide (z.length<=8)&&z.cps.toList.all azB
def Zgl:Sp:=fun vs H Q _=>∃z:Str,vs=[.str z]/\z.length<=100000/\∀H',Zk H H'->Q (.bl (ZlO z)) H'
end Fg
namespace L2
open PySem PySem.Spec PyProof.Rows
section
variable{prog:Program}{w:World}{A:Around}{s:Shared}{R:Result->Shared->Prop}
abbrev no0:Value->Shared->Prop:=fun _ _=>False
theorem Zhx{elt target iter:Expr}{scope:Scope}{pos:Pos}{it acc:Value}{env:Env}(I:Nat->Shared->Prop)
  (turn:∀n s,I n s->wpAny (model prog w) A (pyNext it) (fun r s1=>match r with
   | none=>R (.ok .next) s1
   | some v=>wpAny (model prog w) A (letOwnedTupleGo target it v) (fun _ s2=>wpAny (model prog w) A (assign target env v) (fun _ s3=>wpAny (model prog w) A (eval elt env) (fun x s4 =>
     wpAny (model prog w) A (call (.builtin "list.append") [acc,x]) (fun _ s5=>∃m,m<n/\I m s5) no0 s4) no0 s3) no0 s2) no0 s1) no0 s)
  (n:Nat) (h:I n s):codeAny (model prog w) A (.compLoop (.ListComp elt [⟨target,iter,[],0⟩] scope pos) 0 it acc env) R s:=by
 refine codeAny_loop rfl I (fun n s hI=>?_) n h;show wpAny _ _ ((compTurn (.ListComp elt [⟨target,iter,[],0⟩] scope pos) 0 it acc env).onRaise (fun x=>do noteFrame x env;theTreesLotGoes x)) _ _ s;refine wpAny_noted ?_;rw[compTurn_list1];refine wpAny_bind (wpAny_standAt (wpAny_bind (wpAny_mono (turn n s hI) (fun r s1 h1=>?_) fun _ _ h'=>h'.elim)));cases r with
 | none=>exact wpAny_pure h1
 | some v =>
  refine wpAny_bind (wpAny_mono h1 (fun _ s2 h2=>?_) fun _ _ h'=>h'.elim);refine wpAny_bind (wpAny_mono h2 (fun _ s3 h3=>?_) fun _ _ h'=>h'.elim);refine wpAny_bind (wpAny_bind (wpAny_mono h3 (fun x s4 h4=>?_) fun _ _ h'=>h'.elim));exact wpAny_bind (wpAny_mono h4 (fun _ s5 h5=>wpAny_pure (wpAny_pure ⟨rfl,h5⟩)) fun _ _ h'=>h'.elim)
end
def ZaJ(X:Cx)(N:List Str)(scope:Scope)(cl:List (Str×Addr))(C:Addr)(fp:List Addr)(s:Shared)(H:Hp):Cx where
 prog:=X.prog
 w:=X.w
 K:=X.K
 mg:=X.mg
 base:=X.base
 A:=X.A
 N:=N
 s₀ := s
 H₀ := H
 env:=compEnvC scope cl C X.env
 outer:=X.stack
 stack:=X.stack
 ex:=fp
 fn:=fun _=>false
 calm:=X.calm
 pn:=[]
 xe:=no0
section
variable{X:Cx}{pins:List (Addr×Obj)}{σ : St}{H:Hp}{s:Shared}
theorem Ziz{N:List Str}{scope:Scope}{cl:List (Str×Addr)}{C:Addr}{fp:List Addr}(I:Inv X pins σ H s)(hk:scope.kind=.function)(hC:s.heap.objs.size<=C)(hcl:∀x c,cl.lookup x=some c->X.env.cells.lookup x=some c)
  (hhas:∀x,((compEnvC scope cl C X.env).kindOf x=some .cell\/(compEnvC scope cl C X.env).kindOf x=some .free)->∃c,cl.lookup x=some c)
  (hf:∀b∈fp,ZcK X pins H b) (hlt:∀b∈fp,b<s.heap.objs.size):(ZaJ X N scope cl C fp s H).Ok where
 mod:=I.ok.mod
 kind:=hk
 glob:=I.ok.glob
 blt:=I.ok.blt
 above:=hC
 inj:=fun x y c e1 e2=>I.ok.inj x y c (hcl x c e1) (hcl y c e2)
 has:=hhas
 cab:=fun x c e=>by cases e
 hd:=I.ok.hd
 frames:=I.ok.frames
 stk:=.inl rfl
 exf:=fun b hb=>⟨fun z=>absurd (Nat.lt_of_lt_of_le (hlt b hb) hC) (by rw[show b=C from z];exact Nat.lt_irrefl _),fun x c e=>(hf b hb).2.2.2.2.1 x c (hcl x c e)⟩
 bs:=fun b o e=>⟨(I.bs b o e).1,(I.bs b o e).2⟩
 bsz:=Nat.le_trans I.ok.bsz I.sz
 noex:=fun b o e hb=>by
  rcases(hf b hb).2.2.2.1 with z|z
  ·exact I.ok.noex b o e z
  ·exact absurd (Nat.lt_of_lt_of_le (Heap.lt_size e) (Nat.le_trans I.ok.bsz z)) (Nat.lt_irrefl _)
 exfs:=fun b hb hm=>by
  rcases List.mem_cons.mp (I.stkSub b hm) with z|z
  ·exact(hf b hb).2.1 z
  ·exact(hf b hb).2.2.1 z
 funs:=I.stack
 frf:=I.stkFree
def capσ(σ : St)(k:Nat)(cap:List (Str×Nat)):St:=List.replicate k none++cap.map fun p=>(σ[p.2]?).getD none
theorem Zdm{scope:Scope}{cl:List (Str×Addr)}{fp:List Addr}{tn:List Str}{cap:List (Str×Nat)}{h1:Heap}(I:Inv X pins σ H s)(hk:scope.kind=.function)(hcl:∀x c,cl.lookup x=some c->X.env.cells.lookup x=some c)
  (hhas:∀x,((compEnvC scope cl s.heap.objs.size X.env).kindOf x=some .cell\/(compEnvC scope cl s.heap.objs.size X.env).kindOf x=some .free)->∃c,cl.lookup x=some c)
  (hf:∀b∈fp,ZcK X pins H b) (hlt:∀b∈fp,b<s.heap.objs.size)
  (hcap:∀p∈cap,X.N[p.2]?= some p.1/\X.env.scope.names.lookup p.1=some .cell/\((compEnvC scope cl s.heap.objs.size X.env).kindOf p.1=some .cell\/(compEnvC scope cl s.heap.objs.size X.env).kindOf p.1=some .free))
  (hns:h1.Ns s.heap.objs.size (fun _=>none)) (hkp:∀b o,s.heap.get? b=some o->h1.get? b=some o) :
  Inv (ZaJ X (tn++cap.map (·.1)) scope cl s.heap.objs.size fp s H) [] (capσ σ tn.length cap) H { s with heap:=h1 } where
 ok:=Ziz I hk (Nat.le_refl _) hcl hhas hf hlt
 os:=rfl
 bare:=I.bare
 base:=Un.kept hkp
 loc:=by
  refine⟨fun _=>none,hns,fun i x v e1 e2 hv=>?_⟩;unfold capσ at e2;by_cases hi:i<tn.length
  ·rw[List.getElem?_append_left (by rw[List.length_replicate];exact hi),List.getElem?_replicate,if_pos hi] at e2;cases e2
  ·have hN:(cap.map (·.1))[i-tn.length]?= some x:=by
    have:(tn++cap.map (·.1))[i]?= some x:=e1;rw[List.getElem?_append_right (by lia)] at this;exact this
   rw[List.getElem?_append_right (by rw[List.length_replicate];lia),List.length_replicate,List.getElem?_map] at e2;rw[List.getElem?_map] at hN;cases hp:cap[i-tn.length]? with
   | none=>rw[hp] at hN;cases hN
   | some p =>
    rw[hp] at hN e2;have hx:p.1=x:=Option.some.inj hN;have he:(σ[p.2]?).getD none=some v:=Option.some.inj e2;obtain⟨c1,c2,c3⟩:=hcap p (List.mem_of_getElem? hp);subst hx;have hs : σ[p.2]?= some (some v):=by
     cases q : σ[p.2]? with
     | none=>rw[q] at he;cases he
     | some z=>rw[q] at he;rw[show z=some v from he]
    obtain⟨m,hn,hl⟩:=I.loc;obtain⟨u,r,l⟩:=hl p.2 p.1 v c1 hs (.inr (.inl c2));refine⟨u,r,.inr ⟨c3,?_⟩⟩;obtain⟨c,hc⟩:=hhas p.1 c3;refine⟨c,hc,?_⟩;rcases l with⟨l1,_⟩|⟨_,c',l2,o,ho,hd⟩
    ·have:X.env.kindOf p.1=some .cell:=c2;rw[this] at l1;cases l1
    ·have:c=c':=Option.some.inj ((hcl p.1 c hc).symm.trans l2);subst this;exact⟨o,hkp _ _ ho,hd⟩
 cell:=fun x c e=>by
  obtain⟨v,o,ho,hd⟩:=I.cell x c (hcl x c e);exact⟨v,o,hkp _ _ ho,hd⟩
 free:=I.hok.fresh (Nat.le_refl _)
 freeC:=fun x c e=>I.freeC x c (hcl x c e)
 pin:=fun p hp=>by cases hp
 hok:=I.hok.kept hkp
 len:=by
  unfold capσ;show _=(tn++cap.map (·.1)).length;rw[List.length_append,List.length_append,List.length_replicate,List.length_map,List.length_map]
end
def Zlc(wi:TI)(k:Nat)(cap:List (Str×Nat))(g:TG)(te:TE):TE:=fun σ H Q=>wi σ H fun J H1=>∀p,H1 p=none->∃W:Nat->Nat->List V->St->Hp->Prop,(∃m,W 0 m [] (capσ σ k cap) (upd H1 p (.lst []))) /\
 ∀i m ys σc H2,W i m ys σc H2->H2 p=some (.lst ys)/\((J.stop i H2/\Q (.ref p) H2)\/(J.go i H2/\∀x H3,J.yld i H2 x H3->g x σc H3 fun σ3 H4=>te σ3 H4 fun v H5 =>
  H5 p=some (.lst ys)/\ys.length<sizeLine/\∃m',m'<m/\W (i+1) m' (ys ++ [v]) σ3 (upd H5 p (.lst (ys ++ [v])))))
section
variable{X:Cx}{elt iter tg:Expr}{scope:Scope}{pos:Pos}{wi:TI}{g:TG}{te:TE}{cl:List (Str×Addr)}
theorem Zek{pins:List (Addr×Obj)}{σ : St}{H2:Hp}{s2:Shared}{it:Addr}{fp:List Addr}{tnn:Nat->Heap->Prop}{J:It}{R:Addr->Hp->Prop}{use:Option (Value->Sem Unit)}{Qp:Value->Shared->Prop}(tn:List Str)(cap:List (Str×Nat))(hg:∀C fp s H,PG (ZaJ X (tn++cap.map (·.1)) scope cl C fp s H) tg g)(he:∀C fp s H,PE (ZaJ X (tn++cap.map (·.1)) scope cl C fp s H) elt te)(hc:X.calm=true)(hcell:∀y∈scope.names,y.2 ≠ .cell)(hk:scope.kind=.function)(hcl:∀x c,cl.lookup x=some c->X.env.cells.lookup x=some c)(hhas:∀C x,((compEnvC scope cl C X.env).kindOf x=some .cell\/(compEnvC scope cl C X.env).kindOf x=some .free)->∃c,cl.lookup x=some c)(hcap:∀C,∀p∈cap,X.N[p.2]?= some p.1/\X.env.scope.names.lookup p.1=some .cell/\((compEnvC scope cl C X.env).kindOf p.1=some .cell\/(compEnvC scope cl C X.env).kindOf p.1=some .free))
  (I2:Inv X pins σ H2 s2) (T:Turn X.prog X.w X.K tg J fp it tnn) (st2:tnn 0 s2.heap) (f2:∀b∈fp,ZcK X pins H2 b) (q2:∀p,H2 p=none->∃W:Nat->Nat->List V->St->Hp->Prop,(∃m,W 0 m [] (capσ σ tn.length cap) (upd H2 p (.lst []))) /\
 ∀i m ys σc H2,W i m ys σc H2->H2 p=some (.lst ys)/\((J.stop i H2/\R p H2)\/(J.go i H2/\∀x H3,J.yld i H2 x H3->g x σc H3 fun σ3 H4=>te σ3 H4 fun v H5=>H5 p=some (.lst ys)/\ys.length<sizeLine/\∃m',m'<m/\W (i+1) m' (ys ++ [v]) σ3 (upd H5 p (.lst (ys ++ [v]))))))
  (hfin:∀(s3:Shared)(H3:Hp),Inv X pins σ H3 s3->(∀b∈fp,ZcK X pins H3 b)->∀(acc:Addr)(σ6:St)(H6:Hp)(s6:Shared),Inv (ZaJ X (tn++cap.map (·.1)) scope cl s3.heap.objs.size fp s3 H3) [] σ6 H6 s6->R acc H6->compPost (model X.prog X.w) X.A X.xe use Qp (.ref acc) s3.heap.objs.size (.ok .next) s6) :
  wpAny (model X.prog X.w) X.A (newList []) (fun acc s₃=>wpAny (model X.prog X.w) X.A (newFunctionEnv scope X.env.globals cl [] X.env.qual none Value.none (some X.env)) (fun cenv s₄=>codeAny (model X.prog X.w) X.A (Code.compStart (.ListComp elt [⟨tg,iter,[],0⟩] scope pos) 0 (Value.ref it) acc { cenv with scope:=relabel scope X.env }) (compPost (model X.prog X.w) X.A X.xe use Qp acc cenv.locals) s₄) X.xe s₃) X.xe s2:=by
 have fresh:H2 s2.heap.objs.size=none:=I2.fresh;obtain⟨W,⟨m0,w0⟩,turn⟩:=q2 s2.heap.objs.size fresh;have lt2:∀b∈fp,b<s2.heap.objs.size:=fun b hb=>by
  obtain⟨o,ho,_⟩:=T.obj _ _ st2 b hb;exact Heap.lt_size ho
 have I3:Inv X pins σ (upd H2 s2.heap.objs.size (.lst [])) { s2 with heap:=s2.heap.push { cls:=.type "list",data:=.seq ([]:List Value).toArray } }:=I2.lnew (its:=[]) (t':=s2.toks) .nil (Nat.zero_le _);refine wpAny_newObj_type (wpAny_newFunctionEnv hcell (by intro y hy;simp at hy) (fun h1 hns1 hsb1=>?_) hk);dsimp only at hns1 hsb1 ⊢;generalize hS3:({ s2 with heap:=s2.heap.push { cls:=.type "list",dict:=none,data:=.seq ([]:List Value).toArray } }:Shared)=s3 at I3;have hh3:s2.heap.push { cls:=.type "list",dict:=none,data:=.seq ([]:List Value).toArray }=s3.heap:=by rw[<- hS3]
 rw[hh3] at hns1 hsb1 ⊢;have sz3:s3.heap.objs.size=s2.heap.objs.size+1:=by rw[<- hh3,Heap.size_push]
 have lt3:∀b∈fp,b<s3.heap.objs.size:=fun b hb=>Nat.lt_of_lt_of_le (lt2 b hb) (by rw[sz3];exact Nat.le_succ _);have f3:∀b∈fp,ZcK X pins (upd H2 s2.heap.objs.size (.lst [])) b:=fun b hb=>⟨by rw[Zi (Nat.ne_of_lt (lt2 b hb))];exact(f2 b hb).1,(f2 b hb).2⟩;have keep3:∀b o,s3.heap.get? b=some o->h1.get? b=some o:=fun b o q=>hsb1.extBut b o (Nat.ne_of_lt (Heap.lt_size q)) (Heap.get?_push_of_some _ q);have st3:tnn 0 h1:=T.keep _ _ _ st2 fun b hb o q=>keep3 b o (by rw[<- hh3];exact Heap.get?_push_of_some _ q);have I4:=(Zdm (tn:=tn) I3 hk hcl (hhas _) f3 lt3 (hcap _) hns1 keep3).tok (s2.toks+([]:List (Str×Value)).length);have loop:codeAny (model X.prog X.w) X.A (.compLoop (.ListComp elt [⟨tg,iter,[],0⟩] scope pos) 0 (.ref it) (.ref s2.heap.objs.size) (compEnvC scope cl s3.heap.objs.size X.env))
   (compPost (model X.prog X.w) X.A X.xe use Qp (.ref s2.heap.objs.size) s3.heap.objs.size) { s3 with heap:=h1,toks:=s2.toks+([]:List (Str×Value)).length }:=by
  refine Zhx (fun n s'=>∃i ys σ' H',Inv (ZaJ X (tn++cap.map (·.1)) scope cl s3.heap.objs.size fp s3 (upd H2 s2.heap.objs.size (.lst []))) [] σ' H' s'/\tnn i s'.heap/\(∀b∈fp,H' b=none)/\W i n ys σ' H') ?_ m0
   ⟨0,[],_,_,I4,st3,fun b hb=>(f3 b hb).1,w0⟩
  rintro n s5 ⟨i,ys,σ5,H5,I5,st5,fr5,w5⟩;obtain⟨hD,alt⟩:=turn i n ys σ5 H5 w5;have stat:∀{H':Hp},(∀b∈fp,H' b=none)->∀b∈fp,ZcK (ZaJ X (tn++cap.map (·.1)) scope cl s3.heap.objs.size fp s3 (upd H2 s2.heap.objs.size (.lst []))) [] H' b :=
   fun hn b hb=>⟨hn b hb,(I4.ok.exf b hb).1,I4.ok.exfs b hb,.inl hb,(I4.ok.exf b hb).2,fun p hp=>by cases hp⟩
  rcases alt with⟨stop,qn⟩|⟨go,step⟩
  ·refine thn (T.done (ZaJ X (tn++cap.map (·.1)) scope cl s3.heap.objs.size fp s3 (upd H2 s2.heap.objs.size (.lst []))) rfl rfl rfl hc i [] s5 σ5 H5 no0 I5 (stat fr5) st5 stop) fun r s6 ⟨hr,I6⟩=>?_;subst hr;exact hfin s3 _ I3 f3 _ σ5 H5 s6 I6 qn
  ·refine thn (T.item (ZaJ X (tn++cap.map (·.1)) scope cl s3.heap.objs.size fp s3 (upd H2 s2.heap.objs.size (.lst []))) rfl rfl rfl hc i [] s5 σ5 H5 no0 I5 (stat fr5) st5 go) fun r s6 ⟨u,hr,h6⟩=>?_;subst hr;refine thn h6 fun _ s7 ⟨x,H7,I7,r7,y7,st7,fr7⟩=>?_;have I7':=I7.pinned (stat fr7) (T.obj _ _ st7);refine thn (hg _ _ _ _ _ s7 σ5 H7 x u _ I7' r7 (step x H7 y7)) fun _ s8 ⟨σ8,H8,I8,q8⟩=>?_;refine thn (he _ _ _ _ _ s8 σ8 H8 _ I8 q8) fun xv s9 ⟨v9,H9,I9,r9,q9⟩=>?_;obtain⟨hD9,hl9,m',hm',w9⟩:=q9;refine thn (Za3 _ s9 σ8 H9 (.ref s2.heap.objs.size) [v9] (.ref s2.heap.objs.size) [xv] (fun z H'=>z=.non/\H'=upd H9 s2.heap.objs.size (.lst (ys ++ [v9]))) I9 rfl (.cons r9 .nil)
    ⟨s2.heap.objs.size,ys,v9,rfl,rfl,hD9,hl9,rfl,rfl⟩) fun z s10 ⟨zv,H10,I10,_,_,eH⟩=>?_
   subst eH;refine⟨m',hm',i+1,ys ++ [v9],σ8,_,I10.unpinned,T.keep _ _ _ st7 fun b hb o q=>(I10.pin (b,o) (List.mem_append_right _ (List.mem_append_right _ (ZaZ hb q)))).1,fun b hb=>?_,w9⟩;obtain⟨o,q,d⟩:=T.obj _ _ st7 b hb;exact(I10.pin (b,o) (List.mem_append_right _ (List.mem_append_right _ (ZaZ hb q)))).2.1
 subst hS3;exact codeAny_compStart_list loop (T.self X.A 0 _ _ _ st3 loop)
theorem ZbS(tn:List Str)(cap:List (Str×Nat))(hi:PI X tg iter wi)(hg:∀C fp s H,PG (ZaJ X (tn++cap.map (·.1)) scope cl C fp s H) tg g)(he:∀C fp s H,PE (ZaJ X (tn++cap.map (·.1)) scope cl C fp s H) elt te)
  (hc:X.calm=true) (hclos:closureFor scope X.env=pure cl) (hcell:∀y∈scope.names,y.2 ≠ .cell) (hk:scope.kind=.function) (hnames:∀y∈scope.names,y.2=.local->scope.names.lookup y.1=some .local)
  (hcl:∀x c,cl.lookup x=some c->X.env.cells.lookup x=some c)
  (hhas:∀C x,((compEnvC scope cl C X.env).kindOf x=some .cell\/(compEnvC scope cl C X.env).kindOf x=some .free)->∃c,cl.lookup x=some c)
  (hcap:∀C,∀p∈cap,X.N[p.2]?= some p.1/\X.env.scope.names.lookup p.1=some .cell/\((compEnvC scope cl C X.env).kindOf p.1=some .cell\/(compEnvC scope cl C X.env).kindOf p.1=some .free))
  (hs:∀v,foldedSetIterable iter X.env v=pure v):PE X (.ListComp elt [⟨tg,iter,[],0⟩] scope pos) (Zlc wi tn.length cap g te):=by
 intro pins s σ H Q I h;rw[eval_ListComp];refine wpAny_comprehension_free (use:=none) rfl hs hclos hk hnames (thn (hi pins s σ H _ I h) fun v s1 h1=>thn h1 fun itv s2 h2=>?_);obtain⟨it,fp,tnn,J,H2,e,I2,T,st2,f2,q2⟩:=h2;subst e;refine Zek (R:=fun p H6=>Q (.ref p) H6) tn cap hg he hc hcell hk hcl hhas hcap I2 T st2 f2 q2 fun s3 H3 I3 f3 acc σ6 H6 s6 I6 q6=>?_;obtain⟨m,hn,_⟩:=I6.loc;refine⟨m,hn,fun h' sb=>?_⟩;have nC:∀b o,s3.heap.get? b=some o->b≠s3.heap.objs.size:=fun b o q=>Nat.ne_of_lt (Heap.lt_size q);have u:Un (frs X.stack) fp H3 H6 s3.heap h':=by
  have u0:=I6.base;refine⟨fun b o q n hb hx=>(sb.2 b (nC b o q)).trans (u0.keep b o q n hb hx),fun b o q n hb hx=>?_,u0.free,fun b o q hx=>?_,u0.tups,u0.frzs,u0.tbls⟩
  ·obtain⟨sl,e⟩:=u0.slot b o q n hb hx;exact⟨sl,(sb.2 b (nC b o q)).trans e⟩
  ·obtain⟨o',e⟩:=u0.there b o q hx;exact⟨o',(sb.2 b (nC b o q)).trans e⟩
 have free6:H6 s3.heap.objs.size=none:=I6.free;have ok6:HOk X.prog X.w H6 h':=fun b o q=>(I6.hok b o q).stay (fun c v hcv r=>(sb.2 c (by
  rcases hcv with z|z
  ·rw[z];exact Zm q free6
  ·exact Zm z free6)).trans r) (fun _ q=>q) fun _ _ q=>q
 have I':=I3.call (g':=s6.gens) (d':=s6.drawn) (t':=s6.toks) (ch:=fp) u ok6 I6.bare fun b hb=>⟨(f3 b hb).2.2.2.1,(f3 b hb).2.1,(f3 b hb).2.2.2.2.1,(f3 b hb).2.2.2.2.2⟩;have e:({ s6 with heap:=h' }:Shared)= { s3 with heap:=h',gens:=s6.gens,drawn:=s6.drawn,toks:=s6.toks }:=by
  have ho:s6.os=s3.os:=I6.os;obtain⟨a1,a2,a3,a4,a5⟩:=s6;obtain⟨b1,b2,b3,b4,b5⟩:=s3;simp only at ho;subst ho;rfl
 rw[e];exact⟨.ref _,H6,I',rfl,q6⟩
end
section
variable{prog:Program}{w:World}{A:Around}{s:Shared}{R:Result->Shared->Prop}
theorem Zhj{elt ct target iter:Expr}{scope:Scope}{pos:Pos}{it acc:Value}{env:Env}(I:Nat->Shared->Prop)
  (turn:∀n s,I n s->wpAny (model prog w) A (pyNext it) (fun r s1=>match r with
   | none=>R (.ok .next) s1
   | some v=>wpAny (model prog w) A (letOwnedTupleGo target it v) (fun _ s2=>wpAny (model prog w) A (assign target env v) (fun _ s3=>wpAny (model prog w) A (isTrue ct env (eval ct env)) (fun ok s3' =>
     if ok=true then wpAny (model prog w) A (eval elt env) (fun x s4 =>
     wpAny (model prog w) A (call (.builtin "list.append") [acc,x]) (fun _ s5=>∃m,m<n/\I m s5) no0 s4) no0 s3' else ∃m,m<n/\I m s3') no0 s3) no0 s2) no0 s1) no0 s)
  (n:Nat) (h:I n s):codeAny (model prog w) A (.compLoop (.ListComp elt [⟨target,iter,[ct],0⟩] scope pos) 0 it acc env) R s:=by
 refine codeAny_loop rfl I (fun n s hI=>?_) n h;show wpAny _ _ ((compTurn (.ListComp elt [⟨target,iter,[ct],0⟩] scope pos) 0 it acc env).onRaise (fun x=>do noteFrame x env;theTreesLotGoes x)) _ _ s;refine wpAny_noted ?_;rw[compTurn_list];refine wpAny_bind (wpAny_standAt (wpAny_bind (wpAny_mono (turn n s hI) (fun r s1 h1=>?_) fun _ _ h'=>h'.elim)));cases r with
 | none=>exact wpAny_pure h1
 | some v =>
  refine wpAny_bind (wpAny_mono h1 (fun _ s2 h2=>?_) fun _ _ h'=>h'.elim);refine wpAny_bind (wpAny_mono h2 (fun _ s3 h3=>?_) fun _ _ h'=>h'.elim);refine wpAny_bind (wpAny_tests_one (wpAny_mono h3 (fun ok s3' h3'=>?_) fun _ _ h'=>h'.elim));cases ok with
  | true =>
   simp only[if_true] at h3' ⊢;refine wpAny_bind (wpAny_bind (wpAny_mono h3' (fun x s4 h4=>?_) fun _ _ h'=>h'.elim));exact wpAny_bind (wpAny_mono h4 (fun _ s5 h5=>wpAny_pure (wpAny_pure ⟨rfl,h5⟩)) fun _ _ h'=>h'.elim)
  | false =>
   simp only[Bool.false_eq_true,if_false] at h3' ⊢;exact wpAny_pure ⟨rfl,h3'⟩
end
def Zlq(wi:TI)(k:Nat)(cap:List (Str×Nat))(g:TG)(tt:TT)(te:TE):TE:=fun σ H Q=>wi σ H fun J H1=>∀p,H1 p=none->∃W:Nat->Nat->List V->St->Hp->Prop,(∃m,W 0 m [] (capσ σ k cap) (upd H1 p (.lst []))) /\
 ∀i m ys σc H2,W i m ys σc H2->H2 p=some (.lst ys)/\((J.stop i H2/\Q (.ref p) H2)\/(J.go i H2/\∀x H3,J.yld i H2 x H3->g x σc H3 fun σ3 H4=>tt σ3 H4 fun b H4'=>if b=true then te σ3 H4' fun v H5 =>
  H5 p=some (.lst ys)/\ys.length<sizeLine/\∃m',m'<m/\W (i+1) m' (ys ++ [v]) σ3 (upd H5 p (.lst (ys ++ [v])))
  else ∃m',m'<m/\W (i+1) m' ys σ3 H4'))
section
variable{X:Cx}{elt ct iter tg:Expr}{scope:Scope}{pos:Pos}{wi:TI}{g:TG}{tt:TT}{te:TE}{cl:List (Str×Addr)}
theorem Zhb{pins:List (Addr×Obj)}{σ : St}{H2:Hp}{s2:Shared}{it:Addr}{fp:List Addr}{tnn:Nat->Heap->Prop}{J:It}{R:Addr->Hp->Prop}{use:Option (Value->Sem Unit)}{Qp:Value->Shared->Prop}(tn:List Str)(cap:List (Str×Nat))(hg:∀C fp s H,PG (ZaJ X (tn++cap.map (·.1)) scope cl C fp s H) tg g)(ht:∀C fp s H,PT (ZaJ X (tn++cap.map (·.1)) scope cl C fp s H) ct tt)(he:∀C fp s H,PE (ZaJ X (tn++cap.map (·.1)) scope cl C fp s H) elt te)(hc:X.calm=true)(hcell:∀y∈scope.names,y.2 ≠ .cell)(hk:scope.kind=.function)(hcl:∀x c,cl.lookup x=some c->X.env.cells.lookup x=some c)(hhas:∀C x,((compEnvC scope cl C X.env).kindOf x=some .cell\/(compEnvC scope cl C X.env).kindOf x=some .free)->∃c,cl.lookup x=some c)(hcap:∀C,∀p∈cap,X.N[p.2]?= some p.1/\X.env.scope.names.lookup p.1=some .cell/\((compEnvC scope cl C X.env).kindOf p.1=some .cell\/(compEnvC scope cl C X.env).kindOf p.1=some .free))
  (I2:Inv X pins σ H2 s2) (T:Turn X.prog X.w X.K tg J fp it tnn) (st2:tnn 0 s2.heap) (f2:∀b∈fp,ZcK X pins H2 b) (q2:∀p,H2 p=none->∃W:Nat->Nat->List V->St->Hp->Prop,(∃m,W 0 m [] (capσ σ tn.length cap) (upd H2 p (.lst []))) /\
 ∀i m ys σc H2,W i m ys σc H2->H2 p=some (.lst ys)/\((J.stop i H2/\R p H2)\/(J.go i H2/\∀x H3,J.yld i H2 x H3->g x σc H3 fun σ3 H4=>tt σ3 H4 fun b H4'=>if b=true then te σ3 H4' fun v H5=>H5 p=some (.lst ys)/\ys.length<sizeLine/\∃m',m'<m/\W (i+1) m' (ys ++ [v]) σ3 (upd H5 p (.lst (ys ++ [v]))) else ∃m',m'<m/\W (i+1) m' ys σ3 H4')))
  (hfin:∀(s3:Shared)(H3:Hp),Inv X pins σ H3 s3->(∀b∈fp,ZcK X pins H3 b)->∀(acc:Addr)(σ6:St)(H6:Hp)(s6:Shared),Inv (ZaJ X (tn++cap.map (·.1)) scope cl s3.heap.objs.size fp s3 H3) [] σ6 H6 s6->R acc H6->compPost (model X.prog X.w) X.A X.xe use Qp (.ref acc) s3.heap.objs.size (.ok .next) s6) :
  wpAny (model X.prog X.w) X.A (newList []) (fun acc s₃=>wpAny (model X.prog X.w) X.A (newFunctionEnv scope X.env.globals cl [] X.env.qual none Value.none (some X.env)) (fun cenv s₄=>codeAny (model X.prog X.w) X.A (Code.compStart (.ListComp elt [⟨tg,iter,[ct],0⟩] scope pos) 0 (Value.ref it) acc { cenv with scope:=relabel scope X.env }) (compPost (model X.prog X.w) X.A X.xe use Qp acc cenv.locals) s₄) X.xe s₃) X.xe s2:=by
 have fresh:H2 s2.heap.objs.size=none:=I2.fresh;obtain⟨W,⟨m0,w0⟩,turn⟩:=q2 s2.heap.objs.size fresh;have lt2:∀b∈fp,b<s2.heap.objs.size:=fun b hb=>by
  obtain⟨o,ho,_⟩:=T.obj _ _ st2 b hb;exact Heap.lt_size ho
 have I3:Inv X pins σ (upd H2 s2.heap.objs.size (.lst [])) { s2 with heap:=s2.heap.push { cls:=.type "list",data:=.seq ([]:List Value).toArray } }:=I2.lnew (its:=[]) (t':=s2.toks) .nil (Nat.zero_le _);refine wpAny_newObj_type (wpAny_newFunctionEnv hcell (by intro y hy;simp at hy) (fun h1 hns1 hsb1=>?_) hk);dsimp only at hns1 hsb1 ⊢;generalize hS3:({ s2 with heap:=s2.heap.push { cls:=.type "list",dict:=none,data:=.seq ([]:List Value).toArray } }:Shared)=s3 at I3;have hh3:s2.heap.push { cls:=.type "list",dict:=none,data:=.seq ([]:List Value).toArray }=s3.heap:=by rw[<- hS3]
 rw[hh3] at hns1 hsb1 ⊢;have sz3:s3.heap.objs.size=s2.heap.objs.size+1:=by rw[<- hh3,Heap.size_push]
 have lt3:∀b∈fp,b<s3.heap.objs.size:=fun b hb=>Nat.lt_of_lt_of_le (lt2 b hb) (by rw[sz3];exact Nat.le_succ _);have f3:∀b∈fp,ZcK X pins (upd H2 s2.heap.objs.size (.lst [])) b:=fun b hb=>⟨by rw[Zi (Nat.ne_of_lt (lt2 b hb))];exact(f2 b hb).1,(f2 b hb).2⟩;have keep3:∀b o,s3.heap.get? b=some o->h1.get? b=some o:=fun b o q=>hsb1.extBut b o (Nat.ne_of_lt (Heap.lt_size q)) (Heap.get?_push_of_some _ q);have st3:tnn 0 h1:=T.keep _ _ _ st2 fun b hb o q=>keep3 b o (by rw[<- hh3];exact Heap.get?_push_of_some _ q);have I4:=(Zdm (tn:=tn) I3 hk hcl (hhas _) f3 lt3 (hcap _) hns1 keep3).tok (s2.toks+([]:List (Str×Value)).length);have loop:codeAny (model X.prog X.w) X.A (.compLoop (.ListComp elt [⟨tg,iter,[ct],0⟩] scope pos) 0 (.ref it) (.ref s2.heap.objs.size) (compEnvC scope cl s3.heap.objs.size X.env))
   (compPost (model X.prog X.w) X.A X.xe use Qp (.ref s2.heap.objs.size) s3.heap.objs.size) { s3 with heap:=h1,toks:=s2.toks+([]:List (Str×Value)).length }:=by
  refine Zhj (fun n s'=>∃i ys σ' H',Inv (ZaJ X (tn++cap.map (·.1)) scope cl s3.heap.objs.size fp s3 (upd H2 s2.heap.objs.size (.lst []))) [] σ' H' s'/\tnn i s'.heap/\(∀b∈fp,H' b=none)/\W i n ys σ' H') ?_ m0
   ⟨0,[],_,_,I4,st3,fun b hb=>(f3 b hb).1,w0⟩
  rintro n s5 ⟨i,ys,σ5,H5,I5,st5,fr5,w5⟩;obtain⟨hD,alt⟩:=turn i n ys σ5 H5 w5;have stat:∀{H':Hp},(∀b∈fp,H' b=none)->∀b∈fp,ZcK (ZaJ X (tn++cap.map (·.1)) scope cl s3.heap.objs.size fp s3 (upd H2 s2.heap.objs.size (.lst []))) [] H' b :=
   fun hn b hb=>⟨hn b hb,(I4.ok.exf b hb).1,I4.ok.exfs b hb,.inl hb,(I4.ok.exf b hb).2,fun p hp=>by cases hp⟩
  rcases alt with⟨stop,qn⟩|⟨go,step⟩
  ·refine thn (T.done (ZaJ X (tn++cap.map (·.1)) scope cl s3.heap.objs.size fp s3 (upd H2 s2.heap.objs.size (.lst []))) rfl rfl rfl hc i [] s5 σ5 H5 no0 I5 (stat fr5) st5 stop) fun r s6 ⟨hr,I6⟩=>?_;subst hr;exact hfin s3 _ I3 f3 _ σ5 H5 s6 I6 qn
  ·refine thn (T.item (ZaJ X (tn++cap.map (·.1)) scope cl s3.heap.objs.size fp s3 (upd H2 s2.heap.objs.size (.lst []))) rfl rfl rfl hc i [] s5 σ5 H5 no0 I5 (stat fr5) st5 go) fun r s6 ⟨u,hr,h6⟩=>?_;subst hr;refine thn h6 fun _ s7 ⟨x,H7,I7,r7,y7,st7,fr7⟩=>?_;have I7':=I7.pinned (stat fr7) (T.obj _ _ st7);refine thn (hg _ _ _ _ _ s7 σ5 H7 x u _ I7' r7 (step x H7 y7)) fun _ s8 ⟨σ8,H8,I8,q8⟩=>?_;refine thn (ht _ _ _ _ _ s8 σ8 H8 _ I8 q8) fun ok s8' ⟨H8',I8',q8'⟩=>?_;cases ok with
   | true =>
    simp only[if_true] at q8' ⊢;refine thn (he _ _ _ _ _ s8' σ8 H8' _ I8' q8') fun xv s9 ⟨v9,H9,I9,r9,q9⟩=>?_;obtain⟨hD9,hl9,m',hm',w9⟩:=q9;refine thn (Za3 _ s9 σ8 H9 (.ref s2.heap.objs.size) [v9] (.ref s2.heap.objs.size) [xv] (fun z H'=>z=.non/\H'=upd H9 s2.heap.objs.size (.lst (ys ++ [v9]))) I9 rfl (.cons r9 .nil)
     ⟨s2.heap.objs.size,ys,v9,rfl,rfl,hD9,hl9,rfl,rfl⟩) fun z s10 ⟨zv,H10,I10,_,_,eH⟩=>?_
    subst eH;refine⟨m',hm',i+1,ys ++ [v9],σ8,_,I10.unpinned,T.keep _ _ _ st7 fun b hb o q=>(I10.pin (b,o) (List.mem_append_right _ (List.mem_append_right _ (ZaZ hb q)))).1,fun b hb=>?_,w9⟩;obtain⟨o,q,d⟩:=T.obj _ _ st7 b hb;exact(I10.pin (b,o) (List.mem_append_right _ (List.mem_append_right _ (ZaZ hb q)))).2.1
   | false =>
    simp only[Bool.false_eq_true,if_false] at q8' ⊢;obtain⟨m',hm',w9⟩:=q8';refine⟨m',hm',i+1,ys,σ8,_,I8'.unpinned,T.keep _ _ _ st7 fun b hb o q=>(I8'.pin (b,o) (List.mem_append_right _ (List.mem_append_right _ (ZaZ hb q)))).1,fun b hb=>?_,w9⟩;obtain⟨o,q,d⟩:=T.obj _ _ st7 b hb;exact(I8'.pin (b,o) (List.mem_append_right _ (List.mem_append_right _ (ZaZ hb q)))).2.1
 subst hS3;exact codeAny_compStart_list loop (T.self X.A 0 _ _ _ st3 loop)
theorem Zci(tn:List Str)(cap:List (Str×Nat))(hi:PI X tg iter wi)(hg:∀C fp s H,PG (ZaJ X (tn++cap.map (·.1)) scope cl C fp s H) tg g)(ht:∀C fp s H,PT (ZaJ X (tn++cap.map (·.1)) scope cl C fp s H) ct tt)(he:∀C fp s H,PE (ZaJ X (tn++cap.map (·.1)) scope cl C fp s H) elt te)
  (hc:X.calm=true) (hclos:closureFor scope X.env=pure cl) (hcell:∀y∈scope.names,y.2 ≠ .cell) (hk:scope.kind=.function) (hnames:∀y∈scope.names,y.2=.local->scope.names.lookup y.1=some .local)
  (hcl:∀x c,cl.lookup x=some c->X.env.cells.lookup x=some c)
  (hhas:∀C x,((compEnvC scope cl C X.env).kindOf x=some .cell\/(compEnvC scope cl C X.env).kindOf x=some .free)->∃c,cl.lookup x=some c)
  (hcap:∀C,∀p∈cap,X.N[p.2]?= some p.1/\X.env.scope.names.lookup p.1=some .cell/\((compEnvC scope cl C X.env).kindOf p.1=some .cell\/(compEnvC scope cl C X.env).kindOf p.1=some .free))
  (hs:∀v,foldedSetIterable iter X.env v=pure v):PE X (.ListComp elt [⟨tg,iter,[ct],0⟩] scope pos) (Zlq wi tn.length cap g tt te):=by
 intro pins s σ H Q I h;rw[eval_ListComp];refine wpAny_comprehension_free (use:=none) rfl hs hclos hk hnames (thn (hi pins s σ H _ I h) fun v s1 h1=>thn h1 fun itv s2 h2=>?_);obtain⟨it,fp,tnn,J,H2,e,I2,T,st2,f2,q2⟩:=h2;subst e;refine Zhb (R:=fun p H6=>Q (.ref p) H6) tn cap hg ht he hc hcell hk hcl hhas hcap I2 T st2 f2 q2 fun s3 H3 I3 f3 acc σ6 H6 s6 I6 q6=>?_;obtain⟨m,hn,_⟩:=I6.loc;refine⟨m,hn,fun h' sb=>?_⟩;have nC:∀b o,s3.heap.get? b=some o->b≠s3.heap.objs.size:=fun b o q=>Nat.ne_of_lt (Heap.lt_size q);have u:Un (frs X.stack) fp H3 H6 s3.heap h':=by
  have u0:=I6.base;refine⟨fun b o q n hb hx=>(sb.2 b (nC b o q)).trans (u0.keep b o q n hb hx),fun b o q n hb hx=>?_,u0.free,fun b o q hx=>?_,u0.tups,u0.frzs,u0.tbls⟩
  ·obtain⟨sl,e⟩:=u0.slot b o q n hb hx;exact⟨sl,(sb.2 b (nC b o q)).trans e⟩
  ·obtain⟨o',e⟩:=u0.there b o q hx;exact⟨o',(sb.2 b (nC b o q)).trans e⟩
 have free6:H6 s3.heap.objs.size=none:=I6.free;have ok6:HOk X.prog X.w H6 h':=fun b o q=>(I6.hok b o q).stay (fun c v hcv r=>(sb.2 c (by
  rcases hcv with z|z
  ·rw[z];exact Zm q free6
  ·exact Zm z free6)).trans r) (fun _ q=>q) fun _ _ q=>q
 have I':=I3.call (g':=s6.gens) (d':=s6.drawn) (t':=s6.toks) (ch:=fp) u ok6 I6.bare fun b hb=>⟨(f3 b hb).2.2.2.1,(f3 b hb).2.1,(f3 b hb).2.2.2.2.1,(f3 b hb).2.2.2.2.2⟩;have e:({ s6 with heap:=h' }:Shared)= { s3 with heap:=h',gens:=s6.gens,drawn:=s6.drawn,toks:=s6.toks }:=by
  have ho:s6.os=s3.os:=I6.os;obtain⟨a1,a2,a3,a4,a5⟩:=s6;obtain⟨b1,b2,b3,b4,b5⟩:=s3;simp only at ho;subst ho;rfl
 rw[e];exact⟨.ref _,H6,I',rfl,q6⟩
end
end L2
namespace PySem.SeqAt
open AutoSeq1 (wpAny_loadPart')
open MeetsSeq MeetsSeq2 MeetsSeq3 SeqRoads2
end PySem.SeqAt
namespace L2
open PySem PySem.Spec PyProof.Rows PySem.SeqAt
def Zdh(X:Cx):Cx where
 prog:=X.prog
 w:=X.w
 K:=X.K
 mg:=X.mg
 base:=X.base
 A:=X.A.in1
 N:=X.N
 s₀ := X.s₀
 H₀ := X.H₀
 env:=X.env
 outer:=X.outer
 stack:=X.stack
 ex:=X.ex
 fn:=X.fn
 calm:=X.calm
 pn:=X.pn
 xe:=no0
section
variable{X:Cx}{pins:List (Addr×Obj)}{σ : St}{H:Hp}{s:Shared}
theorem Cx.Ok.in1(o:X.Ok):(Zdh X).Ok :=
 ⟨o.mod,o.kind,o.glob,o.blt,o.above,o.inj,o.has,o.cab,o.hd,o.frames,o.stk,o.exf,o.bs,o.bsz,o.noex,o.exfs,o.funs,o.frf⟩
theorem Inv.in1(I:Inv X pins σ H s):Inv (Zdh X) pins σ H s:=⟨I.ok.in1,I.os,I.bare,I.base,I.loc,I.cell,I.free,I.freeC,I.pin,I.hok,I.len⟩
theorem Inv.out1(o:X.Ok)(I:Inv (Zdh X) pins σ H s):Inv X pins σ H s:=⟨o,I.os,I.bare,I.base,I.loc,I.cell,I.free,I.freeC,I.pin,I.hok,I.len⟩
end
section
variable{X:Cx}{pins:List (Addr×Obj)}{σ : St}{H:Hp}{s:Shared}{k:Nat}{f:Addr}{fd:FuncData}{ps:List Str}{sp:Sp}{Q:VK}{l p it:Addr}{xs:List V}{W:Nat->V->V->Hp->Prop}
abbrev ZmQ(X:Cx)(pins:List (Addr×Obj))(σ : St)(Q:VK):Result->Shared->Prop:=fun r s'=>match r with | .ok (.ret v)=>EP X pins σ Q v s' | .ok _=>False | .error e=>X.xe e s'
theorem ZgH{i:Nat}{x:V}{Q':Option Value->Shared->Prop}{E:Value->Shared->Prop}(I:Inv (Zdh X) pins σ H s)(st:s.heap.IsListIter it l i)(hq:SqL X.K H l xs)(hx:xs[i]?= some x)(hf:ZcK (Zdh X) pins H it)
  (h:∀u s',Inv (Zdh X) pins σ H s'->s'.heap.IsListIter it l (i+1)->RelV x u->Q' (some u) s'):wpAny (model X.prog X.w) X.A.in1 (pyNext (.ref it)) Q' E s:=by
 obtain⟨its,rv,p,hz⟩:=I.list hq;obtain⟨u,hu,ru⟩:=rv.get hx;obtain⟨f0,f1,f2,f3,f4,f5⟩:=hf;exact wpAny_pyNext_list_item st p.isList (x:=u) (by simpa using hu) fun h' st' sb=>h u _ (I.turned (t':=s.toks) (fun b o hb e=>(sb.2 b hb).trans e) f0 f1 f3 f4 f5) st' ru
theorem ZiB{i:Nat}{Q':Option Value->Shared->Prop}{E:Value->Shared->Prop}(hc:X.calm=true)(I:Inv (Zdh X) pins σ H s)(st:s.heap.IsListIter it l i)(hq:SqL X.K H l xs)(hx:xs.length<=i)(hf:ZcK (Zdh X) pins H it)
  (h:∀s',Inv (Zdh X) pins σ H s'->Q' none s'):wpAny (model X.prog X.w) X.A.in1 (pyNext (.ref it)) Q' E s:=by
 obtain⟨its,rv,p,hz⟩:=I.list hq;obtain⟨f0,f1,f2,f3,f4,f5⟩:=hf;have hl:=rv.length;exact wpAny_pyNext_list_end (I.ok.hd hc) st p.isList (by simp;lia) fun h' eb=>h _ (I.turned (t':=s.toks) (fun b o hb e=>eb b o hb e) f0 f1 f3 f4 f5)
end
section
variable{X:Cx}{pins:List (Addr×Obj)}{σ : St}{H:Hp}{s:Shared}{k:Nat}{f:Addr}{fd:FuncData}{ps:List Str}{sp:Sp}{Q:VK}{l p it:Addr}{xs:List V}{W:Nat->V->V->Hp->Prop}{ud:Value}
theorem Zkf{o:HO}(h:ZcK X pins H it)(hp:∃u,H p=some u):ZcK X pins (upd H p o) it:=by
 refine⟨?_,h.2⟩;obtain⟨u,hu⟩:=hp;rw[Zi (Zm hu h.1).symm];exact h.1
theorem Zfb{h:Heap}{i:Nat}(st:h.IsListIter it l i):∃o,h.get? it=some o/\(∀v,o.data ≠ .cell v)/\∀h':Heap,h'.get? it=some o->h'.IsListIter it l i:=by
 obtain⟨o,e,c,d⟩:=st;exact⟨o,e,fun v z=>(by rw[d] at z;cases z),fun h' e'=>⟨o,e',c,d⟩⟩
end
end L2
namespace L2
open PySem PySem.Spec PyProof.Rows
def CW(n:Nat)(Pv:Nat->List V->St->Hp->Prop):Nat->Nat->List V->St->Hp->Prop:=fun i m ys σ H=>m=n-i/\i<=n/\Pv i ys σ H
theorem CW.next{n i:Nat}{Pv:Nat->List V->St->Hp->Prop}{ys:List V}{σ : St}{H:Hp}(hi:i<n)(h:Pv (i+1) ys σ H):∃m',m'<n-i/\CW n Pv (i+1) m' ys σ H:=⟨_,by lia,rfl,hi,h⟩
theorem nd1{x:Str}:[x].Nodup:=by simp
theorem ZbJ{K:PySem.W.Frag}{a p:Addr}{xs:List V}{g:TG}{te:TE}{R:Hp->Prop}{σ0:St}{H0:Hp}(Pv:Nat->List V->St->Hp->Prop)(h0:Pv 0 [] σ0 H0)
  (hl:∀i ys σ H,i<=xs.length->Pv i ys σ H->SqL K H a xs/\H p=some (.lst ys))
  (hs:∀i ys x σ H,i<xs.length->xs[i]?= some x->Pv i ys σ H->g x σ H fun σ3 H4=>te σ3 H4 fun v H5=>H5 p=some (.lst ys)/\ys.length<sizeLine/\∃m',m'<xs.length-i/\CW xs.length Pv (i+1) m' (ys ++ [v]) σ3 (upd H5 p (.lst (ys ++ [v]))))
  (hd:∀ys σ H,Pv xs.length ys σ H->R H) :
  ∃W:Nat->Nat->List V->St->Hp->Prop,(∃m,W 0 m [] σ0 H0)/\∀i m ys σc H2,W i m ys σc H2->H2 p=some (.lst ys)/\(((Itl K a).stop i H2/\R H2)\/((Itl K a).go i H2/\∀x H3,(Itl K a).yld i H2 x H3->g x σc H3 fun σ3 H4=>te σ3 H4 fun v H5 =>
   H5 p=some (.lst ys)/\ys.length<sizeLine/\∃m',m'<m/\W (i+1) m' (ys ++ [v]) σ3 (upd H5 p (.lst (ys ++ [v]))))):=by
 refine⟨CW xs.length Pv,⟨_,rfl,Nat.zero_le _,h0⟩,?_⟩;rintro i m ys σ H ⟨rfl,hi,hp⟩;obtain⟨h1,h2⟩:=hl i ys σ H hi hp;refine⟨h2,?_⟩;by_cases hlt:i<xs.length
 ·refine .inr ⟨⟨xs,xs[i],h1,List.getElem?_eq_getElem hlt⟩,?_⟩;rintro x H3 ⟨rfl,hx⟩;exact hs i ys x σ _ hlt (hx xs h1) hp
 ·refine .inl ⟨⟨xs,h1,by lia⟩,hd ys σ H ?_⟩;have e:i=xs.length:=by lia
  rw[<- e];exact hp
theorem Zc1{scope:Scope}{env:Env}(h:∀y∈scope.names,y.2 ≠ .cell/\y.2 ≠ .free){cl:List (Str×Addr)}:∀(C:Addr)(x:Str),((compEnvC scope cl C env).kindOf x=some .cell\/(compEnvC scope cl C env).kindOf x=some .free)->∃c,cl.lookup x=some c:=by
 have key:∀(l:List (Str×NameKind))(x:Str),(∀y∈l,y.2 ≠ .cell/\y.2 ≠ .free)->∀k,(l.map fun(n,k)=>if(k ==.free&&env.scope.kind ==.function&&env.kindOf n == some .cell) then(n,.cell) else(n,k)).lookup x=some k->k ≠ .cell/\k ≠ .free:=by
  intro l
  induction l with
  | nil=>intro x _ k e;simp at e
  | cons y l ih =>
   intro x hy k e;obtain⟨n,kd⟩:=y;have hk:=hy _ (List.mem_cons_self ..);have e0:(kd == NameKind.free&&env.scope.kind ==.function&&env.kindOf n == some .cell)=false:=by
    have:(kd == NameKind.free)=false:=by
     cases kd <;> first|rfl|exact absurd rfl hk.2
    rw[this];rfl
   simp only[List.map_cons,e0,Bool.false_eq_true,if_false,List.lookup_cons] at e;cases hx:x == n with
   | true =>
    rw[hx] at e;cases e;exact hk
   | false =>
    rw[hx] at e;exact ih x (fun y hm=>hy y (List.mem_cons_of_mem _ hm)) k e
 intro C x hx;rcases hx with e|e
 ·exact absurd rfl (key _ x h _ e).1
 ·exact absurd rfl (key _ x h _ e).2
section
variable{X:Cx}{elt iter tg:Expr}{scope:Scope}{pos:Pos}{wi:TI}{g:TG}{te:TE}{cl:List (Str×Addr)}
theorem ZbR{y:Str}{py spos:Pos}{n0:Nat}(hN:X.N.Nodup)(hi0:X.N[n0]?= some y)(hx:Loc X.env.scope y)(tn:List Str)(cap:List (Str×Nat))(hi:PI X tg iter wi)(hg:∀C fp s H,PG (ZaJ X (tn++cap.map (·.1)) scope cl C fp s H) tg g)(he:∀C fp s H,PE (ZaJ X (tn++cap.map (·.1)) scope cl C fp s H) elt te)
  (hc:X.calm=true) (hclos:closureFor scope X.env=pure cl) (hcell:∀y∈scope.names,y.2 ≠ .cell) (hk:scope.kind=.function) (hnames:∀y∈scope.names,y.2=.local->scope.names.lookup y.1=some .local)
  (hcl:∀x c,cl.lookup x=some c->X.env.cells.lookup x=some c)
  (hhas:∀C x,((compEnvC scope cl C X.env).kindOf x=some .cell\/(compEnvC scope cl C X.env).kindOf x=some .free)->∃c,cl.lookup x=some c)
  (hcap:∀C,∀p∈cap,X.N[p.2]?= some p.1/\X.env.scope.names.lookup p.1=some .cell/\((compEnvC scope cl C X.env).kindOf p.1=some .cell\/(compEnvC scope cl C X.env).kindOf p.1=some .free))
  (hs:∀v,foldedSetIterable iter X.env v=pure v) (hsw:swapsWith (.ListComp elt [⟨tg,iter,[],0⟩] scope pos) (some (.Name y py)) spos.line X.env=pure true) (hf:X.fn y=true\/X.env.scope.names.lookup y=some .local:=by first|exact .inl rfl|exact .inr rfl|assumption) :
  PS X (.Assign [.Name y py] (.ListComp elt [⟨tg,iter,[],0⟩] scope pos) spos) (ZlU (Zlc wi tn.length cap g te) (ZjI n0)):=by
 intro pins s σ H D I h;rw[exec_Assign_Name_used _ _ _ _ hsw];refine wpAny_bind (wpAny_standAt (wpAny_bind ?_));show wpAny _ X.A (do let _ <- comprehension (.ListComp elt [⟨tg,iter,[],0⟩] scope pos) scope X.env _ (newList []) false (eval iter X.env) (some (assign (.Name y py) X.env))) _ _ s;refine wpAny_bind (wpAny_mono (wpAny_comprehension_free (use:=some (assign (.Name y py) X.env)) (Q:=fun _ s'=>SP X pins D .next s') rfl hs hclos hk hnames (thn (hi pins s σ H _ I h) fun v s1 h1=>thn h1 fun itv s2 h2=>?_)) (fun _ s' hq=>wpAny_pure (wpAny_pure hq)) fun _ _ e=>e)
 obtain⟨it,fp,tnn,J,H2,e,I2,T,st2,f2,q2⟩:=h2;subst e;refine Zek (R:=fun p H6=>ZjI n0 (.ref p) σ H6 (fun σ' H'=>D.nx σ' H')) tn cap hg he hc hcell hk hcl hhas hcap I2 T st2 f2 q2 fun s3 H3 I3 f3 acc σ6 H6 s6 I6 q6=>?_;obtain⟨m,hn,_⟩:=I6.loc;have I':Inv X pins σ H6 s6:=I3.call' (ch:=fp) I6.os I6.base I6.hok I6.bare fun b hb=>⟨(f3 b hb).2.2.2.1,(f3 b hb).2.1,(f3 b hb).2.2.2.2.1,(f3 b hb).2.2.2.2.2⟩;have fC:ZcK X pins H6 s3.heap.objs.size:=I3.fpOk (Nat.le_refl _) I6.free;show wpAny _ X.A (assign (.Name y py) X.env (.ref acc)) _ _ s6;refine wpAny_assign_Name (Zfy (v:=.ref acc) I' hN hi0 hx rfl (fun s7 I7 ⟨a,sb,ha⟩=>?_) hf);have nCa:s3.heap.objs.size≠a:=by
  rcases ha with z|z
  ·rw[z];exact fC.2.1
  ·exact(fC.2.2.2.2.1 _ _ z).symm
 exact⟨m,hn.sameBut sb nCa,fun h' sb'=>⟨_,H6,I7.turned (t':=s7.toks) (fun b o hb e=>(sb'.2 b hb).trans e) fC.1 fC.2.1 fC.2.2.2.1 fC.2.2.2.2.1 fC.2.2.2.2.2,q6⟩⟩
end
section
variable{κ : Type}[DecidableEq κ]
def Zct(kvs:List (κ × V))(k : κ):Option V:=(kvs.find? fun kv=>decide (kv.1=k)).map (·.2)
def putK(kvs:List (κ × V))(k : κ)(v:V):List (κ × V) :=
 if(kvs.any fun kv=>decide (kv.1=k))=true then kvs.map (fun kv=>if kv.1=k then(kv.1,v) else kv) else kvs ++ [(k,v)]
theorem ZaR{p : κ × V}{r:List (κ × V)}{k : κ}(e:p.1=k):Zct (p::r) k=some p.2:=by simp[Zct,List.find?_cons,e]
theorem ZaO{p : κ × V}{r:List (κ × V)}{k : κ}(e : ¬ p.1=k):Zct (p::r) k=Zct r k:=by simp[Zct,List.find?_cons,e]
theorem ZbU(k : κ):∀kvs:List (κ × V),(kvs.any fun kv=>decide (kv.1=k))=(Zct kvs k).isSome
 | []=>rfl
 | p::r=>by
  rw[List.any_cons];by_cases e:p.1=k
  ·simp only[ZaR e,decide_eq_true e,Bool.true_or,Option.isSome_some]
  ·rw[ZaO e,decide_eq_false e,Bool.false_or];exact ZbU k r
theorem ZgA(k j : κ)(y:V):∀kvs:List (κ × V),Zct (kvs.map fun kv=>if kv.1=k then(kv.1,y) else kv) j=(Zct kvs j).map fun x=>if j=k then y else x
 | []=>rfl
 | p::r=>by
  have ih:=ZgA k j y r;rw[List.map_cons];by_cases h:p.1=k
  ·rw[if_pos h];by_cases e:p.1=j
   ·rw[ZaR (p:=(p.1,y)) e,ZaR e,Option.map_some,if_pos (e.symm.trans h)]
   ·rw[ZaO (p:=(p.1,y)) e,ZaO e,ih]
  ·rw[if_neg h];by_cases e:p.1=j
   ·rw[ZaR (p:=p) e,ZaR e,Option.map_some,if_neg (fun z=>h (e.trans z))]
   ·rw[ZaO (p:=p) e,ZaO e,ih]
theorem ZfD(k j : κ)(y:V):∀kvs:List (κ × V),Zct kvs k=none->Zct (kvs ++ [(k,y)]) j=if j=k then some y else Zct kvs j
 | [],_=>by
  by_cases e:k=j
  ·rw[if_pos e.symm];exact ZaR (p:=(k,y)) e
  ·rw[if_neg (fun z=>e z.symm)];exact ZaO (p:=(k,y)) e
 | p::r,hn=>by
  rw[List.cons_append];have hk : ¬ p.1=k:=fun z=>by rw[ZaR z] at hn;cases hn
  rw[ZaO hk] at hn;have ih:=ZfD k j y r hn;by_cases e:p.1=j
  ·rw[ZaR e,ZaR e,if_neg (fun z=>hk (e.trans z))]
  ·rw[ZaO e,ZaO e,ih]
theorem Zjj(kvs:List (κ × V))(k j : κ)(y:V):Zct (putK kvs k y) j=if j=k then some y else Zct kvs j:=by
 unfold putK;by_cases a:(kvs.any fun kv=>decide (kv.1=k))=true
 ·rw[if_pos a,ZgA];rw[ZbU] at a;by_cases e:j=k
  ·obtain⟨x,hx⟩:=Option.isSome_iff_exists.mp a;rw[if_pos e,e,hx,Option.map_some,if_pos rfl]
  ·rw[if_neg e];cases Zct kvs j with
   | none=>rfl
   | some x=>rw[Option.map_some,if_neg e]
 ·rw[if_neg a];refine ZfD k j y kvs ?_;rw[ZbU] at a;cases q:Zct kvs k with
  | none=>rfl
  | some x=>rw[q] at a;exact(a rfl).elim
theorem Zcw(kvs:List (κ × V))(k : κ)(v:V):(putK kvs k v).length<=kvs.length+1:=by
 unfold putK
 split
 ·rw[List.length_map];lia
 ·rw[List.length_append,List.length_cons,List.length_nil];lia
theorem ZeY{kvs:List (κ × V)}{k : κ}(v:V)(h:Zct kvs k=none):putK kvs k v=kvs ++ [(k,v)]:=by
 unfold putK;rw[ZbU,h];exact if_neg (by decide)
theorem Ze2.isSome_eq{o:Option V}{u:Option Value}(r:Ze2 o u):o.isSome=u.isSome:=by
 cases o with
 | none=>cases u with
  | none=>rfl
  | some _=>exact(show False from r).elim
 | some _=>cases u with
  | none=>exact(show False from r).elim
  | some _=>rfl
theorem KV.val{kvs:List (κ × V)}{vs:List (κ × Value)}(r:KV kvs vs)(k : κ):Ze2 (Zct kvs k) (valueAt vs k):=by
 unfold KV at r
 induction r with
 | nil=>exact True.intro
 | @cons p q ps qs h t ih =>
  obtain⟨h1,h2⟩:=h;by_cases e:p.1=k
  ·have e':q.1=k:=h1.symm.trans e;have b:valueAt (q::qs) k=some q.2:=by simp[valueAt,List.find?_cons,e']
   rw[ZaR e,b];exact h2
  ·have e' : ¬ q.1=k:=fun z=>e (h1.trans z);have b:valueAt (q::qs) k=valueAt qs k:=by simp[valueAt,List.find?_cons,e']
   rw[ZaO e,b];exact ih
theorem KV.any{kvs:List (κ × V)}{vs:List (κ × Value)}(r:KV kvs vs)(k : κ):(kvs.any fun kv=>decide (kv.1=k))=vs.any fun kv=>decide (kv.1=k):=by
 unfold KV at r
 induction r with
 | nil=>rfl
 | cons h t ih=>rw[List.any_cons,List.any_cons,ih,h.1]
theorem KV.repl{kvs:List (κ × V)}{vs:List (κ × Value)}(r:KV kvs vs)(k : κ){y:V}{u:Value}(ry:RelV y u) :
  KV (kvs.map fun kv=>if kv.1=k then(kv.1,y) else kv) (vs.map fun kv=>if kv.1=k then(kv.1,u) else kv):=by
 unfold KV at r ⊢
 induction r with
 | nil=>exact .nil
 | @cons p q ps qs h t ih =>
  rw[List.map_cons,List.map_cons];refine .cons ?_ ih;obtain⟨h1,h2⟩:=h;by_cases e:p.1=k
  ·rw[if_pos e,if_pos (h1.symm.trans e)];exact⟨h1,ry⟩
  ·rw[if_neg e,if_neg (fun z=>e (h1.trans z))];exact⟨h1,h2⟩
theorem KV.put{kvs:List (κ × V)}{vs:List (κ × Value)}(r:KV kvs vs)(k : κ){y:V}{u:Value}(ry:RelV y u):KV (putK kvs k y) (stored vs k u):=by
 unfold putK stored;rw[r.any k];by_cases e:(vs.any fun kv=>decide (kv.1=k))=true
 ·rw[if_pos e,if_pos e];exact r.repl k ry
 ·rw[if_neg e,if_neg e];exact Paired.snoc r ⟨rfl,ry⟩
theorem KV.length{kvs:List (κ × V)}{vs:List (κ × Value)}(r:KV kvs vs):kvs.length=vs.length:=Paired.length r
end
theorem Zf6{P:Program}{w:World}{k:Key}{u:Value}(r:RelV (kV k) u):(ZaB P w).is k u=true:=by
 cases k with
 | inl i=>obtain⟨t,e⟩:=(show ∃t,u=Value.int i t from r);subst e;exact ZfV P w i t
 | inr x=>obtain⟨t,e⟩:=(show ∃t,u=Value.str x t from r);subst e;exact ZfH P w x t
theorem Zfk{P:Program}{w:World}:∀{ks:List Key}{us:List Value},Vals (ks.map kV) us->ItemsAre (ZaB P w) ks us
 | [],_,r=>by rw[List.map_nil] at r;cases r;exact .nil
 | k::ks,_,r=>by
  rw[List.map_cons] at r;cases r with
  | cons h t=>exact .cons (Zf6 h) (Zfk t)
abbrev KT(H:Hp):List (List Key×V)->List (List Key×Addr×Value)->Prop:=Paired fun p q=>p.1=q.1/\H q.2.1=some (.tup (p.1.map kV))/\RelV p.2 q.2.2
theorem KT.val{H:Hp}{kvs:List (List Key×V)}{xs:List (List Key×Addr×Value)}(r:KT H kvs xs)(k:List Key):Ze2 (Zct kvs k) ((atKey xs k).map (·.2)):=by
 induction r with
 | nil=>exact True.intro
 | @cons p q ps qs h t ih =>
  obtain⟨h1,_,h2⟩:=h;by_cases e:p.1=k
  ·have e':q.1=k:=h1.symm.trans e;have b:atKey (q::qs) k=some q.2:=by simp[atKey,List.find?_cons,e']
   rw[ZaR e,b];exact h2
  ·have e' : ¬ q.1=k:=fun z=>e (h1.trans z);have b:atKey (q::qs) k=atKey qs k:=by simp[atKey,List.find?_cons,e']
   rw[ZaO e,b];exact ih
theorem KT.repl{H:Hp}{kvs:List (List Key×V)}{xs:List (List Key×Addr×Value)}(r:KT H kvs xs)(k:List Key){y:V}{u:Value}(ry:RelV y u) :
  KT H (kvs.map fun kv=>if kv.1=k then(kv.1,y) else kv) (xs.map (putAt k u)):=by
 induction r with
 | nil=>exact .nil
 | @cons p q ps qs h t ih =>
  rw[List.map_cons,List.map_cons];refine .cons ?_ ih;obtain⟨h1,h2,h3⟩:=h;unfold putAt;by_cases e:p.1=k
  ·rw[if_pos e,if_pos (h1.symm.trans e)];exact⟨h1,h2,ry⟩
  ·rw[if_neg e,if_neg (fun z=>e (h1.trans z))];exact⟨h1,h2,h3⟩
theorem KT.put{H:Hp}{kvs:List (List Key×V)}{xs:List (List Key×Addr×Value)}(r:KT H kvs xs)(k:List Key){b:Addr}{y:V}{u:Value}(hb:H b=some (.tup (k.map kV)))(ry:RelV y u) :
  KT H (putK kvs k y) (storedH xs k b u):=by
 have e:(kvs.any fun kv=>decide (kv.1=k))=(atKey xs k).isSome:=by
  rw[ZbU,(r.val k).isSome_eq,Option.isSome_map]
 unfold putK storedH;rw[e];by_cases q:(atKey xs k).isSome=true
 ·rw[if_pos q,if_pos q];exact r.repl k ry
 ·rw[if_neg q,if_neg q];exact Paired.snoc r ⟨rfl,hb,ry⟩
theorem KT.keeps{H H':Hp}{kvs:List (List Key×V)}{xs:List (List Key×Addr×Value)}(r:KT H kvs xs)(ht:∀b ys,H b=some (.tup ys)->H' b=some (.tup ys)):KT H' kvs xs :=
 Paired.mapP r fun _ _ z=>⟨z.1,ht _ _ z.2.1,z.2.2⟩
section
variable{P:Program}{w:World}{H:Hp}{h:Heap}{a:Addr}
theorem Zld{u:HO}(ok:HOk P w H h)(e:Rd H a u):Zar P w H h a u:=e.ok ok
theorem Ziy{kvs:List (Key×V)}(ok:HOk P w H h)(e:Rd H a (.dK kvs)):kvs.length<=sizeLine/\(a == sysModules)=false/\∃vs,KV kvs vs/\h.DictOf (ZaB P w) a vs :=
 show Zar P w H h a (.dK kvs) from Zld ok e
theorem ZlA{kvs:List (Key×V)}(ok:HOk P w H h)(e:H a=some (.dK kvs)):kvs.length<=sizeLine/\(a == sysModules)=false/\∃vs,KV kvs vs/\h.DictOf (ZaB P w) a vs:=Ziy ok (.inl e)
theorem ZfB{ks:List Key}(ok:HOk P w H h)(e:H a=some (.tup (ks.map kV))):(tupleKind (ZaB P w)).is h ks a:=by
 obtain⟨_,its,r,o,h1,h2,n,h3⟩:=(show Zar P w H h a (.tup (ks.map kV)) from ok a _ e);exact⟨o,its.toArray,n,h1,h2,h3,by simpa using Zfk r⟩
theorem ZiZ{kvs:List (List Key×V)}(ok:HOk P w H h)(e:Rd H a (.dT kvs)):kvs.length<=sizeLine/\(a == sysModules)=false /\
  ∃xs,KT H kvs xs/\h.DictOfH (tupleKind (ZaB P w)) a xs:=by
 obtain⟨z,y,xs,r,o,es,ep,h1,h2,h3,h4,h5⟩:=(show Zar P w H h a (.dT kvs) from Zld ok e);refine⟨z,y,xs,r,o,es,ep,h1,h2,h3,h4,fun x hx=>?_,h5⟩;have all:∀{l:List (List Key×V)}{m:List (List Key×Addr×Value)},KT H l m->∀x∈m,(tupleKind (ZaB P w)).is h x.1 x.2.1:=by
  intro l m q
  induction q with
  | nil=>intro x hx;exact nomatch hx
  | @cons p q ps qs hq t ih =>
   intro x hx;rcases List.mem_cons.mp hx with e|hx
   ·subst e;exact ZfB ok (by rw[<- hq.1];exact hq.2.1)
   ·exact ih x hx
 exact all r x hx
theorem Zme{kvs:List (List Key×V)}(ok:HOk P w H h)(e:H a=some (.dT kvs)):kvs.length<=sizeLine/\(a == sysModules)=false /\
  ∃xs,KT H kvs xs/\h.DictOfH (tupleKind (ZaB P w)) a xs:=ZiZ ok (.inl e)
end
def ZfF(H:Hp)(a:Addr)(y:V)(r:Option V):Prop :=
 (∃kvs k,Rd H a (.dK kvs)/\y=kV k/\r=Zct kvs k)\/∃kvs k b,Rd H a (.dT kvs)/\y=.ref b/\H b=some (.tup (k.map kV))/\r=Zct kvs k
def Zmx(H:Hp)(a:Addr)(y v:V)(H':Hp):Prop :=
 (∃kvs k,H a=some (.dK kvs)/\y=kV k/\kvs.length<sizeLine/\H'=upd H a (.dK (putK kvs k v))) \/
 ∃kvs k b,H a=some (.dT kvs)/\y=.ref b/\H b=some (.tup (k.map kV))/\kvs.length<sizeLine/\H'=upd H a (.dT (putK kvs k v))
theorem ZfF.k{H:Hp}{a:Addr}{kvs:List (Key×V)}{k:Key}(e:H a=some (.dK kvs)):ZfF H a (kV k) (Zct kvs k):=.inl ⟨kvs,k,.inl e,rfl,rfl⟩
section
variable{X:Cx}{pins:List (Addr×Obj)}{σ : St}{H:Hp}{s:Shared}{a:Addr}{y v:V}{u r:Value}{o:Option V}{A:Around}{E:Value->Shared->Prop}
theorem Inv.big(I:Inv X pins σ H s):sysModules<s.heap.objs.size:=by
 have h:mainGlobals<s.heap.objs.size:=(I.mod.glob.keeps I.bk).lt;exact Nat.lt_trans (by decide) h
theorem Zip{Q:Value->Shared->Prop}(hu:A.units+1<cLine)(I:Inv X pins σ H s)(g:ZfF H a y (some v))(ry:RelV y u)(h:∀w' s',Inv X pins σ H s'->RelV v w'->Q w' s') :
  wpAny (model X.prog X.w) A (getItem (.ref a) u) Q E s:=by
 rcases g with⟨kvs,k,e,ey,l⟩|⟨kvs,k,b,e,ey,eb,l⟩
 ·subst ey;obtain⟨z,hd,vs,rel,dd⟩:=Ziy I.hok e;obtain⟨w',hw,rw'⟩:=Ze2.some_of (v:=v) (o:=valueAt vs k) (by rw[l];exact rel.val k);exact wpAny_getItem_of (Zf6 ry) dd.mapOf hw (h w' _ (I.tok _) rw')
 ·subst ey;cases (show u=Value.ref b from ry);obtain⟨z,hd,xs,rel,dd⟩:=ZiZ I.hok e;obtain⟨w',hw,rw'⟩:=Ze2.some_of (v:=v) (o:=(atKey xs k).map (·.2)) (by rw[l];exact rel.val k);obtain⟨p,hp,hp2⟩:=Option.map_eq_some_iff.mp hw;refine wpAny_getItem_heap (tupleKind_room_in1 hu) (ZfB I.hok eb) dd hp ?_;rw[hp2];exact h w' _ (I.tok _) rw'
theorem ZmB{Q:Value->Shared->Prop}(hu:A.units+1<cLine)(I:Inv X pins σ H s)(g:ZfF H a y o)(ry:RelV y u)(h:∀s',Inv X pins σ H s'->Q (.bool o.isSome) s') :
  wpAny (model X.prog X.w) A (compareOp .In u (.ref a)) Q E s:=by
 rcases g with⟨kvs,k,e,ey,l⟩|⟨kvs,k,b,e,ey,eb,l⟩
 ·subst ey;obtain⟨z,hd,vs,rel,dd⟩:=Ziy I.hok e;refine wpAny_in_of (Zf6 ry) hd dd.mapOf ?_;rw[<- (rel.val k).isSome_eq,<- l];exact h _ (I.tok _)
 ·subst ey;cases (show u=Value.ref b from ry);obtain⟨z,hd,xs,rel,dd⟩:=ZiZ I.hok e;refine wpAny_in_heap (tupleKind_room_in1 hu) (ZfB I.hok eb) hd dd ?_;have q:=(rel.val k).isSome_eq;rw[Option.isSome_map] at q;rw[<- q,<- l];exact h _ (I.tok _)
theorem ZkY{Q:Value->Shared->Prop}(hu:A.units+1<cLine)(I:Inv X pins σ H s)(g:ZfF H a y o)(ry:RelV y u)(h:∀s',Inv X pins σ H s'->Q (.bool (!o.isSome)) s') :
  wpAny (model X.prog X.w) A (compareOp .NotIn u (.ref a)) Q E s:=by
 rcases g with⟨kvs,k,e,ey,l⟩|⟨kvs,k,b,e,ey,eb,l⟩
 ·subst ey;obtain⟨z,hd,vs,rel,dd⟩:=Ziy I.hok e;refine wpAny_notIn_of (Zf6 ry) hd dd.mapOf ?_;rw[<- (rel.val k).isSome_eq,<- l];exact h _ (I.tok _)
 ·subst ey;cases (show u=Value.ref b from ry);obtain⟨z,hd,xs,rel,dd⟩:=ZiZ I.hok e;refine wpAny_notIn_heap (tupleKind_room_in1 hu) (ZfB I.hok eb) hd dd ?_;have q:=(rel.val k).isSome_eq;rw[Option.isSome_map] at q;rw[<- q,<- l];exact h _ (I.tok _)
theorem ZiF{h':Heap}{t':Nat}{ob:HO}(I:Inv X pins σ H s)(mu:Mut (H a))(hs:Heap.SameBut a s.heap h')(he:∃q,h'.get? a=some q)(new:Zar X.prog X.w (upd H a ob) h' a ob) :
  Inv X pins σ (upd H a ob) { s with heap:=h',toks:=t' } :=
 I.write (x:=a) (e:=a) mu (.inl rfl) (fun b q hb z=>(hs.2 b hb).trans z) he new
theorem Zk1{P:Program}{w:World}{H':Hp}{h':Heap}{kvs:List (Key×V)}{vs:List (Key×Value)}(z:kvs.length<=sizeLine)(hd:(a == sysModules)=false)(rel:KV kvs vs)(dd:h'.DictOf (ZaB P w) a vs) :
  Zar P w H' h' a (.dK kvs):=⟨z,hd,vs,rel,dd⟩
theorem ZiI{H':Hp}{Q:Unit->Shared->Prop}(hu:A.units+1<cLine)(I:Inv X pins σ H s)(g:Zmx H a y v H')(ry:RelV y u)(rv:RelV v r)(h:∀s',Inv X pins σ H' s'->Q () s') :
  wpAny (model X.prog X.w) A (setItem (.ref a) u r) Q E s:=by
 rcases g with⟨kvs,k,e,ey,l,eH⟩|⟨kvs,k,b,e,ey,eb,l,eH⟩
 ·subst ey eH;obtain⟨z,hd,vs,rel,dd⟩:=ZlA I.hok e;have hz:vs.length<=sizeLine:=by rw[<- rel.length];exact z
  have hl:(putK kvs k v).length<=sizeLine:=by have:=Zcw kvs k v;lia
  refine wpAny_setItem_pairs (hsz:=hz) (Zf6 ry) dd fun h' dd' hs=>h _ ?_;have he:∃q,h'.get? a=some q:=let ⟨q,_,_,hq,_⟩:=dd';⟨q,hq⟩;exact ZiF I (by rw[e];exact True.intro) hs he (Zk1 hl hd (rel.put k rv) dd')
 ·subst ey eH;cases (show u=Value.ref b from ry);obtain⟨z,hd,xs,rel,dd⟩:=Zme I.hok e;have hz:xs.length<=sizeLine:=by rw[<- Paired.length rel];exact z
  have hl:(putK kvs k v).length<=sizeLine:=by have:=Zcw kvs k v;lia
  refine wpAny_setItem_heap (hsz:=hz) (tupleKind_room_in1 hu) (ZfB I.hok eb) dd fun h' dd' hs=>h _ ?_;obtain⟨q,es,ep,hq,h2,h3,h4,_,h5⟩:=dd';refine ZiF I (by rw[e];exact True.intro) hs ⟨q,hq⟩ ⟨hl,hd,_,(rel.put k eb rv).keeps fun c ys ec=>?_,q,es,ep,hq,h2,h3,h4,h5⟩;rw[Zi (Zl0 ec e (fun z=>nomatch z))]
  exact ec
end
def Zl6(i:Expr):Prop := ∀ov iv,subscripted i false ov iv=operate [ov,iv] (getItem ov iv)
theorem ZiL{prog:Program}{w:World}{A:Around}{E:Value->Shared->Prop}{s:Shared}{env:Env}{value slice:Expr}{pos:Pos}{T id:String}{Q:Value->Shared->Prop}
  (hl:typeLookup (.type T) "__getitem__" = pure (some (.builtin id))) (hs:Zl6 slice)
  (h:wpAny (model prog w) A (eval value env) (fun o s₁=>wpAny (model prog w) A (eval slice env) (fun i s₂=>s₂.TypeIs o T/\wpAny (model prog w) A (getItem o i) Q E s₂) E s₁) E s) :
  wpAny (model prog w) A (eval (.Subscript value slice pos) env) Q E s:=by
 refine Subscript_ (wpAny_mono h (fun o s₁ h₁=>wpAny_mono h₁ (fun i s₂ h₂=>?_) fun _ _ x=>x) fun _ _ x=>x);obtain⟨hT,h₂⟩:=h₂;unfold subscriptTail;refine wpAny_bind ?_;rw[getitemInPython_of_ne hT.not_modules];refine wpAny_bind (wpAny_specialOf hT hl ?_);have fin:wpAny (model prog w) A (subscripted slice false o i) (fun r s₃=>wpAny (model prog w) A (letTemporaryGo value o r >>= fun _=>pure r) Q E s₃) E s₂ := by
  rw[hs o i];exact wpAny_operating (wpAny_mono h₂ (fun r s₃ h₃=>wpAny_bind (wpAny_letTemporaryGo (wpAny_pure h₃))) fun _ _ x=>x)
 first
  | exact wpAny_pure (wpAny_bind fin)
  | exact wpAny_bind (wpAny_pure (wpAny_bind fin))
  | exact wpAny_bind fin
theorem Zgk{X:Cx}{pins:List (Addr×Obj)}{σ : St}{H:Hp}{s:Shared}{a:Addr}{y:V}{o:Option V}(I:Inv X pins σ H s)(g:ZfF H a y o):s.TypeIs (.ref a) "dict" := by
 rcases g with⟨kvs,k,e,_,_⟩|⟨kvs,k,b,e,_,_,_⟩
 ·obtain⟨_,_,vs,_,dd⟩:=Ziy I.hok e;exact dd.typeIs
 ·obtain⟨_,_,xs,_,dd⟩:=ZiZ I.hok e;exact dd.typeIs
def Zl3(td ty:TE):TE:=fun σ H Q=>td σ H fun x H1=>ty σ H1 fun y H2=>∃a v,x=.ref a/\ZfF H2 a y (some v)/\Q v H2
def ZmM(ty td:TE):TE:=fun σ H Q=>ty σ H fun y H1=>td σ H1 fun x H2=>∃a o,x=.ref a/\ZfF H2 a y o/\Q (.bl o.isSome) H2
def Zkh(ty td:TE):TE:=fun σ H Q=>ty σ H fun y H1=>td σ H1 fun x H2=>∃a o,x=.ref a/\ZfF H2 a y o/\Q (.bl (!o.isSome)) H2
def ZlQ(td ty tv:TE):TS:=fun D σ H=>tv σ H fun v H1=>td σ H1 fun x H2=>ty σ H2 fun y H3=>∃a H4,x=.ref a/\Zmx H3 a y v H4/\D.nx σ H4
section
variable{X:Cx}{o i e value:Expr}{pos pos' tpos:Pos}{td ty tv:TE}
theorem Zet(hu:X.A.units+1<cLine)(ho:PE X o td)(hi:PE X i ty)(hs:Zl6 i):PE X (.Subscript o i pos) (Zl3 td ty):=by
 intro pins s σ H Q I h;refine ZiL PySem.F.slot_dict_getitem.lookup hs (thn (ho pins s σ H _ I h) fun u s1 ⟨x,H1,I1,rx,q1⟩=>thn (hi pins s1 σ H1 _ I1 q1) fun iv s2 ⟨y,H2,I2,ry,a,v,ex,g,q2⟩=>?_);subst ex;obtain rfl:u=Value.ref a:=rx;exact⟨Zgk I2 g,Zip hu I2 g ry fun w' s3 I3 rw'=>⟨v,H2,I3,rw',q2⟩⟩
theorem Zlj(hu:X.A.units+1<cLine)(hi:PE X i ty)(ho:PE X o td):PC X .In i o (ZmM ty td):=by
 intro pins s σ H Q I h;refine thn (hi pins s σ H _ I h) fun iv s1 ⟨y,H1,I1,ry,q1⟩=>thn (ho pins s1 σ H1 _ I1 q1) fun u s2 ⟨x,H2,I2,rx,a,ov,ex,g,q2⟩=>?_;subst ex;obtain rfl:u=Value.ref a:=rx;exact ZmB hu I2 g ry fun s3 I3=>⟨.bl ov.isSome,H2,I3,rfl,q2⟩
theorem Zfx(hu:X.A.units+1<cLine)(hi:PE X i ty)(ho:PE X o td):PC X .NotIn i o (Zkh ty td):=by
 intro pins s σ H Q I h;refine thn (hi pins s σ H _ I h) fun iv s1 ⟨y,H1,I1,ry,q1⟩=>thn (ho pins s1 σ H1 _ I1 q1) fun u s2 ⟨x,H2,I2,rx,a,ov,ex,g,q2⟩=>?_;subst ex;obtain rfl:u=Value.ref a:=rx;exact ZkY hu I2 g ry fun s3 I3=>⟨.bl (!ov.isSome),H2,I3,rfl,q2⟩
theorem ZiW(hu:X.A.units+1<cLine)(ho:PE X o td)(hi:PE X i ty)(hv:PE X value tv)(hs:swapsWith value (some (.Subscript o i pos')) pos.line X.env=pure false) :
  PS X (.Assign [.Subscript o i pos'] value pos) (ZlQ td ty tv):=by
 intro pins s σ H D I h;refine wpAny_Assign_Subscript (thn (hv pins s σ H _ I h) fun r s1 ⟨v,H1,I1,rv,q1⟩=>thn (ho pins s1 σ H1 _ I1 q1) fun u s2 ⟨x,H2,I2,rx,q2⟩=>thn (hi pins s2 σ H2 _ I2 q2) fun iv s3 ⟨y,H3,I3,ry,a,H4,ex,g,q3⟩=>?_) hs;subst ex;obtain rfl:u=Value.ref a:=rx;exact ZiI hu I3 g ry rv fun s4 I4=>⟨σ,H4,I4,q3⟩
end
theorem ZjD{P:Program}{w:World}{H:Hp}(h:Heap)(hb:sysModules<h.objs.size):Zar P w H (h.push { cls:=.type "dict",data:=.dict #[] }) h.objs.size (.dK []) :=
 ⟨Nat.zero_le _,beq_eq_false_iff_ne.mpr (Ne.symm (Nat.ne_of_lt hb)),[],.nil,Heap.DictOf.new h⟩
def Zk6:TE:=fun _ H Q=>∀p,H p=none->Q (.ref p) (upd H p (.dK []))
section
variable{X:Cx}{pos:Pos}
theorem Zg1:PE X (.Dict [] [] pos) Zk6:=fun pins s σ H Q I h =>
 wpAny_Dict_empty ⟨.ref s.heap.objs.size,_,I.laid (a:=s.heap.objs.size) (o:=.dK []) (t':=s.toks) (fun _ _ q=>Heap.get?_push_of_some _ q) (Nat.le_refl _) (ZjD s.heap I.big),rfl,h _ (I.hok.fresh (Nat.le_refl _))⟩
end
structure HasM(P:Program)(w:World)(K:PySem.W.Frag)(mg:Str->Option Value)(base:Heap)(C:Addr)(m:Str)(ps:List Str)(j:Nat)(sp:Sp):Prop where
 ex:∃f fd,FnOk P w K mg base CX0 j f fd ps sp/\Binds K fd ps []/\Meth K C m f
structure HasC(P:Program)(w:World)(K:PySem.W.Frag)(mg:Str->Option Value)(base:Heap)(C:Addr)(x:Str)(ps:List Str)(j:Nat)(sp:Sp):Prop where
 ex:∃f fd,FnOk P w K mg base CX0 j f fd ps sp/\Binds K fd ps []/\Mk K C f/\mg x=some (.ref C)
section
variable{X:Cx}{C:Addr}{m x:Str}{ps:List Str}{j k:Nat}{sp:Sp}{o e:Expr}{es:List Expr}{ta:TE}{t:TA}{p pos apos:Pos}
theorem Zah{pl:Sem Bool}(G:HasM X.prog X.w X.K X.mg X.base C m ps j sp)(hr:Room k X.A)(he:PE X o ta)(c:Cls X.K C)(ha:PA X (e::es) t)(hk:j<=k:=by decide)
  (hst:starEach (e::es) X.env=(false,eval e X.env)::starEach es X.env:=by rfl) (hpl:(backTo pos (starEach es X.env)).any (·.1)=false:=by rfl)
  (ht:eval (.Call (.Attribute o m apos) (e::es) [] pos) X.env=(do
   let ov <- eval o X.env
   standAt apos.atName
   let (f,first) <- holding [ov] (getMethod ov m pl)
   callWith pos f first (backTo pos (starEach (e::es) X.env)) (backToKw pos (keywordEach [] X.env))):=by rfl):PE X (.Call (.Attribute o m apos) (e::es) [] pos) (Zjp C m sp [] E0 ta t):=by
 obtain⟨f,fd,F,b,hm⟩:=G.ex;exact Zkj (pl:=pl) he c hm (F.room hk) hr b .nil ZjL ha hst hpl ht
theorem Zdv{pl:Sem Bool}(G:HasM X.prog X.w X.K X.mg X.base C m ps j sp)(hr:Room k X.A)(he:PE X o ta)(c:Cls X.K C)(hk:j<=k:=by decide)
  (ht:eval (.Call (.Attribute o m apos) [] [] pos) X.env=(do
   let ov <- eval o X.env
   standAt apos.atName
   let (f,first) <- holding [ov] (getMethod ov m pl)
   callWith pos f first (backTo pos (starEach [] X.env)) (backToKw pos (keywordEach [] X.env))):=by rfl):PE X (.Call (.Attribute o m apos) [] [] pos) (Zjp C m sp [] E0 ta Zga):=by
 obtain⟨f,fd,F,b,hm⟩:=G.ex;exact Zjs (pl:=pl) he c hm (F.room hk) hr b .nil ZjL ht
end
theorem ZcY{X:Cx}:Zbq X (.type "int") (fun xs H Q=>∃b,xs=[.bl b]/\Q (.int (if b=true then 1 else 0)) H):=by
 intro pins s σ H xs us Q I r h;obtain⟨b,rfl,q⟩:=h;obtain⟨u,rfl,ru⟩:=vals1 r;cases ru;exact call_int_bool ⟨.int (if b=true then 1 else 0),H,I.tok _,⟨_,rfl⟩,q⟩
end L2
namespace FgM
end FgM
namespace L2
open PySem PySem.Spec PyProof.Rows
theorem FnOk.none{P:Program}{w:World}{K:PySem.W.Frag}{mg:Str->Option Value}{base:Heap}{CX:CXT}{k:Nat}{f:Addr}{fd:FuncData}{ps:List Str}{sp:Sp}(h:∀vs H Q E,¬ sp vs H Q E):FnOk P w K mg base CX k f fd ps sp :=
 ⟨fun vs H Q E z=>absurd z (h vs H Q E),fun A outer s H args us vs Q E hr e0 hb r z=>absurd z (h vs H Q E)⟩
inductive RowsV:List DictEntry->List (Str×V)->Prop
 | nil:RowsV [] []
 | cons {e:DictEntry} {x:Str} {t:Tok} {v:V} {es:List DictEntry} {D:List (Str×V)}:e.key=.str x t->RelV v e.val->RowsV es D->RowsV (e::es) ((x,v)::D)
def KTab(K:PySem.W.Frag)(A:Addr)(D:List (Str×V)):Prop := ∃(es:Array DictEntry)(ep:Nat)(sl:Array (Option Value)),K.lookup A=some ⟨.type "dict",none,.dict es ep,sl⟩/\RowsV es.toList D
theorem RowsV.exact{es:List DictEntry}{D:List (Str×V)}(h:RowsV es D):(es.all fun e=>isExactStrKey e.key)=true:=by
 induction h with
 | nil=>rfl
 | cons hk _ _ ih=>rw[List.all_cons,ih,hk];rfl
theorem RowsV.find{es:List DictEntry}{D:List (Str×V)}{k:Str}{v:V}(h:RowsV es D)(hl:D.lookup k=some v):∃(i:Nat)(e:DictEntry),es.findIdx? (fun e=>e.key.isStr k)=some i/\es[i]?= some e/\RelV v e.val:=by
 induction h with
 | nil=>cases hl
 | @cons e x t v' es D hk hv _ ih =>
  by_cases hx:k=x
  ·subst hx;have:v'=v:=by simpa[List.lookup_cons] using hl
   subst this;exact⟨0,e,by rw[List.findIdx?_cons];simp[hk,Value.isStr],rfl,hv⟩
  ·have hl':D.lookup k=some v:=by
    rw[List.lookup_cons] at hl;have:(k == x)=false:=beq_eq_false_iff_ne.mpr hx;rw[this] at hl;exact hl
   obtain⟨i,e',h1,h2,h3⟩:=ih hl';refine⟨i+1,e',?_,h2,h3⟩;rw[List.findIdx?_cons];have:e.key.isStr k=false:=by
    rw[hk];simp[Value.isStr];exact fun z=>hx z.symm
   rw[this,h1];rfl
def ZlZ(K:PySem.W.Frag)(td ty:TE):TE:=fun σ H Q=>td σ H fun x H1=>ty σ H1 fun y H2=>∃A D k v,x=.ref A/\y=.str k/\KTab K A D/\D.lookup k=some v/\Q v H2
theorem Ziq{X:Cx}{o i:Expr}{td ty:TE}{pos:Pos}(ho:PE X o td)(hi:PE X i ty)(hs:Zl6 i):PE X (.Subscript o i pos) (ZlZ X.K td ty):=by
 intro pins s σ H Q I h;refine ZiL PySem.F.slot_dict_getitem.lookup hs (thn (ho pins s σ H _ I h) fun u s1 ⟨x,H1,I1,rx,q1⟩=>thn (hi pins s1 σ H1 _ I1 q1) fun iv s2 ⟨y,H2,I2,ry,A,D,k,v,ex,ey,hK,hl,q2⟩=>?_);subst ex ey;obtain rfl:u=Value.ref A:=rx;obtain⟨t,rfl⟩:=(show ∃t,iv=Value.str k t from ry);obtain⟨es,ep,sl,hlk,hr⟩:=hK;have hob:=I2.kIn A _ hlk;have hT:s2.TypeIs (.ref A) "dict" := ⟨_,hob,rfl⟩;refine⟨hT,?_⟩;unfold getItem
 try with_reducible refine wpAny_holding ?_
 refine wpAny_bind (wpAny_sequenceKey hT (by decide) ?_);refine wpAny_bind (wpAny_callSpecial?_slot (name:=Str.ofString "__getitem__") hT PySem.F.slot_dict_getitem (wpAny_call_entry PySem.F.slot_dict_getitem hT PySem.F.entry_dict_getitem ?_ (PySem.F.args_dict_getitem_2 _ _)));show wpAny _ _ (dictGet A (.str k t) >>= _) _ _ s2;refine wpAny_bind ?_;unfold dictGet
 try with_reducible refine wpAny_holding ?_
 obtain⟨l⟩:=es;obtain⟨n,e,h1,h2,h3⟩:=hr.find hl;refine wpAny_bind (wpAny_pyHash_str (wpAny_bind (PyProof.Rows.KTD.kt_dictFind_strs (s:={ s2 with toks:=s2.toks+1 }) hob rfl (by simpa using hr.exact) ?_)));have hf:(List.toArray l).findIdx? (fun e=>e.key.isStr k)=some n:=by simpa using h1
 rw[hf];refine wpAny_bind (wpAny_dictEntries (s:={ s2 with toks:=s2.toks+1 }) hob rfl (wpAny_pure ?_));have he:(List.toArray l)[n]?= some e:=by simpa using h2
 rw[show({ toList:=l }:Array DictEntry)[n]?= some e from he];exact wpAny_pure ⟨e.val,rfl,wpAny_pure ⟨v,H2,I2.tok _,h3,q2⟩⟩
def ZmD(K:PySem.W.Frag):R2:=fun x y H Q=>∃a b k r m,x=.ref a/\y=.ref b/\SqT K H a (.str k::r)/\SqT K H b [.str m]/\Q (.bl (decide (k=m)&&r.isEmpty)) H
theorem ZiU{X:Cx}(hu:X.A.units+200<cLine):OpR X (compareOp .Eq) (ZmD X.K):=by
 intro pins s σ H x y v u Q I rx ry h;obtain⟨a,b,k,r,m,rfl,rfl,ha,hb,q⟩:=h;cases rx;cases ry;obtain⟨its,r1,p1,z1⟩:=I.tuple ha;obtain⟨its2,r2,p2,z2⟩:=I.tuple hb;cases r1 with
 | @cons _ u1 _ us1 h1 t1 =>
  cases r2 with
  | @cons _ u2 _ us2 h2 t2 =>
   cases t2;obtain⟨tk1,rfl⟩:=(show ∃t,u1=Value.str k t from h1);obtain⟨tk2,rfl⟩:=(show ∃t,u2=Value.str m t from h2);refine PySem.SeqAt.eq_tupleAt (e:=fun _=>k == m) p1 p2 (by lia) (fun j j1 j2=>?_) ⟨.bl _,H,I,rfl,?_⟩
   ·have:j=0:=by simpa using j2
    subst this;exact PySem.SeqAt.EqAt.str_str k tk1 m tk2
   ·have e1:((List.range (min (List.toArray (Value.str k tk1::us1)).size (List.toArray [Value.str m tk2]).size)).all (fun _=>k == m)&&(List.toArray (Value.str k tk1::us1)).size == (List.toArray [Value.str m tk2]).size)=(decide (k=m)&&r.isEmpty):=by
     have hl:=t1.length;have e2:(k == m)=decide (k=m):=by
      by_cases e:k=m
      ·subst e;simp
      ·rw[decide_eq_false e];exact beq_eq_false_iff_ne.mpr e
     cases r with
     | nil =>
      cases t1;simp[e2]
     | cons y ys =>
      cases t1;simp
    rw[e1];exact q
theorem lookup_mem{β : Type}{x:Str}{c : β}:∀{l:List (Str × β)},l.lookup x=some c->(x,c)∈l
 | [],h=>by cases h
 | (y,d)::l,h=>by
  rw[List.lookup_cons] at h;cases e:x == y with
  | true =>
   rw[e] at h;cases h;rw[beq_iff_eq.mp e];exact List.mem_cons_self ..
  | false =>
   rw[e] at h;exact List.mem_cons_of_mem _ (lookup_mem h)
theorem Zcv{env:Env}{cl:List (Str×Addr)}(h:∀p∈cl,env.cells.lookup p.1=some p.2):∀x c,cl.lookup x=some c->env.cells.lookup x=some c:=fun x c e=>h (x,c) (lookup_mem e)
theorem Zbz{scope:Scope}{env:Env}{cl:List (Str×Addr)}(h:∀y∈scope.names,(y.2=.cell\/y.2=.free)->∃c,cl.lookup y.1=some c):∀(C:Addr)(x:Str),((compEnvC scope cl C env).kindOf x=some .cell\/(compEnvC scope cl C env).kindOf x=some .free)->∃c,cl.lookup x=some c:=by
 have key:∀(k:NameKind)(x:Str),(k=.cell\/k=.free)->(scope.names.map fun(n,k)=>if(k ==.free&&env.scope.kind ==.function&&env.kindOf n == some .cell) then(n,.cell) else(n,k)).lookup x=some k->∃c,cl.lookup x=some c:=by
  intro k x hk e;obtain⟨⟨n,k0⟩,hy,he⟩:=List.mem_map.mp (lookup_mem e);by_cases hc:(k0 ==.free&&env.scope.kind ==.function&&env.kindOf n == some .cell)=true
  ·simp only[hc,if_true] at he;have h0:k0=.free:=by
    simp only[Bool.and_eq_true] at hc;have:=hc.1.1;cases k0 <;> first|rfl|exact absurd this (by decide)
   injection he with e1 e2;subst e1;exact h _ hy (.inr h0)
  ·simp only[hc] at he;injection he with e1 e2;subst e1 e2;exact h _ hy hk
 intro C x hx;rcases hx with e|e
 ·exact key _ x (.inl rfl) e
 ·exact key _ x (.inr rfl) e
theorem Zkm{X:Cx}{K:PySem.W.Frag}(h:X.K=K):IxR X (Zl7 K):=by
 subst h;exact ZX
def ZaK:Stmt->List Stmt
 | .For _ _ b _ _=>b
 | .While _ b _ _=>b
 | .If _ b _ _=>b
 | _=>[]
def ZfA:Stmt->List Stmt
 | .If _ _ b _=>b
 | _=>[]
theorem ZF{X:Cx}{b:List Stmt}{D:Ends}{σ : St}{H:Hp}(s:List Stmt){t:TS}(h:PSs X s t)(k:∀u,PSs X s u->u=t->∃t,PSs X b t/\t D σ H):∃t,PSs X b t/\t D σ H:=k t h rfl
theorem Zz{u t:TS}(e:u=t){D:Ends}{σ : St}{H:Hp}(h:t D σ H):u D σ H:=e ▸ h
theorem ZeH{α : Type}:∀{us:List α},us.length=1->∃a,us=[a]
 | [a],_=>⟨a,rfl⟩
theorem Zml{α : Type}{n:Nat}:∀{us:List α},us.length=n+1->∃a vs,us=a::vs/\vs.length=n
 | a::vs,h=>⟨a,vs,rfl,Nat.succ.inj h⟩
theorem ZdX{α : Type}{us:List α}(h:us.length=2):∃a b,us=[a,b]:=by
 obtain⟨a,vs,rfl,h2⟩:=Zml h;obtain⟨b,rfl⟩:=ZeH h2;exact⟨a,b,rfl⟩
theorem Zmt{α : Type}{us:List α}(h:us.length=3):∃a b c,us=[a,b,c]:=by
 obtain⟨a,vs,rfl,h2⟩:=Zml h;obtain⟨b,c,rfl⟩:=ZdX h2;exact⟨a,b,c,rfl⟩
theorem ZmI{α : Type}{us:List α}(h:us.length=4):∃a b c d,us=[a,b,c,d]:=by
 obtain⟨a,vs,rfl,h2⟩:=Zml h;obtain⟨b,c,d,rfl⟩:=Zmt h2;exact⟨a,b,c,d,rfl⟩
def XO(e:Addr)(C:Value)(d:Option Addr):Heap->Prop:=fun h=>∃oe vs,h.get? e=some oe/\oe.cls=C/\oe.dict=d/\oe.data=.fields vs/\4<vs.size
theorem XO.ext_ok{P:Program}{w:World}{H:Hp}{h:Heap}{e:Addr}{C:Value}{d:Option Addr}(x:XO e C d h):Zar P w H h e (.ext (XO e C d)):=by
 refine⟨x,?_,fun h1 h2 p k=>?_⟩
 ·obtain⟨oe,_,ho,_⟩:=x;exact⟨oe,ho⟩
 ·obtain⟨oe,vs,ho,r⟩:=p;exact⟨oe,vs,k oe ho,r⟩
theorem ZgL{H:Hp}{a:Addr}{o:HO}(h:H a=some o):upd H a o=H:=by
 funext b
 unfold upd;by_cases e:b=a
 ·subst e;rw[if_pos rfl,h]
 ·rw[if_neg e]
section
variable{X:Cx}{pins:List (Addr×Obj)}{σ : St}{H:Hp}{s:Shared}{e T:Addr}{C:Value}{d:Option Addr}{M:Model}{A:Around}{E:Value->Shared->Prop}{Q:Unit->Shared->Prop}
theorem Inv.xo(I:Inv X pins σ H s)(he:H e=some (.ext (XO e C d))):XO e C d s.heap:=(I.hok e _ he).1
theorem Inv.poke{h':Heap}{t':Nat}(I:Inv X pins σ H s)(he:H e=some (.ext (XO e C d)))(k:∀b u,b≠e->s.heap.get? b=some u->h'.get? b=some u)(x:XO e C d h'):Inv X pins σ H { s with heap:=h',toks:=t' }:=by
 have:=I.write (x:=e) (e:=e) (o:=.ext (XO e C d)) (h':=h') (t':=t') (by rw[he];trivial) (.inl rfl) k (by obtain⟨oe,_,ho,_⟩:=x;exact⟨oe,ho⟩) x.ext_ok
 rwa [ZgL he] at this
def XHead(X:Cx)(pins:List (Addr×Obj))(H:Hp)(h:Heap)(e:Addr)(fl:Value):Prop :=
 ∃T oT ts oe vs,h.get? e=some oe/\oe.data=.fields vs/\vs[1]?= some (.ref T)/\ZcK X pins H T/\h.get? T=some oT/\oT.data=.fields ts/\ts[3]?= some fl
def XSt(X:Cx)(pins:List (Addr×Obj))(H:Hp)(h:Heap)(e:Addr):Prop:=(∃oe vs,h.get? e=some oe/\oe.data=.fields vs/\vs[1]?= some .none)\/XHead X pins H h e .none
theorem ZgM{h:Heap}{a:Addr}{o:Obj}{vs:Array Value}(i:Nat)(x:Value)(ho:h.get? a=some o)(hd:o.data=.fields vs) :
  (h.update a (Obj.mapFields (·.setIfInBounds i x))).get? a=some (o.mapFields (·.setIfInBounds i x)):=Heap.get?_update_self _ ho (Obj.isFreed_of_fields (Obj.data_mapFields hd _))
theorem ZgI(o:Obj)(f:Array Value->Array Value):(o.mapFields f).dict=o.dict:=by
 obtain⟨c,d,dt,sl⟩:=o;cases dt <;> rfl
theorem XO.put{h:Heap}(x:XO e C d h)(i:Nat)(v:Value):XO e C d (h.update e (Obj.mapFields (·.setIfInBounds i v))):=by
 obtain⟨oe,vs,ho,hc,hdd,hd,hz⟩:=x;exact⟨_,_,ZgM i v ho hd,(Obj.cls_mapFields ..).trans hc,(ZgI ..).trans hdd,Obj.data_mapFields hd _,by simpa using hz⟩
theorem Inv.slots{h':Heap}(I:Inv X pins σ H s)(hs:Heap.SlotsOnly (frs X.stack) s.heap h'):Inv X pins σ H { s with heap:=h' }:=by
 refine I.call' (s':={ s with heap:=h' }) (ch:=[]) rfl ⟨fun b o q n hb _=>(hs.2.1 b hb).trans q,fun b o q _ _ _=>hs.2.2 b o q,fun _ _ _ n _=>n,fun b o q _=>let ⟨sl,e⟩:=hs.2.2 b o q;⟨_,e⟩,fun _ _ q=>q,fun _ _ _ q=>q,fun _ ps q=>⟨#[],by rw[q];simp⟩⟩ ?_ I.bare (fun b z=>absurd z (by simp));intro b o q;have hfr:=I.stkFree;refine(I.hok b o q).stay (fun c u hc z=>?_) (fun _ z=>z) (fun _ _ z=>z);have hn:c∉frs X.stack:=by
  intro hm;rcases hc with rfl|hc
  ·rw[hfr _ hm] at q;cases q
  ·rw[hfr _ hm] at hc;cases hc
 exact(hs.2.1 c hn).trans z
theorem ZgC{head:Value}{hadNext:Bool}(hA:A.frames=some (X.env::X.outer))(hstk:X.stack=X.env::X.outer)(hf:X.env.frame=some X.env.locals)(I:Inv X pins σ H s)(he:H e=some (.ext (XO e C d)))
  (h:∀h',Inv X pins σ H { s with heap:=h' }->XHead X pins H h' e (rawInt X.env.locals)->Q () { s with heap:=h' }) :
  wpAny M A (frameOf X.env >>= fun a=>entryPlaceOf X.env.locals hadNext >>= fun pl=>EntryCells.newEntry head a .none (rawInt X.env.locals) .none pl >>= fun b=>setField (.ref e) 1 b) Q E s:=by
 have hl:s.heap.FunFrames X.base (X.env::X.outer):=hstk ▸ I.stack;refine wpAny_bind (wpAny_frameOf_fun hA hl hf fun h1 hs1=>?_);have I1:Inv X pins σ H { s with heap:=h1 }:=I.slots (by rw[hstk];exact hs1);refine wpAny_bind (wpAny_entryPlaceOf fun pl hpl=>?_);unfold EntryCells.newEntry newFields;refine wpAny_bind (wpAny_newObj_type ?_ (hpl.sizeOk5 _ _ _ _ _));generalize hob:({ cls:=Value.type "traceback",dict:=none,data:=Data.fields ([head,Value.ref X.env.locals,Value.none,rawInt X.env.locals,Value.none]++(if pl.isEmpty then List.replicate 6 Value.none else pl)).toArray }:Obj)=ob
 have I2:Inv X pins σ H { s with heap:=h1.push ob }:=I1.kept (h':=h1.push ob) (t':=s.toks) fun b u q=>Heap.get?_push_of_some _ q;obtain⟨oe,vs,ho,hc,hdd,hd,hz⟩:=I2.xo he;refine wpAny_setField ho hd (by lia) (h _ (I2.poke (t':=s.toks) he (fun b u hb q=>(Heap.get?_update_other _ _ (Ne.symm hb)).trans q) ((I2.xo he).put 1 _)) ?_);have hT:(h1.push ob).get? h1.objs.size=some ob:=Heap.get?_push_size _ (by rw[<- hob];rfl);have hne:e≠h1.objs.size:=fun z=>by
  have:=I1.hok.lt he;rw[z] at this;exact absurd this (Nat.lt_irrefl _)
 refine⟨h1.objs.size,ob,([head,Value.ref X.env.locals,Value.none,rawInt X.env.locals,Value.none]++(if pl.isEmpty then List.replicate 6 Value.none else pl)).toArray,_,_,ZgM 1 _ ho hd,Obj.data_mapFields hd _,?_,I1.fpOk (Nat.le_refl _) (I1.hok.fresh (Nat.le_refl _)),(Heap.get?_update_other _ _ hne).trans hT,?_,?_⟩
 ·rw[Array.getElem?_setIfInBounds_self_of_lt (by lia)]
 ·rw[<- hob]
 ·simp
theorem Zih(hA:A.frames=some (X.env::X.outer))(hstk:X.stack=X.env::X.outer)(hf:X.env.frame=some X.env.locals)(I:Inv X pins σ H s)(he:H e=some (.ext (XO e C d)))(x:XSt X pins H s.heap e)
  (h:∀h',Inv X pins σ H { s with heap:=h' }->XHead X pins H h' e (rawInt X.env.locals)->Q () { s with heap:=h' }):wpAny M A (noteFrame (.ref e) X.env) Q E s:=by
 unfold noteFrame;simp only[hf];rcases x with⟨oe,vs,ho,hd,h1⟩|⟨T,oT,ts,oe,vs,ho,hd,h1,fT,hT,hdT,h3⟩
 ·refine wpAny_bind (wpAny_field ho hd h1 ?_);rw[if_neg (by decide)];exact ZgC hA hstk hf I he h
 ·refine wpAny_bind (wpAny_field ho hd h1 ?_);rw[if_pos (show(Value.ref T != Value.none)=true by simp)];refine wpAny_bind (wpAny_field hT hdT h3 ?_);rw[if_neg (show ¬ ((Value.none == rawInt X.env.locals)=true) by simp[rawInt])];refine wpAny_bind (wpAny_setField hT hdT (Array.getElem?_eq_some_iff.mp h3).1 ?_);obtain⟨f0,f1,f2,f3,f4,f5⟩:=fT;have I1:=I.turned (t':=s.toks) (h':=s.heap.update T (Obj.mapFields (·.setIfInBounds 3 Value.none))) (fun b u hb q=>(Heap.get?_update_other _ _ (Ne.symm hb)).trans q) f0 f1 f3 f4 f5;exact ZgC hA hstk hf I1 he h
theorem Zi8{fl:Value}(I:Inv X pins σ H s)(he:H e=some (.ext (XO e C d)))(x:XHead X pins H s.heap e fl)
  (h:∀h',Inv X pins σ H { s with heap:=h' }->XHead X pins H h' e .none->Q () { s with heap:=h' }):wpAny M A (setFlight (.ref e) none) Q E s:=by
 obtain⟨T,oT,ts,oe,vs,ho,hd,h1,fT,hT,hdT,h3⟩:=x;unfold setFlight;refine wpAny_bind (wpAny_field ho hd h1 ?_);rw[if_pos (show(Value.ref T != Value.none)=true by simp)];refine wpAny_setField hT hdT (Array.getElem?_eq_some_iff.mp h3).1 ?_;obtain⟨f0,f1,f2,f3,f4,f5⟩:=id fT;have hne:T≠e:=fun z=>by subst z;rw[f0] at he;cases he
 refine h _ (I.turned (t':=s.toks) (fun b u hb q=>(Heap.get?_update_other _ _ (Ne.symm hb)).trans q) f0 f1 f3 f4 f5) ⟨T,_,_,oe,vs,(Heap.get?_update_other _ _ hne).trans ho,hd,h1,fT,ZgM 3 _ hT hdT,Obj.data_mapFields hdT _,?_⟩;rw[Array.getElem?_setIfInBounds_self_of_lt (Array.getElem?_eq_some_iff.mp h3).1];rfl
end
abbrev XKS:=St->XK
def CXE(P:Program)(w:World):CXT:=fun outer H s E ev s'=>∃(e:Addr)(C:Value)(d:Option Addr)(H':Hp),ev=.ref e/\s'.os=s.os/\AllBare s'.gens/\Un (frs outer) [] H H' s.heap s'.heap/\HOk P w H' s'.heap /\
 H' e=some (.ext (XO e C d))/\s.heap.objs.size<=e/\(∃T oT ts oe vs,s'.heap.get? e=some oe/\oe.data=.fields vs/\vs[1]?= some (.ref T)/\H' T=none/\s.heap.objs.size<=T/\s'.heap.get? T=some oT/\oT.data=.fields ts/\ts[3]?= some .none)/\E C d H'
def Zg5(X:Cx)(E:XKS):Prop := ∀(pins:List (Addr×Obj))(σ : St)(H:Hp)(s:Shared)(e:Addr)(C:Value)(d:Option Addr),Inv X pins σ H s->H e=some (.ext (XO e C d))->(X.ex=[]->X.s₀.heap.objs.size<=e)->XSt X pins H s.heap e->E σ C d H->X.xe (.ref e) s
theorem ZbI{P:Program}{w:World}{K:PySem.W.Frag}{mg:Str->Option Value}{base:Heap}{N:List Str}{qual:Str}{scope:Scope}{f:Addr}{cd:Value}{A:Around}{outer:List Env}{s:Shared}{H:Hp}{E:XK} :
  Zg5 (ZjE (CXE P w) P w K mg base N qual scope f cd A outer s H E) (fun _=>E):=by
 intro pins σ H1 s1 e C d I he hy x hE;show wpAny _ _ (leaving _ _) _ _ s1;unfold leaving;refine wpAny_bind (Zih (X:=ZjE (CXE P w) P w K mg base N qual scope f cd A outer s H E) I.ok.frames rfl rfl I he x fun h2 I2 x2=>Zi8 I2 he x2 fun h3 I3 x3=>?_);obtain⟨T,oT,ts,oe,vs,ho,hd,h1,fT,hT,hdT,h3'⟩:=x3;refine⟨e,C,d,H1,rfl,I3.os,I3.bare,I3.base,I3.hok,he,hy rfl,⟨T,oT,ts,oe,vs,ho,hd,h1,fT.1,?_,hT,hdT,h3'⟩,hE⟩;rcases fT.2.2.2.1 with z|z
 ·exact absurd z (by show T∉([]:List Addr);simp)
 ·exact z
theorem Zhp{X:Cx}{E:XKS}(hT:Zg5 X E){pins:List (Addr×Obj)}{σ : St}{H:Hp}{s s':Shared}{ev:Value}(I:Inv X pins σ H s)(h:CXE X.prog X.w X.stack H s (E σ) ev s'):X.xe ev s':=by
 obtain⟨e,C,d,H',rfl,os,bare,un,hok,he,hes,⟨T,oT,ts,oe,vs,ho,hd,h1,hTn,hTs,hT',hdT,h3⟩,hE⟩:=h;have I1:=I.call' (ch:=[]) os un hok bare (fun b z=>absurd z (by simp));exact hT pins σ H' s' e C d I1 he (fun _=>Nat.le_trans I.sz hes) (.inr ⟨T,oT,ts,oe,vs,ho,hd,h1,I.fpOk hTs hTn,hT',hdT,h3⟩) hE
structure HasX(P:Program)(w:World)(K:PySem.W.Frag)(mg:Str->Option Value)(base:Heap)(x:Str)(ps:List Str)(k:Nat)(sp:Sp):Prop where
 ex:∃(f:Addr)(fd:FuncData),FnOk P w K mg base (CXE P w) k f fd ps sp/\Binds K fd ps []/\PySem.W.keepIn K (.ref f)=true/\mg x=some (.ref f)
def ZlE(sp:Sp)(E:XKS)(t:TA):TE:=fun σ H Q=>t σ H fun vs H1=>sp vs H1 Q (E σ)
section
variable{X:Cx}{j k:Nat}{f:Addr}{fd:FuncData}{ps:List Str}{sp:Sp}{E:XKS}{x:Str}{p pos:Pos}{e:Expr}{es:List Expr}{t:TA}
theorem Zkl{pins:List (Addr×Obj)}{σ : St}{H:Hp}{s:Shared}{Q:VK}{us:List Value}{vs:List V}(F:FnOk X.prog X.w X.K X.mg X.base (CXE X.prog X.w) k f fd ps sp)(hr:Room k X.A)(hb:Binds X.K fd ps [])(hT:Zg5 X E)
  (I:Inv X pins σ H s) (r:Vals vs us) (h:sp vs H Q (E σ)):wpAny (model X.prog X.w) X.A (call (.ref f) us) (EP X pins σ Q) X.xe s:=by
 have hl:us.length=ps.length:=by rw[<- r.length];exact F.len _ _ _ _ h
 have hbb:=hb s us I.kIn (by rw[List.append_nil];exact hl);rw[List.append_nil] at hbb;refine wpAny_call (codeAny_mono (F.run X.A X.stack s H ⟨us,[]⟩ us vs Q (E σ) hr I.env0 hbb r h) fun r s' hq=>?_);cases r with
 | error e=>exact Zhp hT I hq
 | ok fl =>
  cases fl with
  | ret u=>exact I.after hq
  | next=>exact False.elim hq
  | brk=>exact False.elim hq
  | cont=>exact False.elim hq
theorem ZeR(G:HasX X.prog X.w X.K X.mg X.base x ps j sp)(hT:Zg5 X E)(hr:Room k X.A)(hg:Gl X x)(ha:PA X (e::es) t)(hk:j<=k:=by decide)(hdb:(x == ("__debug__" : Str))=false:=by decide)
  (he:starEach (e::es) X.env=(false,eval e X.env)::starEach es X.env:=by rfl) (hpl:(backTo pos (starEach es X.env)).any (·.1)=false:=by rfl) :
  PE X (.Call (.Name x p) (e::es) [] pos) (ZlE sp E t):=by
 obtain⟨f,fd,F,b,kp,m⟩:=G.ex;intro pins s σ H Q I h;refine wpAny_Call_Name_kw (Zdf I hg m ?_ hdb);refine PySem.W.callWith_K (h₀ := X.base) I.ok.mod.kin kp (thn (ha pos pins s σ H _ I h) fun us s1 ⟨vs,H1,I1,r,q⟩=>⟨I1.kIn,?_⟩) he hpl;exact Zkl (F.room hk) hr b hT I1 r q
end
theorem Fun.okX{P:Program}{w:World}{K:PySem.W.Frag}{mg:Str->Option Value}{base:Heap}{x qual:Str}{st:Stmt}{f:Addr}{fd:FuncData}{N ps:List Str}{k:Nat}{sp:Sp}(F:Fun K x qual st f fd)(S:FnScope N ps (Zg st))(len:∀vs H Q E,sp vs H Q E->vs.length=ps.length)
  (hbody:∀(cdv:Value)(A:Around)(outer:List Env)(s:Shared)(H:Hp)(vs:List V)(Q:VK)(E:XK),Room k (A.deeper (envOfC qual (Zg st) s.heap.objs.size f cdv))->sp vs H Q E ->
   ∃t,PSs (ZjE (CXE P w) P w K mg base N qual (Zg st) f cdv A outer s H E) (Ze st) t/\t { nx:=fun _ H'=>Q .non H',rt:=Q } (start N vs) H):FnOk P w K mg base (CXE P w) (k+1) f fd ps sp:=by
 obtain⟨oc,od,kV,doc,pm,an,cdv,ct,osl,rfl,lk,hcd⟩:=F.ex;exact Zlm lk hcd S len fun A outer s H vs Q E hr hsp=>hbody cdv A outer s H vs Q E hr hsp
structure XCl(K:PySem.W.Frag)(D:Addr):Prop where
 cl:PySem.W.isClsIn K D=true
 exc:PySem.W.mroIn K D (.type "BaseException")=some true
 nt:PySem.W.instIn K (.ref D) (.type "tuple")=some false
inductive Spec(K:PySem.W.Frag)(H:Hp):V->List Addr->Prop
 | one {D:Addr}:XCl K D->Spec K H (.ref D) [D]
 | many {p:Addr} {Ds:List Addr}:SqT K H p (Ds.map V.ref)->(∀D∈Ds,XCl K D)->Spec K H (.ref p) Ds
theorem Zfw:∀{Ds:List Addr}{us:List Value},Vals (Ds.map V.ref) us->us=Ds.map Value.ref
 | [],_,.nil=>rfl
 | D::Ds,_,.cons r t=>by
  rw[Zfw t];obtain rfl:_=Value.ref D:=r;rfl
section
variable{M:Model}{A:Around}{E:Value->Shared->Prop}{s:Shared}{K:PySem.W.Frag}{D:Addr}
theorem XCl.isExc(x:XCl K D)(X:K.In s.heap){Q:Bool->Shared->Prop}(h:Q true s):wpAny M A (isExcClass (.ref D)) Q E s:=by
 have hc:=x.cl;unfold PySem.W.isClsIn PySem.W.clsIn at hc
 split at hc
 ·rename_i ho
  unfold isExcClass;refine wpAny_bind ?_;show wpAny M A (loadHead D >>= _) _ _ s;refine wpAny_bind (wpAny_loadPart (X _ _ ho) (wpAny_pure ?_));dsimp only;rw[if_pos rfl];exact(PySem.W.looks_mroIn X x.exc).here h
 ·cases hc
theorem Zgi{g:Value->PUnit->Sem (ForInStep PUnit)}:∀(Ls:List Addr),(∀D∈Ls,∀{Q:ForInStep PUnit->Shared->Prop},Q (.yield PUnit.unit) s->wpAny M A (g (.ref D) PUnit.unit) Q E s)->∀{Q:PUnit->Shared->Prop},Q PUnit.unit s->wpAny M A (forIn (Ls.map Value.ref) PUnit.unit g) Q E s
 | [],_,_,h=>wpAny_pure h
 | D::Ls,hg,_,h=>by
  rw[List.map_cons,List.forIn_cons];exact wpAny_bind (hg D (List.mem_cons_self ..) (Zgi Ls (fun y hy=>hg y (List.mem_cons_of_mem _ hy)) h))
theorem Zh5{f:Addr->Bool}{g:Value->Option Bool×Unit->Sem (ForInStep (Option Bool×Unit))}:∀(Ls:List Addr),(∀D∈Ls,∀{Q:ForInStep (Option Bool×Unit)->Shared->Prop},Q (if f D=true then .done (some true,()) else .yield (none,())) s->wpAny M A (g (.ref D) (none,())) Q E s) ->
  ∀{Q:Option Bool×Unit->Shared->Prop},Q (if Ls.any f=true then some true else none,()) s->wpAny M A (forIn (Ls.map Value.ref) ((none,()):Option Bool×Unit) g) Q E s
 | [],_,_,h=>wpAny_pure h
 | D::Ls,hg,_,h=>by
  rw[List.map_cons,List.forIn_cons];rw[List.any_cons] at h;refine wpAny_bind (hg D (List.mem_cons_self ..) ?_);cases hf:f D with
  | true =>
   rw[hf] at h;exact wpAny_pure h
  | false =>
   rw[hf] at h;exact Zh5 Ls (fun y hy=>hg y (List.mem_cons_of_mem _ hy)) h
theorem Zlr{X:Cx}{pins:List (Addr×Obj)}{σ : St}{H:Hp}{f:Addr->Bool}{C e:Addr}{oe:Obj}{Q:Bool->Shared->Prop}{v:V}{u:Value}{Ds:List Addr}(I:Inv X pins σ H s)(hv:Spec X.K H v Ds)(r:RelV v u)(he:s.heap.get? e=some oe)(hc:oe.cls=.ref C)
  (hb:∀D∈Ds,PySem.W.mroIn X.K C (.ref D)=some (f D)) (h:Q (Ds.any f) s):wpAny M A (excMatches (.ref e) u) Q E s:=by
 cases hv with
 | @one D hD =>
  obtain rfl:u=Value.ref D:=r;unfold excMatches;refine wpAny_bind ((PySem.W.looks_instIn I.kIn hD.nt).here ?_);dsimp only;rw[if_neg Bool.false_ne_true];refine wpAny_bind (wpAny_pure ?_);refine wpAny_bind (Zgi [D] (fun y hy {Q} q=>?_) (wpAny_bind (wpAny_typeOf_ref he (wpAny_bind (Zh5 (f:=f) [D] (fun y hy {Q} q=>?_) ?_)))))
  ·obtain rfl:=List.mem_singleton.mp hy;exact wpAny_bind (hD.isExc I.kIn (wpAny_pure q))
  ·rw[hc];refine wpAny_bind ((PySem.W.looks_mroIn I.kIn (hb y hy)).here ?_);cases hf:f y with
   | true=>rw[hf] at q;exact wpAny_pure q
   | false=>rw[hf] at q;exact wpAny_pure q
  ·cases hf:[D].any f with
   | true=>rw[hf] at h;exact wpAny_pure h
   | false=>rw[hf] at h;exact wpAny_pure h
 | @many p _ hp hD =>
  obtain rfl:u=Value.ref p:=r;obtain⟨its,rv,⟨o,ho,hcl,n,hd⟩,_⟩:=I.tuple hp;unfold excMatches;refine wpAny_bind (wpAny_isInstance (T := "tuple") ⟨o,ho,hcl⟩ (show isSubtype (.type "tuple") (.type "tuple")=pure true by rw[isSubtype_type];kernel_rfl) ?_);dsimp only;rw[if_pos rfl];refine wpAny_bind (wpAny_seqItems ho hd (wpAny_bind (wpAny_pure ?_)));have e1:((some its.toArray).getD #[]).toList=Ds.map Value.ref:=by
   rw[<- Zfw rv];rfl
  rw[e1];refine wpAny_bind (Zgi Ds (fun y hy {Q} q=>?_) (wpAny_bind (wpAny_typeOf_ref he (wpAny_bind (Zh5 (f:=f) Ds (fun y hy {Q} q=>?_) ?_)))))
  ·exact wpAny_bind ((hD y hy).isExc I.kIn (wpAny_pure q))
  ·rw[hc];refine wpAny_bind ((PySem.W.looks_mroIn I.kIn (hb y hy)).here ?_);cases hf:f y with
   | true=>rw[hf] at q;exact wpAny_pure q
   | false=>rw[hf] at q;exact wpAny_pure q
  ·cases hf:Ds.any f with
   | true=>rw[hf] at h;exact wpAny_pure h
   | false=>rw[hf] at h;exact wpAny_pure h
end
abbrev Cx.tr(X:Cx)(pins:List (Addr×Obj))(E:Value->Shared->Prop):Cx:={ X with pn:=X.pn++pins,xe:=E }
abbrev Cx.hd(X:Cx)(e:Addr):Cx:={ X with A:=X.A.mark (some (.ref e)),calm:=false,xe:=fun _ _=>False }
section
variable{X:Cx}{pins pins':List (Addr×Obj)}{σ : St}{H:Hp}{s:Shared}{e:Addr}{E:Value->Shared->Prop}
theorem Inv.tr(I:Inv X pins σ H s)(E:Value->Shared->Prop):Inv (X.tr pins E) [] σ H s :=
 ⟨⟨I.ok.mod,I.ok.kind,I.ok.glob,I.ok.blt,I.ok.above,I.ok.inj,I.ok.has,I.ok.cab,I.ok.hd,I.ok.frames,I.ok.stk,I.ok.exf,I.ok.bs,I.ok.bsz,I.ok.noex,I.ok.exfs,I.ok.funs,I.ok.frf⟩,I.os,I.bare,I.base,I.loc,I.cell,I.free,I.freeC,fun p hp=>I.pin p (by simpa using hp),I.hok,I.len⟩
theorem Inv.untr(I:Inv (X.tr pins E) pins' σ H s):Inv X pins σ H s :=
 ⟨⟨I.ok.mod,I.ok.kind,I.ok.glob,I.ok.blt,I.ok.above,I.ok.inj,I.ok.has,I.ok.cab,I.ok.hd,I.ok.frames,I.ok.stk,I.ok.exf,I.ok.bs,I.ok.bsz,I.ok.noex,I.ok.exfs,I.ok.funs,I.ok.frf⟩,I.os,I.bare,I.base,I.loc,I.cell,I.free,I.freeC,fun p hp=>I.pin p (List.mem_append_left _ hp),I.hok,I.len⟩
theorem ZcK.untr{T:Addr}(f:ZcK (X.tr pins E) pins' H T):ZcK X pins H T:=⟨f.1,f.2.1,f.2.2.1,f.2.2.2.1,f.2.2.2.2.1,fun p hp=>f.2.2.2.2.2 p (List.mem_append_left _ hp)⟩
theorem Inv.hd(I:Inv X pins σ H s)(e:Addr):Inv (X.hd e) pins σ H s :=
 ⟨⟨I.ok.mod,I.ok.kind,I.ok.glob,I.ok.blt,I.ok.above,I.ok.inj,I.ok.has,I.ok.cab,(fun z=>nomatch z),I.ok.frames,I.ok.stk,I.ok.exf,I.ok.bs,I.ok.bsz,I.ok.noex,I.ok.exfs,I.ok.funs,I.ok.frf⟩,I.os,I.bare,I.base,I.loc,I.cell,I.free,I.freeC,I.pin,I.hok,I.len⟩
theorem Inv.unhd(I:Inv (X.hd e) pins σ H s)(ok:X.Ok):Inv X pins σ H s:=⟨ok,I.os,I.bare,I.base,I.loc,I.cell,I.free,I.freeC,I.pin,I.hok,I.len⟩
theorem Inv.drop1{p:Addr×Obj}(I:Inv X (p::pins) σ H s):Inv X pins σ H s:=I.pins_of fun q hq=>I.pin q (List.mem_append_right _ (List.mem_cons_of_mem _ hq))
theorem SP.untr{D:Ends}{f:Flow}{s':Shared}(h:SP (X.tr pins E) pins' D f s'):SP X pins D f s':=by
 cases f with
 | next=>obtain⟨σ',H',I,q⟩:=h;exact⟨σ',H',I.untr,q⟩
 | brk=>obtain⟨σ',H',I,q⟩:=h;exact⟨σ',H',I.untr,q⟩
 | cont=>obtain⟨σ',H',I,q⟩:=h;exact⟨σ',H',I.untr,q⟩
 | ret u=>obtain⟨v,σ',H',I,r,q⟩:=h;exact⟨v,σ',H',I.untr,r,q⟩
end
def Known(e:Addr)(oe:Obj):HO:=.ext fun h=>h.get? e=some oe
theorem Zju{P:Program}{w:World}{H:Hp}{h:Heap}{e:Addr}{oe:Obj}(x:h.get? e=some oe):Zar P w H h e (Known e oe):=⟨x,⟨oe,x⟩,fun _ _ p k=>k _ p⟩
abbrev THS:=Ends->St->Hp->Addr->Obj->Prop
def PH(X:Cx)(hs:List ExceptHandler)(t:THS):Prop := ∀(pins:List (Addr×Obj))(s:Shared)(σ : St)(H:Hp)(D:Ends)(e:Addr)(oe:Obj)(T:Addr)(oT:Obj)(ts vs:Array Value),
 Inv X ((T,oT)::pins) σ H s->ZcK X pins H T->oe.data=.fields vs->vs[1]?= some (.ref T)->oT.data=.fields ts->ts[3]?= some .none->H e=some (Known e oe)->t D σ H e oe ->
 wpAny (model X.prog X.w) X.A (handleBy (.ref e) X.env hs) (SP X pins D) X.xe s
def ZmK(tb:XKS->TS)(th:THS):TS:=fun D σ H=>∃E:XKS,tb E D σ H/\∀(σ':St)(C:Value)(d:Option Addr)(H':Hp)(e:Addr)(oe:Obj),E σ' C d H'->H' e=some (.ext (XO e C d))->oe.cls=C->oe.dict=d->(∃vs,oe.data=.fields vs)->th D σ' (upd H' e (Known e oe)) e oe
section
variable{X:Cx}{body:List Stmt}{h₀ : ExceptHandler}{hs rest:List ExceptHandler}{tb:XKS->TS}{th tr:THS}{pos:Pos}
theorem Zk7(hstk:X.stack=X.env::X.outer)(hf:X.env.frame=some X.env.locals)
  (hb:∀(E:XKS)(pins:List (Addr×Obj))(E₁ : Value->Shared->Prop),Zg5 (X.tr pins E₁) E->PassesOwn (model X.prog X.w) X.A X.env E₁ -> PSs (X.tr pins E₁) body (tb E)) (hh:PH X (h₀ :: hs) th):PS X (.Try body (h₀ :: hs) [] [] pos) (ZmK tb th):=by
 intro pins s σ H D I h;obtain⟨E,h1,h2⟩:=h;refine wpAny_Try_except ?_;refine wpAny_mono (hb E pins _ ?_ PassesOwn.looking [] s σ H D (I.tr _) h1) (fun f s1 q=>?_) fun e s1 q=>q
 ·intro pins' σ' H' s1 e C d I1 he hy x hE;refine Zih (X:=X.tr pins _) (by rw[I.ok.frames,hstk]) hstk hf I1 he x fun h2' I2 x2=>Zi8 I2 he x2 fun h3 I3 x3=>?_;obtain⟨T,oT,ts,oe,vs,ho,hd,hv1,fT,hT,hdT,h3'⟩:=x3;obtain⟨oe',vs',ho',hc,hdd,_⟩:=I3.xo he;rw[ho] at ho';cases ho';have I4:=I3.untr;have I5:=I4.write (x:=e) (e:=e) (o:=Known e oe) (t':=s1.toks) (h':=h3) (by rw[he];trivial) (.inl rfl) (fun b u _ z=>z) ⟨oe,ho⟩ (Zju ho);have fT':=fT.untr;have hne:T≠e:=fun z=>by subst z;rw[fT'.1] at he;cases he
  have fT2:ZcK X pins (upd H' e (Known e oe)) T:=⟨by rw[Zi hne];exact fT'.1,fT'.2⟩;have I6:Inv X ((T,oT)::pins) σ' (upd H' e (Known e oe)) { s1 with heap:=h3 }:=I5.pins_of fun p hp=>by
   rcases List.mem_cons.mp hp with rfl|hp
   ·exact⟨hT,fT2.1,fT2.2.1,fT2.2.2.1,fun v z=>by rw[hdT] at z;cases z⟩
   ·exact I5.pin p (List.mem_append_right _ hp)
  exact hh pins _ σ' _ D e oe T oT ts vs I6 fT2 hd hv1 hdT h3' Zb (h2 σ' C d H' e oe hE he hc hdd ⟨vs,hd⟩)
 ·cases f with
  | next =>
   obtain⟨σ',H',I',q⟩:=q;exact wpAny_execs_nil ⟨σ',H',I'.untr,q⟩
  | brk=>exact SP.untr q
  | cont=>exact SP.untr q
  | ret u=>exact SP.untr q
theorem Zim{t:Expr}{name:Option Str}{sb:List Stmt}{tt:TE}(ht:∀e,PE (X.hd e) t tt)(hr:PH X rest tr):PH X (.ExceptHandler (some t) name sb pos::rest)
  (fun D σ H e oe=>tt σ H fun v H1=>∃Ds C,Spec X.K H1 v Ds/\oe.cls=.ref C/\(∀D∈Ds,PySem.W.mroIn X.K C (.ref D)=some false)/\H1 e=some (Known e oe)/\tr D σ H1 e oe):=by
 intro pins s σ H D e oe T oT ts vs I fT hd h1 hdT h3 he h;refine wpAny_handleBy_cons (codeAny_handlers_test (wpAny_mono ((ht e) ((T,oT)::pins) s σ H _ (I.hd e) h) (fun u s1 q=>?_) fun _ _ z=>z.elim)) (by intro z;cases z);obtain⟨v,H1,I1,r,Ds,C,hs,hc,hb,hk,q⟩:=q;have I1':=I1.unhd I.ok;refine Zlr (f:=fun _=>false) I1' hs r (I1'.hok e _ hk).1 hc hb ?_;have e0:Ds.any (fun _=>false)=false:=by simp
 rw[e0];have hTn:=(I1'.pin (T,oT) (List.mem_append_right _ (List.mem_cons_self ..))).2.1;exact hr pins s1 σ H1 D e oe T oT ts vs I1' ⟨hTn,fT.2⟩ hd h1 hdT h3 hk q
theorem ZcN{M:Model}{A:Around}{E:Value->Shared->Prop}{pins:List (Addr×Obj)}{σ : St}{H:Hp}{s:Shared}{i:Nat}{n:Str}{Q:Unit->Shared->Prop}(I:Inv X pins σ H s)(hN:X.N.Nodup)(hi:X.N[i]?= some n)(hk:X.env.scope.names.lookup n=some .local)
  (h:∀s',Inv X pins (σ.set i none) H s'->Q () s'):wpAny M A (bindName X.env n .none >>= fun _=>unbindBehindTheSuite X.env n pos) Q E s:=by
 obtain⟨m,hn,hl⟩:=id I.loc;have hcls:(X.env.scope.kind ==.class || (X.env.scope.kind ==.module&&X.env.locals != X.env.globals))=false:=by rw[I.ok.kind];rfl
 have hl0:X.env.kindOf n=some .local:=hk;refine wpAny_bind (wpAny_bindName (wpAny_storeName_local hl0 hn (fun ha hna hsa=>?_) hcls));unfold unbindBehindTheSuite;refine wpAny_onRaise ?_;unfold unbindName deleteName;refine wpAny_bind (wpAny_point (wpAny_bind ?_));simp only[hl0,hcls];rw[if_neg (by decide)];refine wpAny_bind (wpAny_nsDel_keeps hna fun hb v hnb hsb=>?_);simp only[if_true,Option.isSome_some,Bool.not_true,Bool.false_eq_true,if_false];refine wpAny_pure (wpAny_point (h _ ?_));have hs:=hsa.trans hsb;obtain⟨oL,_,_,hoL,_⟩:=id hn;have cne:=I.cne;refine⟨I.ok,I.os,I.bare,⟨fun b o e n hb hx=>?_,fun b o e n hb hx=>?_,I.base.free,fun b o e hx=>?_,I.base.tups,I.base.frzs,I.base.tbls⟩,⟨_,hnb,fun j y v' e1 e2 e3=>?_⟩,fun y c e=>?_,I.free,I.freeC,fun p hp=>?_,fun b ob e=>?_,by simpa using I.len⟩
 ·exact(hs.2 b (Nat.ne_of_lt (Nat.lt_of_lt_of_le (Heap.lt_size e) I.ok.above))).trans (I.base.keep b o e n hb hx)
 ·obtain⟨sl,e1⟩:=I.base.slot b o e n hb hx;exact⟨sl,(hs.2 b (Nat.ne_of_lt (Nat.lt_of_lt_of_le (Heap.lt_size e) I.ok.above))).trans e1⟩
 ·obtain⟨o',e1⟩:=I.base.there b o e hx;exact⟨o',(hs.2 b (Nat.ne_of_lt (Nat.lt_of_lt_of_le (Heap.lt_size e) I.ok.above))).trans e1⟩
 ·by_cases hj:j=i
  ·subst hj;by_cases hlt:j < σ.length
   ·rw[List.getElem?_set_self hlt] at e2;cases e2
   ·rw[List.getElem?_eq_none (by rw[List.length_set];lia)] at e2;cases e2
  ·rw[List.getElem?_set_ne (Ne.symm hj)] at e2;obtain⟨u',r',q⟩:=hl j y v' e1 e2 e3;refine⟨u',r',?_⟩;rcases q with⟨k,e⟩|⟨k,c,e,z⟩
   ·refine .inl ⟨k,?_⟩;have:y≠n:=fun e=>hj (Zew hN e1 (e ▸ hi));simp[this,e]
   ·exact .inr ⟨k,c,e,z.sameBut hs (cne y c e)⟩
 ·obtain⟨w',z⟩:=I.cell y c e;exact⟨w',z.sameBut hs (cne y c e)⟩
 ·obtain⟨e,n,ne,nf,d⟩:=I.pin p hp;exact⟨(hs.2 p.1 ne).trans e,n,ne,nf,d⟩
 ·refine(I.hok b ob e).stay (fun c w' hc q=>(hs.2 c ?_).trans q) (fun _ q=>q) fun _ _ q=>q;rintro rfl;rcases hc with rfl|hc
  ·rw[I.free] at e;cases e
  ·rw[I.free] at hc;cases hc
def unb(D:Ends)(i:Nat):Ends:={ nx:=fun σ H=>D.nx (σ.set i none) H,rt:=D.rt,bk:=fun σ H=>D.bk (σ.set i none) H,ct:=fun σ H=>D.ct (σ.set i none) H }
theorem ZfG{M:Model}{A:Around}{E:Value->Shared->Prop}{s:Shared}{e T:Addr}{oe oT:Obj}{vs ts:Array Value}{Q:Unit->Shared->Prop}(ho:s.heap.get? e=some oe)(hd:oe.data=.fields vs)(h1:vs[1]?= some (.ref T))(hT:s.heap.get? T=some oT)(hdT:oT.data=.fields ts)(h3:ts[3]?= some .none)(h:Q () s) :
  wpAny M A (setFlight (.ref e) none) Q E s:=by
 unfold setFlight;refine wpAny_bind (wpAny_field ho hd h1 ?_);rw[if_pos (show(Value.ref T != Value.none)=true by simp)];refine wpAny_setField hT hdT (Array.getElem?_eq_some_iff.mp h3).1 ?_;show Q () { s with heap:=s.heap.update T (Obj.mapFields (·.setIfInBounds 3 Value.none)) };rw[Heap.update_setField_same s.heap T oT ts 3 .none hT hdT h3];exact h
end
end L2
namespace L2
open PySem PySem.Spec PyProof.Rows PySem.W
abbrev bmV:List Value:=[.type "ValueError",.type "Exception",.type "BaseException",.type "object"]
def keysOk(es:Array DictEntry):Bool:=es.toList.all fun e=>match e.key with | .str _ _=>true|_=>false
structure XMid(K:Frag)(G:Addr):Prop where
 ob:∃c0 dd cd sl oc od es ep sl',K.lookup G=some ⟨c0,dd,.cls cd,sl⟩/\K.lookup cd.ns=some ⟨oc,od,.dict es ep,sl'⟩/\keysOk es=true/\nsIn K cd.ns "__init__" = some none
structure XTop(K:Frag)(C G:Addr):Prop where
 ob:∃nm q N bs hdct sn sub ab col dd k0 k1 k2 k3 k5,K.lookup C=some (excClassObj nm q C N bs (.ref G::bmV) hdct sn sub ab col dd k0 k1 k2 k3 k5 "ValueError.__new__")
 mid:XMid K G
 call:specialIn K (.ref C) "__call__" = some (some (.builtin "type.__call__"))
 typ:instIn K (.ref C) (.type "type")=some true
 kp:keepIn K (.ref C)=true
theorem XMid.tail{K:Frag}{G:Addr}{h:Heap}(x:XMid K G)(X:K.In h):OwnTail h bmV (.ref G::bmV):=by
 obtain⟨c0,dd,cd,sl,oc,od,es,ep,sl',h1,h2,h3,h4⟩:=x.ob;have hns:h.isNs cd.ns=true:=by
  unfold Heap.isNs;rw[X _ _ h2];have h5:=h3;unfold keysOk at h5;rw[Array.all_toList] at h5;exact h5
 have hN:=Heap.Ns.of_isNs hns;exact .own (X _ _ h1) hN (ns_none_of X hN h4) .base
theorem XTop.mro{K:Frag}{C G:Addr}(x:XTop K C G):∃cd,clsIn K C=some cd/\cd.mro=.ref C :: .ref G::bmV:=by
 obtain⟨nm,q,N,bs,hdct,sn,sub,ab,col,dd,k0,k1,k2,k3,k5,h1⟩:=x.ob;have e:clsIn K C=some { name:=nm,bases:=bs,mro:=.ref C :: .ref G::bmV,ns:=N,qualname:=q,hasDict:=hdct,slotNames:=sn,subclasses:=sub,abstract:=ab,collection:=col,hasDel:=false }:=by
  unfold clsIn;rw[h1]
 exact⟨_,e,rfl⟩
abbrev Zcd(C t:Addr):Obj:={ cls:=.ref C,data:=.fields #[.ref t,.none,.none,.none,.bool false,.none] }
abbrev Zbb(vs:List Value):Obj:={ cls:=.type "tuple",data:=.seq vs.toArray }
section
variable{prog:Program}{w:World}{A:Around}{K:Frag}{C G f:Addr}{R:Result->Shared->Prop}{s:Shared}
theorem Zha{us:List Value}{init:Value}(x:XTop K C G)(X:K.In s.heap)(hi:findIn K (.ref C) "__init__" = some (some init)) (b0:∀self,Looks (model prog w) s.heap (bindSpecial init self) (init,[self])) (hl:us.length<=sizeLine)
  (hq:codeAny (model prog w) (A.under (.builtin "type.__call__" ⟨.ref C::us,[]⟩)) (.call init ⟨.ref (s.heap.objs.size+1)::us,[]⟩) (InitBack (s.heap.objs.size+1) R)
   { s with heap:=(s.heap.push (Zbb us)).push (Zcd C s.heap.objs.size) }) :
  codeAny (model prog w) A (.call (.ref C) ⟨us,[]⟩) R s:=by
 obtain⟨hh,g,d,t,os⟩:=s;obtain⟨nm,q,N,bs,hdct,sn,sub,ab,col,dd,k0,k1,k2,k3,k5,hK⟩:=x.ob;have hC:=X _ _ hK;have T:=x.mid.tail X;have call:=looks_specialIn (M:=model prog w) X x.call;have typ:=looks_instIn (M:=model prog w) X x.typ;have i0:=looks_findIn (M:=model prog w) X hi;refine codeAny_of_tree ?_;show wpAny _ _ (callAny (.ref C) _) _ _ _;refine nd_load hC ?_;show wpAny _ _ (callAny.viaDunder (.ref C) _) _ _ _;unfold callAny.viaDunder;refine wpAny_bind (call.at ?_);dsimp only;rw[tc_bind];refine wpAny_bind (wpAny_pure (wpAny_bind (wpAny_pure ?_)));refine wpAny_pure (a:=Fin.again (.call (.builtin "type.__call__") ⟨.ref C::us,[]⟩)) ⟨rfl,?_⟩;refine codeAny_call_builtin_at (Code.quiet_builtin _ (by decide +kernel)) entry_typeCall (check_slot tc_kind tc_split typ (tc_args _ _ _) ?_)
 repeat (first|with_reducible refine wpAny_loadPart_at hC ?_|with_reducible refine wpAny_madeBy_exc hC ?_|wp_step)
 refine codeAny_call_builtin_code (Code.quiet_builtin _ F.excBase_ValueError.quiet) (wpAny_check_new_subT F.excBase_ValueError T hC (codeAny_exc_new_subT F.excBase_ValueError T hC ?_ hl));show wpAny _ _ _ _ _ _;have k:∀b o,hh.get? b=some o->((hh.push (Zbb us)).push (Zcd C hh.objs.size)).get? b=some o:=fun b o e=>Heap.get?_push_of_some _ (Heap.get?_push_of_some _ e);have hx:((hh.push (Zbb us)).push (Zcd C hh.objs.size)).get? (hh.objs.size+1)=some (Zcd C hh.objs.size):=by heap_get
 have t1:Looks (model prog w) ((hh.push (Zbb us)).push (Zcd C hh.objs.size)) (typeOf (.ref (hh.objs.size+1))) (.ref C):=(Looks.ld hx).andThen .now;have s1:Looks (model prog w) ((hh.push (Zbb us)).push (Zcd C hh.objs.size)) (isSubtype (.ref C) (.ref C)) true:=by
  obtain⟨cd,hc,hm⟩:=x.mro;refine(looks_mroIn X ?_).keeps k;unfold mroIn;rw[hc,Option.bind_some,hm];simp
 have i1:=i0.keeps k;have b1:=(b0 (.ref (hh.objs.size+1))).keeps k;unfold isInstance callSpecial? specialOf
 repeat (first|with_reducible refine wpAny_call ?_|lk)
 refine codeAny_mono hq fun r s' z=>?_;rcases r with e|(v|_|_|_) <;> first|exact z|exact z.elim|skip
 obtain⟨rfl,z⟩:=z;exact wpAny_pure (wpAny_pure z)
theorem Zmg{us:List Value}(x:XTop K C G)(X:K.In s.heap)(hi:findIn K (.ref C) "__init__" = some (some (.ref f))) (hf:isFn K (.ref f)=true) (hl:us.length<=sizeLine)
  (hq:codeAny (model prog w) (A.under (.builtin "type.__call__" ⟨.ref C::us,[]⟩)) (.call (.ref f) ⟨.ref (s.heap.objs.size+1)::us,[]⟩) (InitBack (s.heap.objs.size+1) R)
   { s with heap:=(s.heap.push (Zbb us)).push (Zcd C s.heap.objs.size) }) :
  codeAny (model prog w) A (.call (.ref C) ⟨us,[]⟩) R s:=Zha x X hi (fun self=>bind_fn X self (beq_iff_eq.mp hf)) hl hq
end
end L2
namespace L2
open PySem PySem.Spec PyProof.Rows PySem.W Builtin Builtin.ObjectAttr
section
variable{prog:Program}{w:World}{A:Around}{E:Value->Shared->Prop}{K:Frag}{C G x:Addr}{s:Shared}
theorem Zl9{ox:Obj}{vs:Array Value}{t:Addr}{v:Value}{Q:Value->Shared->Prop}(y:XTop K C G)(X:K.In s.heap)(hx:s.heap.get? x=some ox)(hc:ox.cls=.ref C)(hd:ox.data=.fields vs)(h0:vs[0]?= some (.ref t))
  (h:Q .none { s with heap:=(s.heap.push (Zbb [v])).update x (Obj.mapFields (·.setIfInBounds 0 (.ref s.heap.objs.size))) }):wpAny (model prog w) A (call (.builtin "ValueError.__init__") [.ref x,v]) Q E s:=by
 obtain⟨hh,g,d,tk,os⟩:=s;obtain⟨nm,q,N,bs,hdct,sn,sub,ab,col,dd,k0,k1,k2,k3,k5,hK⟩:=y.ob;have F0:=F.excBase_ValueError;have hx2:(hh.push (Zbb [v])).get? x=some ox:=Heap.get?_push_of_some _ hx;refine wpAny_call (codeAny_call_builtin F0.init.plain F0.initEntry (wpAny_check_init_subT F0 (y.mid.tail X) (X _ _ hK) hx hc ?_));unfold Builtin.«BaseException.__init__»;refine wpAny_bind (wpAny_newTuple ?_);unfold Builtin.BaseException.bexcPut;refine wpAny_bind (wpAny_bind (wpAny_field (s:=⟨hh.push (Zbb [v]),g,d,tk,os⟩) hx2 hd h0 (wpAny_bind (wpAny_setField (s:=⟨hh.push (Zbb [v]),g,d,tk,os⟩) hx2 hd (Array.getElem?_eq_some_iff.mp h0).1 ?_))))
 wp_walk
 exact h
theorem ZgS(a b:Value):argsOk "BaseException.__getattribute__" ⟨[a,b],[]⟩:=F.args_bexc_ga a b
theorem ZmH{ox od:Obj}{name:Str}{v:Value}{expr:Bool}{Q:Value->Shared->Prop}(X:K.In s.heap)(I:InstAt s.heap x ox C (some od))(hga:findIn K (.ref C) "__getattribute__" = some (some (.builtin "BaseException.__getattribute__")))
  (hgt:findIn K (.ref C) "__getattr__" = some none) (hm:mroIn K C (.type "BaseException")=some true) (hf:findObj K C (some od) name=some (.value v)) (hh:handedIn v=true) (h:Q v { s with toks:=s.toks+1 }):wpAny (model prog w) A (getAttr (.ref x) name expr) Q E s:=by
 obtain⟨hp,g,d,t,os⟩:=s;have L0:=I.type (M:=model prog w);have L1:=looks_findIn (M:=model prog w) X hga;have L2:=looks_find (M:=model prog w) X I hf;have L3:Looks (model prog w) hp (hookBefore (.ref C)) none:=looks_hook X ((if_pos (show onTheHeap (Value.ref C)=true from rfl)).trans hgt);have L4:Looks (model prog w) hp (isInstance (.ref x) (.type "BaseException")) true:=L0.andThen (looks_mroIn X hm);have F0:=F.excAttr_ValueError;unfold getAttr getAttrBy;refine wpAny_bind (wpAny_mkText (wpAny_holding (wpAny_bind (L0.at (wpAny_bind (L1.at ?_))))));have hne:(onTheHeap (Value.ref C)&&Value.builtin "BaseException.__getattribute__" == Value.builtin "object.__getattribute__")=false:=by
  rw[show(Value.builtin "BaseException.__getattribute__" == Value.builtin "object.__getattribute__")=false by decide +kernel,Bool.and_false]
 dsimp only;rw[hne,if_neg Bool.false_ne_true];unfold getAttrByItsOwn;refine wpAny_bind (L3.at (wpAny_bind (wpAny_attempt (wpAny_holding ?_))));unfold callGetattribute boundAndCalled;rw[show(expr&&onTheHeap (Value.builtin "BaseException.__getattribute__"))=false from Bool.and_false _,if_neg Bool.false_ne_true,F0.ga.bind];refine wpAny_bind (wpAny_pure ?_);show wpAny _ _ (call (.builtin "BaseException.__getattribute__") [.ref x,.str name t]) _ _ _;refine wpAny_call (codeAny_call_builtin F0.ga.plain F.entry_bexc_ga ?_);refine @check_slot (model prog w) _ _ ⟨hp,g,d,t+1,os⟩ "BaseException.__getattribute__" "BaseException" "__getattribute__" (.ref x) [.str name t] [] _ (by decide +kernel) (by decide +kernel) L4 (ZgS _ _) ?_;show wpAny _ _ (Builtin.«object.__getattribute__» _) _ _ _;unfold Builtin.«object.__getattribute__»;refine wpAny_bind (wpAny_pure (wpAny_bind (wpAny_pure (wpAny_bind (L0.at (wpAny_bind (L2.at (wpAny_pure ?_))))))));show wpAny _ _ (handedOut v) _ _ _;rw[handedOut_of hh];exact wpAny_pure h
theorem ZmY{ox:Obj}{vs:Array Value}{name:Str}{v:Value}{Q:Unit->Shared->Prop}(y:XTop K C G)(X:K.In s.heap)(hx:s.heap.get? x=some ox)(hc:ox.cls=.ref C)(hd:ox.data=.fields vs)(hdn:ox.dict=none)
  (hs:findIn K (.ref C) "__setattr__" = some (some (.builtin "object.__setattr__"))) (ht:findIn K (.ref C) name=some none) (hh:hasDictIn K C=true)
  (h:∀h',h'.get? x=some { ox with dict:=some s.heap.objs.size }->h'.Ns1 s.heap.objs.size (fun z=>if z=name then some v else none)->(∀b o,b≠x->s.heap.get? b=some o->h'.get? b=some o)->Q () { s with heap:=h',toks:=s.toks+2 }) :
  wpAny (model prog w) A (setAttr (.ref x) name v) Q E s:=by
 have SF:=PySem.F.store_ValueError;have I:InstAt s.heap x ox C none:=⟨hx,hc,by unfold notCls;rw[hd],by rw[hdn];trivial⟩;obtain⟨cd,hcd,hmro⟩:=y.mro;have ne:cd.mro.isEmpty=false:=by rw[hmro];rfl
 have sub:Looks (model prog w) s.heap (isInstance (.ref x) (.type "object")) true:=I.type.andThen (looks_mroIn X (by unfold mroIn;rw[hcd,Option.bind_some,if_neg (by rw[ne];decide),hmro];rfl));have hm:Looks (model prog w) s.heap (mroOf (.ref C)) cd.mro:=(looks_clsIn X hcd).andThen .now;refine set_plain X I hs ?_;have X1:K.In ({ s with toks:=s.toks+1 }:Shared).heap:=X;refine codeAny_call_builtin SF.slot.plain SF.entry (@check_slot (model prog w) _ _ { s with toks:=s.toks+1 } "object.__setattr__" "object" "__setattr__" (.ref x) [.str name s.toks,v] [] _ SF.kind SF.split sub (SF.args (.ref x) (.str name s.toks) v) ?_);rw[osa_eq,refuse_eq];have I1:InstAt ({ s with toks:=s.toks+1 }:Shared).heap x ox C none:=I;refine wpAny_bind (wpAny_bind (I1.type.here (wpAny_bind (Looks.here (s:={ s with toks:=s.toks+1 }) hm ?_))));rw[hmro,refuseLoop_ref,refuseLoop_ref,SF.passes];refine wpAny_pure (wpAny_bind (I1.type.here (wpAny_bind (Looks.here (s:={ s with toks:=s.toks+1 }) (looks_findIn X ht) (wpAny_bind (wpAny_pure ?_))))));obtain⟨cd',hcd',hdict⟩:=any_some hh;rw[hcd] at hcd';cases hcd';obtain⟨oc,odi,oda,osl⟩:=ox;dsimp only at hc hd hdn;subst hc hd hdn;dsimp only;unfold storeInOwnDict ownDictForStores instanceDict;refine wpAny_bind (wpAny_pure (wpAny_bind (wpAny_bind (wpAny_loadPart (s:={ s with toks:=s.toks+1 }) hx (wpAny_bind (Looks.here (s:={ s with toks:=s.toks+1 }) (looks_clsIn X hcd) ?_))))));rw[hdict];refine wpAny_bind (wpAny_alloc ?_);have hx1:(s.heap.push emptyDict).get? x=some ⟨.ref C,none,.fields vs,osl⟩:=Heap.get?_push_of_some _ hx;refine wpAny_bind (wpAny_update (s:={ s with heap:=s.heap.push emptyDict,toks:=s.toks+1 }) hx1 ?_);refine wpAny_pure (a:=some s.heap.objs.size) ?_;have hxD:x≠s.heap.objs.size:=Nat.ne_of_lt (Heap.lt_size hx);have hD0:(s.heap.push emptyDict).get? s.heap.objs.size=some emptyDict:=Heap.get?_push_size _ rfl;generalize hg2:(s.heap.push emptyDict).update x (fun o=>{ o with dict:=some s.heap.objs.size })=g2;have hx2:g2.get? x=some ⟨.ref C,some s.heap.objs.size,.fields vs,osl⟩:=by
  rw[<- hg2];exact Heap.get?_update_self _ hx1 rfl
 have hD2:g2.get? s.heap.objs.size=some emptyDict:=by
  rw[<- hg2,Heap.get?_update_other _ _ hxD];exact hD0
 have hk2:∀b o,b≠x->s.heap.get? b=some o->g2.get? b=some o:=fun b o hb e=>by
  rw[<- hg2,Heap.get?_update_other _ _ (Ne.symm hb)];exact Heap.get?_push_of_some _ e
 have hN:g2.Ns s.heap.objs.size (fun _=>none):=⟨emptyDict,#[],_,hD2,rfl,(fun e he=>absurd he (by simp)),fun _=>rfl⟩;unfold storeInDict;refine wpAny_bind (wpAny_pure (wpAny_bind (wpAny_nsSet1 (s:={ s with heap:=g2,toks:=s.toks+1 }) (Heap.Ns1.of_empty hN) fun h' hn2 hs2=>?_)));obtain⟨oD,esD,epD,hoD,hdD,hcD⟩:=hn2.count (PySem.Within.cons name v PySem.Within.nil);refine wpAny_bind (wpAny_lookBehind hoD (by rw[hdD];exact pastItsLine_dict (Nat.le_trans hcD (by show 1<=sizeLine+1;decide))) (wpAny_pure ?_));exact h h' ((hs2.2 x hxD).trans hx2) hn2 fun b o hb e=>(hs2.2 b (Nat.ne_of_lt (Heap.lt_size e))).trans (hk2 b o hb e)
end
end L2
namespace L2
open PySem PySem.Spec PyProof.Rows PySem.W
def Zc3(x:Addr)(C:Value)(d:Option Addr):Heap->Prop:=fun h=>∃ox vs t,h.get? x=some ox/\ox.cls=C/\ox.dict=d/\ox.data=.fields vs/\4<vs.size/\vs[0]?= some (.ref t)/\vs[1]?= some .none
theorem Zc3.ok{P:Program}{w:World}{H:Hp}{h:Heap}{x:Addr}{C:Value}{d:Option Addr}(z:Zc3 x C d h):Zar P w H h x (.ext (Zc3 x C d)):=by
 refine⟨z,?_,fun h1 h2 p k=>?_⟩
 ·obtain⟨ox,_,_,ho,_⟩:=z;exact⟨ox,ho⟩
 ·obtain⟨ox,vs,t,ho,r⟩:=p;exact⟨ox,vs,t,k ox ho,r⟩
theorem Zc3.xo{h:Heap}{x:Addr}{C:Value}{d:Option Addr}(z:Zc3 x C d h):XO x C d h:=by
 obtain⟨ox,vs,t,ho,hc,hd,hf,hz,_⟩:=z;exact⟨ox,vs,ho,hc,hd,hf,hz⟩
theorem Zjm{M:Model}{A:Around}{E:Value->Shared->Prop}{s:Shared}{env:Env}{K:Frag}{C G:Addr}{x0:Sem Value}{Q:Flow->Shared->Prop}(hh:A.handled=none)(y:XTop K C G)
  (h:wpAny M A x0 (fun v s1=>∃x d,v=.ref x/\K.In s1.heap/\Zc3 x (.ref C) d s1.heap/\E (.ref x) s1) E s):wpAny M A (raiseStmt env (some x0) none) Q E s:=by
 unfold raiseStmt;refine wpAny_bind (wpAny_mono h (fun v s1 q=>?_) fun _ _ z=>z);obtain⟨x,d,rfl,X,⟨ox,vs,t,ho,hc,hd,hf,hz,h0,h1⟩,hE⟩:=q;obtain⟨cd,hcd,hmro⟩:=y.mro;have ty:Looks M s1.heap (typeOf (.ref x)) (.ref C):=hc ▸ (Looks.ld ho).andThen .now;have isb:Looks M s1.heap (isInstance (.ref x) (.type "BaseException")) true:=ty.andThen (looks_mroIn X (by unfold mroIn;rw[hcd,Option.bind_some,hmro];rfl));have nt:Looks M s1.heap (isType (.ref x)) false:=by
  intro A' Q' E' s' k q;unfold isType loadHead;refine wpAny_bind (wpAny_loadPart (k _ _ ho) ?_);rw[hf];exact wpAny_pure q
 obtain⟨nm,q,N,bs,hdct,sn,sub,ab,col,dd,k0,k1,k2,k3,k5,hK⟩:=y.ob;have tt:Looks M s1.heap (typeOf (.ref C)) (.type "type"):=(Looks.ld (X _ _ hK)).andThen .now;refine wpAny_bind (wpAny_pure (wpAny_bind (wpAny_holding ?_)));unfold excFromValue isExcClass;refine wpAny_bind (wpAny_bind (nt.here ?_));rw[if_neg Bool.false_ne_true];refine wpAny_pure ?_;rw[if_neg Bool.false_ne_true];refine wpAny_bind (isb.here ?_);rw[if_pos rfl];refine wpAny_pure ?_;refine wpAny_bind (nt.here ?_);rw[if_neg Bool.false_ne_true];unfold raisedInstance;refine wpAny_bind (wpAny_bind (ty.here (wpAny_bind (tt.here ?_))));rw[if_pos (by decide)];refine wpAny_pure ?_;unfold setFlight;refine wpAny_bind (wpAny_bind (wpAny_field ho hf h1 ?_));rw[if_neg (by decide)];exact wpAny_pure (wpAny_raiseNew_none hh hE)
structure XMk(P:Program)(w:World)(K:Frag)(mg:Str->Option Value)(base:Heap)(C G:Addr)(x:Str)(ps:List Str)(j:Nat)(sp:Sp):Prop where
 ex:∃f fd,FnOk P w K mg base CX0 j f fd ps sp/\Binds K fd ps []/\findIn K (.ref C) "__init__" = some (some (.ref f))/\isFn K (.ref f)=true
 top:XTop K C G
 nm:mg x=some (.ref C)
def ZkG(C:Addr)(sp:Sp)(E:XKS)(t:TA):TS:=fun _ σ H=>t σ H fun vs H1=>vs.length<=1000/\∀y,H1 y=none->sp (.ref y::vs) (upd H1 y (.ext (Zc3 y (.ref C) none)))
 (fun v H2=>v=.non/\∃d,H2 y=some (.ext (Zc3 y (.ref C) d))/\E σ (.ref C) d (upd H2 y (.ext (XO y (.ref C) d)))) E0
section
variable{X:Cx}{j k:Nat}{C G:Addr}{ps:List Str}{sp:Sp}{E:XKS}{x:Str}{p pos cpos:Pos}{e:Expr}{es:List Expr}{t:TA}
theorem ZdR(Z:XMk X.prog X.w X.K X.mg X.base C G x ps j sp)(hT:Zg5 X E)(hr:Room k X.A)(hg:Gl X x)(ha:PA X (e::es) t)(hk:j+1<=k:=by decide)(hdb:(x == ("__debug__" : Str))=false:=by decide)
  (he:starEach (e::es) X.env=(false,eval e X.env)::starEach es X.env:=by rfl) (hpl:(backTo cpos (starEach es X.env)).any (·.1)=false:=by rfl) :
  PS X (.Raise (some (.Call (.Name x p) (e::es) [] cpos)) none pos) (ZkG C sp E t):=by
 intro pins s σ H D I h;obtain⟨f,fd,F,b,hi,hfn⟩:=Z.ex;show wpAny _ _ (standAt pos >>= fun _=>raiseStmt X.env (some (eval (.Call (.Name x p) (e::es) [] cpos) X.env >>= fun v=>standAt pos >>= fun _=>pure v)) none) _ _ s;refine wpAny_bind (wpAny_standAt (Zjm (hr.hd) Z.top (wpAny_bind ?_)));refine wpAny_Call_Name_kw (Zdf I hg Z.nm ?_ hdb);refine PySem.W.callWith_K (h₀ := X.base) I.ok.mod.kin Z.top.kp (thn (ha cpos pins s σ H _ I h) fun us s1 ⟨vs,H1,I1,r,hl,q⟩=>⟨I1.kIn,?_⟩) he hpl;have hlu:us.length<=sizeLine:=by rw[<- r.length];exact Nat.le_trans hl (by decide)
 have hy:H1 (s1.heap.objs.size+1)=none:=I1.hok.fresh (Nat.le_succ _);have hsp:=q (s1.heap.objs.size+1) hy;have hx:((s1.heap.push (Zbb us)).push (Zcd C s1.heap.objs.size)).get? (s1.heap.objs.size+1)=some (Zcd C s1.heap.objs.size):=by heap_get
 have I2:Inv X pins σ (upd H1 (s1.heap.objs.size+1) (.ext (Zc3 (s1.heap.objs.size+1) (.ref C) none))) { s1 with heap:=(s1.heap.push (Zbb us)).push (Zcd C s1.heap.objs.size) }:=by
  have a:=I1.kept (t':=s1.toks) (h':=s1.heap.push (Zbb us)) fun b u q=>Heap.get?_push_of_some _ q;exact a.laid (t':=s1.toks) (fun b u q=>Heap.get?_push_of_some _ q) (by show(s1.heap.push (Zbb us)).objs.size<=_;rw[Heap.size_push];exact Nat.le_refl _) (Zc3.ok ⟨_,_,_,hx,rfl,rfl,rfl,by simp,rfl,rfl⟩)
 have r2:Vals (V.ref (s1.heap.objs.size+1)::vs) (Value.ref (s1.heap.objs.size+1)::us):=.cons rfl r;have hlen:(Value.ref (s1.heap.objs.size+1)::us).length=ps.length:=by rw[<- r2.length];exact F.len _ _ _ _ hsp
 have hbb:=b ({ s1 with heap:=(s1.heap.push (Zbb us)).push (Zcd C s1.heap.objs.size) }) (Value.ref (s1.heap.objs.size+1)::us) I2.kIn (by rw[List.append_nil];exact hlen);rw[List.append_nil] at hbb;have hroom:Room (j+1) X.A:=hr.mono hk;refine wpAny_call (Zmg Z.top I1.kIn hi hfn hlu (codeAny_mono (F.run _ X.stack _ _ ⟨Value.ref (s1.heap.objs.size+1)::us,[]⟩ (Value.ref (s1.heap.objs.size+1)::us) _ _ E0 (hroom.make C us []) (I2.env0.make C us []) hbb r2 hsp) fun r s' hq'=>?_));cases r with
 | error e=>exact False.elim hq'
 | ok fl =>
  cases fl with
  | ret u =>
   obtain⟨v,H3,I3,rv,ev,d,hd,hE⟩:=I2.after hq';subst ev;refine⟨rv,wpAny_bind (wpAny_standAt (wpAny_pure ⟨_,d,rfl,I3.kIn,(I3.hok _ _ hd).1,?_⟩))⟩;have xn:=(I3.hok _ _ hd).1;have I4:=I3.write (x:=s1.heap.objs.size+1) (e:=s1.heap.objs.size+1) (o:=.ext (XO (s1.heap.objs.size+1) (.ref C) d)) (t':=s'.toks) (h':=s'.heap) (by rw[hd];trivial) (.inl rfl) (fun b u _ z=>z) (by obtain⟨ox,_,_,ho,_⟩:=xn;exact⟨ox,ho⟩) (Zc3.xo xn).ext_ok;refine hT pins σ _ s' _ (.ref C) d I4 Zb (fun _=>Nat.le_trans I1.sz (Nat.le_succ _)) (.inl ?_) hE;obtain⟨ox,vs',t',ho,_,_,hf,_,_,h1⟩:=xn;exact⟨ox,vs',ho,hf,h1⟩
  | next=>exact False.elim hq'
  | brk=>exact False.elim hq'
  | cont=>exact False.elim hq'
end
section
variable{X:Cx}{pins:List (Addr×Obj)}{σ : St}{H:Hp}{s:Shared}{x:Addr}{C:Value}{d:Option Addr}
theorem Inv.pokeN{h':Heap}{t':Nat}(I:Inv X pins σ H s)(he:H x=some (.ext (Zc3 x C d)))(k:∀b u,b≠x->s.heap.get? b=some u->h'.get? b=some u)(z:Zc3 x C d h'):Inv X pins σ H { s with heap:=h',toks:=t' }:=by
 have:=I.write (x:=x) (e:=x) (o:=.ext (Zc3 x C d)) (h':=h') (t':=t') (by rw[he];trivial) (.inl rfl) k (by obtain⟨ox,_,_,ho,_⟩:=z;exact⟨ox,ho⟩) z.ok
 rwa [ZgL he] at this
end
structure XBas(K:Frag)(G:Addr):Prop where
 ga:specialIn K (.ref G) "__getattribute__" = some (some (.builtin "type.__getattribute__"))
 rd:readsIn K G (.type "type")=true
 fi:findCls K (.ref G) (.type "type") "__init__" = some (.val (.builtin "ValueError.__init__"))
def Zly(K:Frag)(t:TA):TE:=fun σ H Q=>t σ H fun vs H1=>∃y C G d v,vs=[.ref y,v]/\H1 y=some (.ext (Zc3 y (.ref C) d))/\XTop K C G/\Q .non H1
section
variable{X:Cx}{C G:Addr}{g:Str}{p pos apos:Pos}{e:Expr}{es:List Expr}{t:TA}
theorem ZeP{pl:Sem Bool}(B:XBas X.K G)(hg:Gl X g)(hm:X.mg g=some (.ref G))(ha:PA X (e::es) t)(hdb:(g == ("__debug__" : Str))=false:=by decide)
  (he:starEach (e::es) X.env=(false,eval e X.env)::starEach es X.env:=by rfl) (hpl:(backTo pos (starEach es X.env)).any (·.1)=false:=by rfl)
  (ht:eval (.Call (.Attribute (.Name g p) "__init__" apos) (e::es) [] pos) X.env=(do
   let ov <- eval (.Name g p) X.env
   standAt apos.atName
   let (f,first) <- holding [ov] (getMethod ov "__init__" pl)
   callWith pos f first (backTo pos (starEach (e::es) X.env)) (backToKw pos (keywordEach [] X.env))):=by rfl) :
  PE X (.Call (.Attribute (.Name g p) "__init__" apos) (e::es) [] pos) (Zly X.K t):=by
 intro pins s σ H Q I h;refine PySem.W.methodCall_KW (pl:=pl) (Zdf I hg hm ?_ hdb) ht;refine method_cls I.kIn B.ga (cls_value I.kIn B.rd B.fi rfl ?_);refine PyProof.Rows.callWith_builtin1 (thn (ha pos pins _ σ H _ (I.tok _) h) fun us s1 ⟨vs,H1,I1,r,y,C,G',d,v,ev,hy,T,q⟩=>?_) he hpl;subst ev;obtain⟨u1,u2,rfl,r1,r2⟩:=Vals.two r;obtain rfl:u1=Value.ref y:=r1;have xn:=(I1.hok _ _ hy).1;obtain⟨ox,vs',t',ho,hc,hd,hf,hz,h0,h1⟩:=id xn;refine Zl9 T I1.kIn ho hc hf h0 ?_;have ho2:(s1.heap.push (Zbb [u2])).get? y=some ox:=Heap.get?_push_of_some _ ho;have Ia:=I1.kept (t':=s1.toks) (h':=s1.heap.push (Zbb [u2])) fun b u q=>Heap.get?_push_of_some _ q;refine⟨.non,H1,Ia.pokeN (t':=s1.toks) hy (fun b u hb z=>(Heap.get?_update_other _ _ (Ne.symm hb)).trans z) ⟨_,_,s1.heap.objs.size,ZgM 0 _ ho2 hf,(Obj.cls_mapFields ..).trans hc,(ZgI ..).trans hd,Obj.data_mapFields hf _,by simpa using hz,?_,?_⟩,rfl,q⟩
 ·rw[Array.getElem?_setIfInBounds_self_of_lt (by lia)]
 ·rw[Array.getElem?_setIfInBounds_ne (by decide)];exact h1
structure XFld(K:Frag)(C:Addr)(f:Str):Prop where
 sa:findIn K (.ref C) "__setattr__" = some (some (.builtin "object.__setattr__"))
 no:findIn K (.ref C) f=some none
 hd:hasDictIn K C=true
 ga:findIn K (.ref C) "__getattribute__" = some (some (.builtin "BaseException.__getattribute__"))
 gt:findIn K (.ref C) "__getattr__" = some none
 mb:mroIn K C (.type "BaseException")=some true
end
def Zmh(K:Frag)(ta tv:TE)(f:Str):TS:=fun D σ H=>tv σ H fun y H1=>ta σ H1 fun x H2=>∃a C G,x=.ref a/\H2 a=some (.ext (Zc3 a (.ref C) none))/\XTop K C G/\XFld K C f /\
 ∀dx,H2 dx=none->dx≠a->D.nx σ (upd (upd H2 dx (.xd [(f,y)])) a (.ext (Zc3 a (.ref C) (some dx))))
section
variable{X:Cx}{o e value:Expr}{f:Str}{pos pos':Pos}{ta tv:TE}
theorem ZfT(ha:PE X o ta)(hv:PE X value tv)(hs:swapsWith value (some (.Attribute o f pos')) pos.line X.env=pure false):PS X (.Assign [.Attribute o f pos'] value pos) (Zmh X.K ta tv f):=by
 intro pins s σ H D I h;refine plainObj_wpAny_Assign_Attribute (thn (hv pins s σ H _ I h) fun u s1 ⟨y,H1,I1,ry,q⟩=>thn (ha pins s1 σ H1 _ I1 q) fun ov s2 ⟨x,H2,I2,rx,a,C,G,ex,hy,T,F,q2⟩=>?_) hs;subst ex;obtain rfl:ov=Value.ref a:=rx;obtain⟨ox,vs,t,ho,hc,hd,hf,hz,h0,h1⟩:=(I2.hok _ _ hy).1;have hlt:a<s2.heap.objs.size:=I2.hok.lt hy;refine ZmY T I2.kIn ho hc hf hd F.sa F.no F.hd fun h' e1 e2 e3=>?_;have hdn:H2 s2.heap.objs.size=none:=I2.hok.fresh (Nat.le_refl _);have hne:s2.heap.objs.size≠a:=Nat.ne_of_gt hlt;refine⟨σ,_,?_,q2 _ hdn hne⟩;have hob:Zar X.prog X.w (upd H2 s2.heap.objs.size (.xd [(f,y)])) h' s2.heap.objs.size (.xd [(f,y)]):=by
  refine⟨_,e2,fun z=>?_⟩;show Ze2 (List.lookup z [(f,y)]) (if z=f then some u else none)
  by_cases hz':z=f
  ·subst hz';simp only[List.lookup,beq_self_eq_true,if_true];exact ry
  ·rw[if_neg hz'];have:(z == f)=false:=beq_eq_false_iff_ne.mpr hz';simp only[List.lookup,this]
   trivial
 have un1:Un X.fs [] H2 (upd (upd H2 s2.heap.objs.size (.xd [(f,y)])) a (.ext (Zc3 a (.ref C) (some s2.heap.objs.size)))) s2.heap h':=by
  have hna:∀b,H2 b=none->b≠a:=fun b n z=>by rw[z,hy] at n;cases n
  have hnd:∀b ob,s2.heap.get? b=some ob->b≠s2.heap.objs.size:=fun b ob e=>Nat.ne_of_lt (Heap.lt_size e);refine⟨fun b ob e n _ _=>e3 b ob (hna b n) e,fun b ob e n _ _=>⟨ob.slots,e3 b ob (hna b n) e⟩,fun b ob e n _=>by rw[Zi (hna b n),Zi (hnd b ob e)];exact n,fun b ob e _=>?_,fun b xs e=>?_,fun b ob u' e=>?_,fun b ps e=>?_⟩
  ·by_cases hb:b=a
   ·subst hb;exact⟨_,e1⟩
   ·exact⟨ob,e3 b ob hb e⟩
  ·have h1':b≠a:=fun z=>by rw[z,hy] at e;cases e
   have h2':b≠s2.heap.objs.size:=fun z=>by rw[z,hdn] at e;cases e
   rw[Zi h1',Zi h2'];exact e
  ·have h1':b≠a:=fun z=>by rw[z,hy] at e;cases e
   have h2':b≠s2.heap.objs.size:=fun z=>by rw[z,hdn] at e;cases e
   rw[Zi h1',Zi h2'];exact e
  ·have h1':b≠a:=fun z=>by rw[z,hy] at e;cases e
   have h2':b≠s2.heap.objs.size:=fun z=>by rw[z,hdn] at e;cases e
   exact⟨#[],by rw[Zi h1',Zi h2',e];simp⟩
 refine I2.un (t':=s2.toks+2) un1 fun b u' hb=>?_;by_cases hba:b=a
 ·subst hba;rw[Zb] at hb;cases hb;exact Zc3.ok ⟨_,vs,t,e1,hc,rfl,hf,hz,h0,h1⟩
 ·rw[Zi hba] at hb;by_cases hbd:b=s2.heap.objs.size
  ·subst hbd;rw[Zb] at hb;cases hb;exact hob.stay (fun c v _ q=>q) (fun c q=>by
    have:c≠a:=fun z=>by
     subst z;rw[Zi hne.symm,hy] at q;cases q
    rw[Zi this];exact q) (fun c xs q=>by
    have:c≠a:=fun z=>by
     subst z;rw[Zi hne.symm,hy] at q;cases q
    rw[Zi this];exact q)
  ·rw[Zi hbd] at hb;have keepH:∀c z,H2 c=some z->c≠a->upd (upd H2 s2.heap.objs.size (.xd [(f,y)])) a (.ext (Zc3 a (.ref C) (some s2.heap.objs.size))) c=some z:=fun c z hc' hca=>by
    have:c≠s2.heap.objs.size:=fun w=>by rw[w,hdn] at hc';cases hc'
    rw[Zi hca,Zi this];exact hc'
   refine(I2.hok b u' hb).stay (fun c v hcc q=>e3 c v ?_ q) (fun c q=>keepH c _ q ?_) (fun c xs q=>keepH c _ q ?_)
   ·rintro rfl;rcases hcc with z|z
    ·exact hba z.symm
    ·rw[hy] at z;cases z
   ·rintro rfl;rw[hy] at q;cases q
   ·rintro rfl;rw[hy] at q;cases q
end
def ZlK(K:Frag)(ta:TE)(f:Str):TE:=fun σ H Q=>ta σ H fun x H1=>∃a oe C dx fs v,x=.ref a/\H1 a=some (Known a oe)/\oe.cls=.ref C/\oe.dict=some dx/\(∃vs,oe.data=.fields vs)/\H1 dx=some (.xd fs)/\XFld K C f/\fs.lookup f=some v/\Q v H1
section
variable{X:Cx}{e:Expr}{f:Str}{pos:Pos}{ta:TE}
theorem ZkW(he:PE X e ta)(hb:attributeBase e f X.env (eval e X.env)=eval e X.env):PE X (.Attribute e f pos) (ZlK X.K ta f):=by
 intro pins s σ H Q I h;refine Zir hb (thn (he pins s σ H _ I h) fun u s1 ⟨x,H1,I1,rx,a,oe,C,dx,fs,v,ex,hk,hc,hd,⟨vs,hf⟩,hx,F,hl,q⟩=>?_);subst ex;obtain rfl:u=Value.ref a:=rx;have ho:s1.heap.get? a=some oe:=(I1.hok a _ hk).1;obtain⟨mA,n,hr⟩:=(show Zar X.prog X.w H1 s1.heap dx (.xd fs) from I1.hok dx _ hx);obtain⟨od,hod,hlk⟩:=ZcU n;obtain⟨u',hu,ru⟩:=Ze2.some_of (v:=v) (o:=mA f) (by rw[<- hl];exact hr f);have J:InstAt s1.heap a oe C (some od):=⟨ho,hc,by unfold notCls;rw[hf],by rw[hd];exact hod⟩;exact ZmH I1.kIn J F.ga F.gt F.mb (findObj_own F.hd F.no rfl (by rw[hlk,hu])) (Ze8 ru) ⟨v,H1,I1.tok _,ru,q⟩
end
theorem ZgX{prog:Program}{w:World}{A:Around}{E:Value->Shared->Prop}{s:Shared}{K:Frag}{x:Addr}{C c:Value}{Q:Value->Shared->Prop}(X:K.In s.heap)(ty:∀M,Looks M s.heap (typeOf (.ref x)) C)(hne:(C == c)=false)(e:kitCls K C c=some true)
  (h:Q (.bool true) s):wpAny (model prog w) A (call (.builtin "isinstance") [.ref x,c]) Q E s:=by
 refine call_isinstance (S:=fun _ R s=>(K.In s.heap/\∀M,Looks M s.heap (typeOf (.ref x)) C)/\R (.ok (.ret (.bool true))) s) (fun prog w A R s hs=>isinstance_outer ?_ (fun z=>nomatch z)) ⟨⟨X,ty⟩,h⟩
 ·obtain⟨⟨X,LT⟩,hq⟩:=hs;obtain⟨h0,g,d,tt,os⟩:=s;unfold Builtin.«isinstance.nested»;refine wpAny_bind ((LT _).at ?_);rw[if_neg (by rw[hne];decide)];obtain⟨hty,his,hsub⟩:=kit_cls (M:=model prog w) X e;refine wpAny_bind (hty.at ?_);rw[if_pos (by decide)]
  k_delta "plainIsInstance"
  refine wpAny_bind (wpAny_bind (his.at ?_));simp only[Bool.not_true,Bool.false_eq_true,if_false];refine wpAny_bind (((LT _).andThen hsub).at ?_)
  first|exact wpAny_pure (wpAny_pure hq)|(simp only[if_true];first|exact wpAny_pure (wpAny_pure hq)|exact wpAny_pure hq)
section
variable{X:Cx}
theorem ZhK:Zbq X (.builtin "isinstance") (fun xs H Q=>∃a oe C D,xs=[.ref a,.ref D]/\H a=some (Known a oe)/\oe.cls=.ref C/\C≠D/\isClsIn X.K D=true/\typeIn X.K (.ref D)=some (.type "type")/\mroIn X.K C (.ref D)=some true/\Q (.bl true) H):=by
 intro pins s σ H xs us Q I r h;obtain⟨a,oe,C,D,rfl,hk,hc,hne,h1,h2,h3,q⟩:=h;obtain⟨u,v,rfl,rx,ry⟩:=Vals.two r;obtain rfl:u=Value.ref a:=rx;obtain rfl:v=Value.ref D:=ry;have ho:s.heap.get? a=some oe:=(I.hok a _ hk).1;refine ZgX I.kIn (C:=.ref C) (fun M=>hc ▸ (Looks.ld ho).andThen .now) (by simpa using hne) ?_ ⟨.bl true,H,I,rfl,q⟩;unfold kitCls;dsimp only;unfold isClsIn at h1;rw[h1,h2,if_pos (by decide)];exact h3
theorem Zi1:Zbq X (.builtin "isinstance") (fun xs H Q=>∃a oe C n,xs=[.ref a,.ty n]/\H a=some (Known a oe)/\oe.cls=.ref C/\kitMeta n=true/\mroIn X.K C (.type n)=some true/\Q (.bl true) H):=by
 intro pins s σ H xs us Q I r h;obtain⟨a,oe,C,n,rfl,hk,hc,h1,h3,q⟩:=h;obtain⟨u,v,rfl,rx,ry⟩:=Vals.two r;obtain rfl:u=Value.ref a:=rx;obtain rfl:v=Value.type n:=ry;have ho:s.heap.get? a=some oe:=(I.hok a _ hk).1;refine ZgX I.kIn (C:=.ref C) (fun M=>hc ▸ (Looks.ld ho).andThen .now) rfl ?_ ⟨.bl true,H,I,rfl,q⟩;unfold kitCls;dsimp only;rw[if_pos h1];exact h3
end
end L2
namespace L2
open PySem PySem.Spec PyProof.Rows
abbrev TJ:=St->Hp->Str->(Str->Hp->Prop)->Prop
def PJ(X:Cx)(es:List Expr)(t:TJ):Prop := ∀(pins:List (Addr×Obj))(s:Shared)(σ : St)(H:Hp)(acc:Str)(Q:Str->Hp->Prop),Inv X pins σ H s->t σ H acc Q ->
 wpAny (model X.prog X.w) X.A (joinParts acc (evalEach es X.env)) (EP X pins σ fun v H'=>∃z,v=.str z/\Q z H') X.xe s
def Zmm:TJ:=fun _ H acc Q=>acc.length<=sizeLine/\Q acc H
def ZlM(te:TE)(t:TJ):TJ:=fun σ H acc Q=>te σ H fun v H1=>∃y,v=.str y/\(acc++y).length<=sizeLine/\t σ H1 (acc++y) Q
def tFv(tv:TE):TE:=fun σ H Q=>tv σ H fun v H1=>(∃z,v=.str z/\z.length<=sizeLine/\Q (.str z) H1)\/∃i:Int,v=.int i/\i.natAbs.log2<1920/\Q (.str (Str.ofString (toString i))) H1
def ZkL(t:TJ):TE:=fun σ H Q=>t σ H Str.empty fun z H'=>Q (.str z) H'
section
variable{X:Cx}{e:Expr}{es:List Expr}{te:TE}{t:TJ}{pos:Pos}
theorem ZhT:PJ X [] Zmm:=fun _ _ _ H acc _ I h=>joinParts_nil ⟨.str acc,H,I.tok _,⟨_,rfl⟩,acc,rfl,h.2⟩ h.1
theorem Zc9(he:PE X e te)(hr:PJ X es t)(hs:evalEach (e::es) X.env=eval e X.env::evalEach es X.env:=by rfl):PJ X (e::es) (ZlM te t):=by
 intro pins s σ H acc Q I h;rw[hs];refine joinParts_cons (thn (he pins s σ H _ I h) fun u s1 ⟨v,H1,I1,r,y,ev,hz,q⟩=>?_);subst ev;obtain⟨tk,rfl⟩:=r;exact⟨hz,hr pins s1 σ H1 _ Q I1 q⟩
theorem ZlB(he:PE X e te):PE X (.FormattedValue e (-1) none pos) (tFv te):=by
 intro pins s σ H Q I h;refine FormattedValue_plain (thn (he pins s σ H _ I h) fun u s1 ⟨v,H1,I1,r,q⟩=>?_);rcases q with⟨z,rfl,hz,q⟩|⟨i,rfl,hi,q⟩
 ·obtain⟨tk,rfl⟩:=r;exact formatField_str (fun t' tk=>⟨.str z,H1,I1.tok _,⟨_,rfl⟩,q⟩) hz
 ·obtain⟨tk,rfl⟩:=r;exact formatField_int_small hi ⟨.str _,H1,I1.tok _,⟨_,rfl⟩,q⟩
theorem ZdD{e2:Expr}(h:PJ X (e::e2::es) t):PE X (.JoinedStr (e::e2::es) pos) (ZkL t):=by
 intro pins s σ H Q I hw;refine JoinedStr_many (thn (h pins s σ H _ _ I hw) fun u s1 ⟨v,H1,I1,r,z,ev,q⟩=>⟨v,H1,I1,r,by rw[ev];exact q⟩)
end
end L2
namespace L2
open PySem PySem.Spec PyProof.Rows PySem.W
variable{X:Cx}
theorem Zc8{K:Frag}(hK:X.K=K):Zbq X (.builtin "isinstance") (fun xs H Q=>∃a oe C n,xs=[.ref a,.ty n]/\H a=some (Known a oe)/\oe.cls=.ref C/\kitMeta n=true/\mroIn K C (.type n)=some true/\Q (.bl true) H):=by
 subst hK;exact Zi1
theorem ZeI{K:Frag}{e:Expr}{f:Str}{pos:Pos}{ta:TE}(hK:X.K=K)(he:PE X e ta)(hb:attributeBase e f X.env (eval e X.env)=eval e X.env):PE X (.Attribute e f pos) (ZlK K ta f):=by
 subst hK;exact ZkW he hb
def Zil(h:Heap)(d:Addr)(es:Array DictEntry)(ep:Nat):Prop := ∃o,h.get? d=some o/\o.ExactDict/\o.data=.dict es ep
theorem Zil.tyIs{s:Shared}{d:Addr}{es:Array DictEntry}{ep:Nat}(x:Zil s.heap d es ep):s.TypeIs (.ref d) "dict" := let ⟨o,ho,hc,_⟩:=x;⟨o,ho,hc.1⟩
theorem Zil.to{h h':Heap}{d:Addr}{es:Array DictEntry}{ep:Nat}(x:Zil h d es ep)(e:∀o,h.get? d=some o->h'.get? d=some o):Zil h' d es ep:=let ⟨o,ho,r⟩:=x;⟨o,e _ ho,r⟩
section
variable{prog:Program}{w:World}{A:Around}{E:Value->Shared->Prop}{s:Shared}{it d:Addr}{es:Array DictEntry}{i ep:Nat}
theorem ZjM{Q:Value->Shared->Prop}(lo:(d == sysModules)=false)(x:Zil s.heap d es ep)
  (q:Q (.ref s.heap.objs.size) { s with heap:=s.heap.push { cls:=.type "dict_keyiterator",data:=.fields #[.ref d,.int 0 0,.int es.size 0,.int ep 0] } }):wpAny (model prog w) A (pyIter (.ref d)) Q E s:=by
 obtain⟨o,ho,hx,hdat⟩:=id x;have hT:=x.tyIs;refine wpAny_pyIter_slot hT PySem.F.slot_dict_iter (wpAny_call_entry PySem.F.slot_dict_iter hT PySem.F.entry_dict_iter ?_ (PySem.F.args_dict_iter_1 _));unfold Builtin.«dict.__iter__»;refine wpAny_bind ?_;unfold Builtin.Dict.dictSlotNone;refine wpAny_bind (wpAny_notOrdered_dict hT ?_);refine wpAny_pure (?_:wpAny _ _ (Builtin.Dict.showsAll d >>= _) _ _ s);unfold Builtin.Dict.showsAll;rw[if_neg (by rw[lo];exact Bool.false_ne_true)];refine wpAny_bind (wpAny_pure (wpAny_bind (wpAny_dictEntries ho hdat (wpAny_bind (wpAny_dictEpoch ho hdat ?_)))));exact wpAny_bind (wpAny_newObj_type (wpAny_pure ⟨_,rfl,"dict_keyiterator",_,⟨_,Heap.get?_push_size _ rfl,rfl⟩,PySem.F.slot_dict_keyiterator_next.lookup,q⟩))
theorem ZjP{Q:Option Value->Shared->Prop}(st:s.heap.IsKeyIter it d i es.size ep)(x:Zil s.heap d es ep)(hi:i<es.size)
  (q:∀h',h'.IsKeyIter it d (i+1) es.size ep->Heap.SameBut it s.heap h'->Q (some es[i].key) { s with heap:=h' }):wpAny (model prog w) A (pyNext (.ref it)) Q E s:=by
 obtain⟨o,ho,hc,hd⟩:=id st;obtain⟨od,hod,hxd,hdd⟩:=id x;unfold pyNext;refine wpAny_bind (wpAny_attempt (wpAny_callSpecial?_slot (name:=Str.ofString "__next__") st.typeIs PySem.F.slot_dict_keyiterator_next (wpAny_call_entry PySem.F.slot_dict_keyiterator_next st.typeIs PySem.F.entry_dict_keyiterator_next ?_ (PySem.F.args_dict_keyiterator_next_1 _))));refine wpAny_bind (wpAny_pure (wpAny_bind (wpAny_bind ?_)))
 first|refine wpAny_bind (wpAny_typeNameOfWhole_keyiter st.typeIs (wpAny_pure (wpAny_bind (wpAny_fieldsOf ho hd ?_))))|refine wpAny_bind (wpAny_typeNameOf_keyiter st.typeIs (wpAny_pure (wpAny_bind (wpAny_fieldsOf ho hd ?_))))
 have own:Builtin.Dict_items.ownsTuple "dict_keyiterator" = false:=by decide
 simp only[own,Bool.false_eq_true,if_false];change wpAny _ _ (if(Value.ref d == Value.none)=true then _ else _) _ _ s
 rw[if_neg (fun z:(Value.ref d == Value.none)=true=>Bool.false_ne_true z)];refine wpAny_bind (wpAny_pure (wpAny_bind (wpAny_dictEntries hod hdd ?_)));rw[if_neg (by simp)];refine wpAny_bind (wpAny_pure (wpAny_bind (wpAny_dictEpoch hod hdd ?_)));rw[if_neg (by simp)];refine wpAny_pure ?_;simp only[show ¬ ((i:Int)<0) by lia,if_false,Int.toNat_natCast,Array.getElem?_eq_getElem hi];refine wpAny_bind ?_;first|refine wpAny_bind (wpAny_typeNameOfWhole_keyiter st.typeIs (wpAny_pure (wpAny_bind (wpAny_isOneOf_keyiter st.typeIs ?_))))|refine wpAny_bind (wpAny_typeNameOf_keyiter st.typeIs (wpAny_pure (wpAny_bind (wpAny_isOneOf_keyiter st.typeIs ?_))))
 change wpAny _ _ (setField (.ref it) 1 (rawInt ((i:Int)+1)) >>= _) _ _ s;refine wpAny_bind (wpAny_setField ho hd (by simp) ?_);have st2:(s.heap.update it (Obj.mapFields (·.setIfInBounds 1 (rawInt ((i:Int)+1))))).IsKeyIter it d (i+1) es.size ep:=⟨_,Heap.get?_update_self _ ho (Obj.isFreed_of_fields (Obj.data_mapFields hd _)),(Obj.cls_mapFields ..).trans hc,by rw[Obj.data_mapFields hd];simp[rawInt]⟩;refine wpAny_bind (wpAny_holding (wpAny_bind (wpAny_isOneOf_keyiter (s:={ s with heap:=s.heap.update it (Obj.mapFields (·.setIfInBounds 1 (rawInt ((i:Int)+1)))) }) st2.typeIs ?_)));change wpAny _ _ (pure es[i].key) _ _ _;exact wpAny_pure (wpAny_pure ⟨_,rfl,wpAny_pure (q _ st2 (Heap.SameBut.update ..))⟩)
theorem Zkn{Q:Option Value->Shared->Prop}(hh:A.handled=none)(st:s.heap.IsKeyIter it d i es.size ep)(x:Zil s.heap d es ep)(hi:es.size<=i)
  (q:∀h',Heap.ExtBut it s.heap h'->Q none { s with heap:=h' }):wpAny (model prog w) A (pyNext (.ref it)) Q E s:=by
 obtain⟨o,ho,hc,hd⟩:=id st;obtain⟨od,hod,hxd,hdd⟩:=id x;unfold pyNext;refine wpAny_bind (wpAny_attempt (wpAny_callSpecial?_slot (name:=Str.ofString "__next__") st.typeIs PySem.F.slot_dict_keyiterator_next (wpAny_call_entry PySem.F.slot_dict_keyiterator_next st.typeIs PySem.F.entry_dict_keyiterator_next ?_ (PySem.F.args_dict_keyiterator_next_1 _))));refine wpAny_bind (wpAny_pure (wpAny_bind (wpAny_bind ?_)))
 first|refine wpAny_bind (wpAny_typeNameOfWhole_keyiter st.typeIs (wpAny_pure (wpAny_bind (wpAny_fieldsOf ho hd ?_))))|refine wpAny_bind (wpAny_typeNameOf_keyiter st.typeIs (wpAny_pure (wpAny_bind (wpAny_fieldsOf ho hd ?_))))
 have own:Builtin.Dict_items.ownsTuple "dict_keyiterator" = false:=by decide
 simp only[own,Bool.false_eq_true,if_false];change wpAny _ _ (if(Value.ref d == Value.none)=true then _ else _) _ _ s
 rw[if_neg (fun z:(Value.ref d == Value.none)=true=>Bool.false_ne_true z)];refine wpAny_bind (wpAny_pure (wpAny_bind (wpAny_dictEntries hod hdd ?_)));rw[if_neg (by simp)];refine wpAny_bind (wpAny_pure (wpAny_bind (wpAny_dictEpoch hod hdd ?_)));rw[if_neg (by simp)];refine wpAny_pure ?_;simp only[show ¬ ((i:Int)<0) by lia,if_false,Int.toNat_natCast,Array.getElem?_eq_none hi];refine wpAny_bind ?_;first|refine wpAny_bind (wpAny_typeNameOfWhole_keyiter st.typeIs (wpAny_pure ?_))|refine wpAny_bind (wpAny_typeNameOf_keyiter st.typeIs (wpAny_pure ?_))
 change wpAny _ _ (setField (.ref it) 0 .none >>= _) _ _ s;refine wpAny_bind (wpAny_setField ho hd (by simp) ?_);change wpAny _ _ (newExc (.type "StopIteration") [] >>= _) _ _ _;refine wpAny_bind ?_;simp only[newExc,newTuple];refine wpAny_bind (wpAny_newObj_type (wpAny_bind (m:=firstArgMember _ _) (wpAny_of_eq (a:=Value.none) (by first|rfl|(simp only[firstArgMember];rfl)) (wpAny_newObj_type ?_ (by size_fits)))) (by size_fits))
 simp only[raiseNew];refine wpAny_bind (wpAny_handled ?_);rw[show A.in1.handled=none from hh];refine wpAny_bind (wpAny_pure (wpAny_throw ?_));refine wpAny_bind (wpAny_isInstance (T := "StopIteration") (b:=true) (v:=.ref _) (by exact⟨_,Heap.get?_push_size _ rfl,rfl⟩) isSubtype_stop ?_);exact wpAny_pure (q _ (((Heap.SameBut.update ..).extBut.push _).push _))
theorem Zij(hh:A.handled=none)(hne:d≠it):Walks prog w A it [it,d] [it] es.size (fun i v=>∃e,es[i]?= some e/\v=e.key) (fun i h=>h.IsKeyIter it d i es.size ep/\Zil h d es ep) where
 sub:=fun b hb=>List.mem_cons.mpr (.inl (List.mem_singleton.mp hb))
 frame:=fun _ _ _ st hk=>⟨st.1.at fun o e=>hk it (List.mem_cons_self ..) o e,st.2.to fun o e=>hk d (List.mem_cons_of_mem _ (List.mem_cons_self ..)) o e⟩
 item:=fun j s Q E hj st hQ=>ZjP st.1 st.2 hj fun h' st' sb=>hQ _ h' s.toks ⟨_,Array.getElem?_eq_getElem hj,rfl⟩ ⟨st',st.2.to fun o e=>sb.extBut d o hne e⟩ fun b o hb e=>sb.extBut b o (fun z=>hb (List.mem_singleton.mpr z)) e
 done:=fun s Q E st hQ=>Zkn hh st.1 st.2 (Nat.le_refl _) fun h' he=>hQ h' s.toks fun b o hb e=>he b o (fun z=>hb (List.mem_singleton.mpr z)) e
 self:=fun _ _ _ _ st hQ=>wpAny_pyIter_keyiter st.1 hQ
theorem Zkz(lo:(d == sysModules)=false):KdlSrc prog w "dict" d d es.size (fun i v=>∃e,es[i]?= some e/\v=e.key) (fun h=>Zil h d es ep) where
 type:=fun _ x=>x.tyIs
 there:=fun _ ⟨o,ho,_⟩=>⟨Heap.lt_size ho,Heap.lt_size ho⟩
 keep:=fun _ _ x hk=>x.to fun o e=>hk d (.inl rfl) o e
 notList:=by decide
 notTuple:=by decide
 hint:=fun _ _ _ _ x hq=>kdl_hint_dict x.tyIs hq
 iter:=fun _ _ hh x=>⟨_,_,(fun _ _ hq=>ZjM lo x hq),Zij hh (let ⟨o,ho,_⟩:=x;Nat.ne_of_lt (Heap.lt_size ho)),⟨⟨_,Heap.get?_push_size _ rfl,rfl,rfl⟩,x.to fun _ e=>Heap.get?_push_of_some _ e⟩⟩
end
end L2
namespace Srt
open PySem PyProof.Rows PySem.W
end Srt
namespace Sts
open PySem PyProof.Rows PySem.W Srt
end Sts
namespace Srd
open PySem PyProof.Rows
theorem Ze9:typeLookup (.type "list") "keys" = pure none:=by rw[typeLookup_type,builtinLookup_eq_fast];kernel_rfl
theorem ZaV:isSubtype (.type "AttributeError") (.type "AttributeError")=pure true:=by rw[isSubtype_type];kernel_rfl
section
variable{prog:Program}{w:World}{A:Around}{E:Value->Shared->Prop}{h:Heap}{g:Array GenState}{d:Drawn}{t:Nat}{os:OsState}{a:Addr}
theorem Zej{α : Type}{Q : α -> Shared->Prop}{o:Value}{name msg:Str}(hh:A.handled=none)(hm:msg.length<=sizeLine)(hq:∀(x:Addr) (h':Heap) (tk:Nat),(∀b u,h.get? b=some u->h'.get? b=some u)->(∃ob,h'.get? x=some ob/\ob.cls=.type "AttributeError")->h.objs.size<=h'.objs.size->E (.ref x) ⟨h',g,d,tk,os⟩) :
  wpAny (model prog w) A (raiseAttrError o name msg:Sem α) Q E ⟨h,g,d,t,os⟩:=by
 unfold raiseAttrError
 repeat (any_goals (first|assumption|wp_step))
 refine wpAny_of_eq ZaV ?_;rw[if_neg (by decide)];generalize hfa:(if((Manifest.find? "AttributeError").elim false fun t=>t.mro.contains "StopIteration" || t.mro.contains "SystemExit")=true then [Value.str msg t].headD Value.none else Value.none)=fa
 have k1:∀b u,h.get? b=some u->(h.push { cls:=Value.type "tuple",data:=Data.seq #[Value.str msg t] }).get? b=some u:=fun b u e=>Heap.get?_push_of_some _ e;have z1:(h.push { cls:=Value.type "tuple",data:=Data.seq #[Value.str msg t] }).objs.size=h.objs.size+1:=Heap.size_push ..;generalize h.push { cls:=Value.type "tuple",data:=Data.seq #[Value.str msg t] }=h1 at k1 z1;have e1:(h1.push { cls:=Value.type "AttributeError",data:=Data.fields (#[Value.ref h.objs.size,Value.none,Value.none,Value.none,Value.bool false,fa]++ownMembersOf (Value.type "AttributeError") [Value.str msg t]) }).get? h1.objs.size=some { cls:=Value.type "AttributeError",data:=Data.fields (#[Value.ref h.objs.size,Value.none,Value.none,Value.none,Value.bool false,fa]++ownMembersOf (Value.type "AttributeError") [Value.str msg t]) }:=Heap.get?_push_size _ rfl;have k2:∀b u,h.get? b=some u->(h1.push { cls:=Value.type "AttributeError",data:=Data.fields (#[Value.ref h.objs.size,Value.none,Value.none,Value.none,Value.bool false,fa]++ownMembersOf (Value.type "AttributeError") [Value.str msg t]) }).get? b=some u:=fun b u e=>Heap.get?_push_of_some _ (k1 b u e);have z2:(h1.push { cls:=Value.type "AttributeError",data:=Data.fields (#[Value.ref h.objs.size,Value.none,Value.none,Value.none,Value.bool false,fa]++ownMembersOf (Value.type "AttributeError") [Value.str msg t]) }).objs.size=h1.objs.size+1:=Heap.size_push ..;generalize h1.push { cls:=Value.type "AttributeError",data:=Data.fields (#[Value.ref h.objs.size,Value.none,Value.none,Value.none,Value.bool false,fa]++ownMembersOf (Value.type "AttributeError") [Value.str msg t]) }=h2 at e1 k2 z2;refine wpAny_bind (wpAny_load e1 ?_);dsimp only;have v6:(#[Value.ref h.objs.size,Value.none,Value.none,Value.none,Value.bool false,fa]++ownMembersOf (Value.type "AttributeError") [Value.str msg t])[6]?= some unsetMember:=rfl;have v7:(#[Value.ref h.objs.size,Value.none,Value.none,Value.none,Value.bool false,fa]++ownMembersOf (Value.type "AttributeError") [Value.str msg t])[7]?= some unsetMember:=rfl;refine wpAny_ite_split (fun hab=>absurd hab (by rw[v6,v7];decide)) (fun _=>wpAny_ite_split (fun hab=>absurd hab (by rw[v6,v7];decide)) (fun _=>wpAny_pure ?_));rw[if_pos rfl];refine wpAny_bind (wpAny_rule (wpAny_bind (wpAny_typeOf (T := "AttributeError") ⟨_,e1,rfl⟩ ?_)));dsimp only;unfold layMembers;refine wpAny_bind (wpAny_load e1 ?_);dsimp only;refine wpAny_update e1 ?_;unfold raiseNew;refine wpAny_bind (wpAny_handled ?_);rw[hh];refine wpAny_throw (hq _ _ _ (fun b u e=>?_) ?_ ?_)
 ·rw[Heap.get?_update_other _ _ (show h1.objs.size≠b from fun z=>?_)]
  ·exact k2 b u e
  ·have:=Heap.lt_size e;have h3:h1.objs.size<h.objs.size:=z ▸ this;lia
 ·exact⟨_,Heap.get?_update_self _ e1 rfl,rfl⟩
 ·rw[Heap.size_update];show h.objs.size<=h2.objs.size;lia
theorem ZdY{tk:Tok}{Q:Fin->Shared->Prop}{its:Array Value}{n:Nat}{sl:Array (Option Value)}(hh:A.handled=none)(hx:h.get? a=some { cls:=.type "list",dict:=none,data:=.seq its n,slots:=sl }) (hq:∀(x:Addr)(h':Heap)(tk:Nat),(∀b u,h.get? b=some u->h'.get? b=some u)->(∃ob,h'.get? x=some ob/\ob.cls=.type "AttributeError")->h.objs.size<=h'.objs.size->E (.ref x) ⟨h',g,d,tk,os⟩) :
  wpAny (model prog w) A (Builtin.«object.__getattribute__» ⟨[.ref a,.str "keys" tk],[]⟩) Q E ⟨h,g,d,t,os⟩:=by
 have hT:(⟨h,g,d,t,os⟩:Shared).TypeIs (.ref a) "list" := ⟨_,hx,rfl⟩;have f4:=Ze9
 repeat (any_goals (first|assumption|with_reducible apply Zej hh|wp_step))
 decide +kernel
theorem ZdT:typeLookup (.type "list") "__getattr__" = pure none:=by rw[typeLookup_type,builtinLookup_eq_fast];kernel_rfl
theorem Zd4{tk:Tok}{R:Result->Shared->Prop}{its:Array Value}{n:Nat}{sl:Array (Option Value)}(hh:A.handled=none)(hx:h.get? a=some { cls:=.type "list",dict:=none,data:=.seq its n,slots:=sl }) (hq:∀(x:Addr)(h':Heap)(tk:Nat),(∀b u,h.get? b=some u->h'.get? b=some u)->(∃ob,h'.get? x=some ob/\ob.cls=.type "AttributeError")->h.objs.size<=h'.objs.size->R (.error (.ref x)) ⟨h',g,d,tk,os⟩) :
  codeAny (model prog w) A (.call (.builtin "list.__getattribute__") ⟨[.ref a,.str "keys" tk],[]⟩) R ⟨h,g,d,t,os⟩ :=
 codeAny_call_builtin F.slot_list_getattribute.plain F.entry_list_ga (F.slot_list_getattribute.check _ _ _ _ _ _ _ _ (show(⟨h,g,d,t,os⟩:Shared).TypeIs (.ref a) "list" from⟨_,hx,rfl⟩) (F.args_list_getattribute_2 _ _) (ZdY hh hx hq))
theorem Zfs{tk:Tok}{Q:Value->Shared->Prop}{its:Array Value}{n:Nat}{sl:Array (Option Value)}(hh:A.handled=none)(hx:h.get? a=some { cls:=.type "list",dict:=none,data:=.seq its n,slots:=sl }) (hq:∀(x:Addr)(h':Heap)(tk:Nat),(∀b u,h.get? b=some u->h'.get? b=some u)->(∃ob,h'.get? x=some ob/\ob.cls=.type "AttributeError")->h.objs.size<=h'.objs.size->E (.ref x) ⟨h',g,d,tk,os⟩) :
  wpAny (model prog w) A (getAttrBy (.ref a) (.str "keys" tk) false) Q E ⟨h,g,d,t,os⟩:=by
 have hT:(⟨h,g,d,t,os⟩:Shared).TypeIs (.ref a) "list" := ⟨_,hx,rfl⟩;have f2:=F.slot_list_getattribute.lookup;have f3:=F.slot_list_getattribute.bind (.ref a);have f4:=ZdT
 repeat (any_goals (first|assumption|wp_step))
 refine Zd4 hh hx fun x h' tk' k1 k2 k3=>?_;obtain⟨ob,e2,c2⟩:=k2;dsimp only;unfold getattributeRaised;refine wpAny_bind (wpAny_isInstance (T := "AttributeError") (b:=true) ⟨ob,e2,c2⟩ ZaV ?_);rw[if_pos rfl];unfold hookBehind;rw[if_neg (by decide)];refine wpAny_bind (wpAny_of_eq f4 ?_);unfold hookOrError attributeErrorLeaves;dsimp only;rw[if_pos (by decide)];exact wpAny_bind (wpAny_throw (hq x h' tk' k1 ⟨ob,e2,c2⟩ k3))
theorem Zd7{Q:Option Value->Shared->Prop}{its:Array Value}{n:Nat}{sl:Array (Option Value)}(hh:A.handled=none)(hx:h.get? a=some { cls:=.type "list",dict:=none,data:=.seq its n,slots:=sl }) (hq:∀(h':Heap)(tk:Nat),(∀b u,h.get? b=some u->h'.get? b=some u)->h.objs.size<=h'.objs.size->Q none ⟨h',g,d,tk,os⟩) :
  wpAny (model prog w) A (getAttr? (.ref a) "keys") Q E ⟨h,g,d,t,os⟩:=by
 unfold getAttr? getAttrBy?
 repeat (any_goals (first|assumption|with_reducible apply Zfs hh hx|wp_step))
 intro x h' tk' k1 k2 k3;obtain⟨ob,e2,c2⟩:=k2;dsimp only;refine wpAny_bind (wpAny_isInstance (T := "AttributeError") (b:=true) ⟨ob,e2,c2⟩ ZaV ?_);rw[if_pos rfl];exact wpAny_pure (hq h' tk' k1 k3)
end
theorem Zan:entryFor table "dict.update.loop" = some Builtin.«dict.update.loop» := entryFor_of_tree (by kernel_rfl)
theorem ZC:plainId "dict.update.loop" = true:=by decide +kernel
section
variable{prog:Program}{w:World}{K:Type}[DecidableEq K]{knd:KeyKind prog w K}{A:Around}{E:Value->Shared->Prop}{R:Result->Shared->Prop}
def Zg0(knd:KeyKind prog w K)(h:Heap)(v:Value)(k:K)(u:Value):Prop := ∃b o n uk,v=.ref b/\h.get? b=some o/\o.cls=.type "tuple" /\ o.data=.seq #[uk,u] n/\knd.is k uk=true
def Zev(knd:KeyKind prog w K)(h0:Heap)(d:Addr)(items:Array Value)(ps:List (K×Value)):Prop:=items.size=ps.length/\∀(i:Nat) v p,items[i]?= some v->ps[i]?= some p->∀h:Heap,(∀b o,b<d->h0.get? b=some o->h.get? b=some o)->Zg0 knd h v p.1 p.2
theorem pair_items{s:Shared}{v:Value}{k:K}{u:Value}{Q:List Value->Shared->Prop}(hp:Zg0 knd s.heap v k u)(q:∀uk,knd.is k uk=true->Q [uk,u] s):wpAny (model prog w) A (Builtin.Dict.pairItems v) Q E s:=by
 obtain⟨b,o,n,uk,rfl,ho,hc,hd,hk⟩:=hp;unfold Builtin.Dict.pairItems;refine wpAny_bind (wpAny_typeOf (T := "tuple") ⟨o,ho,hc⟩ ?_);rw[if_pos (by decide)];refine wpAny_bind (wpAny_seqItems ho hd (wpAny_pure (q uk hk)))
set_option maxHeartbeats 1000000 in
theorem ZhD{h0:Heap}{D I l:Addr}{items:Array Value}{ps:List (K×Value)}(hh:A.in1.handled=none)(ht:Zev knd h0 D items ps)(hDI:D<I)(hlI:l≠I)(hn:items.size<=100000):∀(k i:Nat)(j:Int)(jt:Tok)(s:Shared),items.size-i=k->i<=items.size->(s.heap.IsListIter I l i/\s.heap.IsList l items)->l<D->s.heap.DictOf knd D (merged [] (ps.take i))->(∀b o,b<D->h0.get? b=some o->s.heap.get? b=some o) ->
   (∀h' tk,h'.DictOf knd D (merged [] ps)->(∀b o,b<D->h0.get? b=some o->h'.get? b=some o)->R (.ok (.ret .none)) { s with heap:=h',toks:=tk })->codeAny (model prog w) A (.builtin "dict.update.loop" ⟨[.ref D,.ref I,.int j jt,.none],[]⟩) R s:=by
 have W:=Walks.list (prog:=prog) (w:=w) (A:=A.in1) hh I l hlI items;have DK:∀{h h':Heap}{kvs:List (K×Value)},h.DictOf knd D kvs->(∀b o,b<=D->h.get? b=some o->h'.get? b=some o)->h'.DictOf knd D kvs:=fun{h h' kvs} ⟨o,es,ep,ho,r⟩ hk=>⟨o,es,ep,hk D o (Nat.le_refl _) ho,r⟩;intro k
 induction k with
 | zero =>
  intro i j jt s hk hi hst hlD hd hb hR;obtain rfl:i=items.size:=by lia
  refine codeAny_builtin Zan ?_;rw[Around.under_plainId ZC _];change wpAny _ A.in1 (pyNext (.ref I) >>= _) _ _ s;refine wpAny_bind (W.done s _ _ hst fun h' tk hm=>?_);change wpAny _ A.in1 (Builtin.Dict.addKeywords D [] >>= fun _=>ret Value.none) _ _ _;refine wpAny_bind ?_;unfold Builtin.Dict.addKeywords;refine wpAny_pure (wpAny_pure ?_);rw[ht.1,List.take_length] at hd;exact hR h' tk (DK hd fun b o hb' e=>hm b o (fun z=>Nat.lt_irrefl _ (Nat.lt_of_le_of_lt (List.mem_singleton.mp z ▸ hb') hDI)) e) fun b o hb' e=>hm b o (fun z=>Nat.lt_irrefl _ (Nat.lt_trans (List.mem_singleton.mp z ▸ hb') hDI)) (hb b o hb' e)
 | succ k ih =>
  intro i j jt s hk hi hst hlD hd hb hR;have hlt:i<items.size:=by lia
  refine codeAny_builtin Zan ?_;rw[Around.under_plainId ZC _];change wpAny _ A.in1 (pyNext (.ref I) >>= _) _ _ s;refine wpAny_bind (W.item i s _ _ hlt hst fun v h' tk hP hst' hm=>?_);have hd':h'.DictOf knd D (merged [] (ps.take i)):=DK hd fun b o hb' e=>hm b o (fun z=>Nat.lt_irrefl _ (Nat.lt_of_le_of_lt (List.mem_singleton.mp z ▸ hb') hDI)) e;have hb1:∀b o,b<D->h0.get? b=some o->h'.get? b=some o:=fun b o hb' e=>hm b o (fun z=>Nat.lt_irrefl _ (Nat.lt_trans (List.mem_singleton.mp z ▸ hb') hDI)) (hb b o hb' e);have hpl:i<ps.length:=by have:=ht.1;lia
  have hp:=ht.2 i v ps[i] hP (List.getElem?_eq_getElem hpl) h' hb1;refine wpAny_bind (wpAny_holding (wpAny_bind (wpAny_tryCatch (pair_items (s:={ s with heap:=h',toks:=tk }) hp fun uk huk=>?_))));dsimp only;have hml:(merged [] (ps.take i)).length<=sizeLine:=by
   have:=merged_length_le ([]:List (K×Value)) (ps.take i);rw[List.length_take] at this;have h0l:([]:List (K×Value)).length=0:=rfl;have:=ht.1;rw[sizeLine_eq];lia
  refine wpAny_holding (wpAny_dictSet_pairs (s:={ s with heap:=h',toks:=tk }) (hsz:=hml) huk hd' fun h2 hd2 sb=>?_);have hk2:∀b o,b≠D->h'.get? b=some o->h2.get? b=some o:=fun b o hb e=>(sb.2 b hb).trans e;refine wpAny_pure ⟨plainId_quiet ZC _,ih (i+1) (j+1) 0 _ (by lia) hlt ?_ hlD ?_ (fun b o hb' e=>hk2 b o (Nat.ne_of_lt hb') (hb1 b o hb' e)) fun h3 tk3 hw3 hb3=>hR h3 tk3 hw3 hb3⟩
  ·refine W.frame _ h' h2 hst' fun b hb o e=>hk2 b o (fun z=>?_) e;simp only[List.mem_cons,List.not_mem_nil,or_false] at hb;rcases hb with rfl|rfl
   ·exact Nat.lt_irrefl _ (z ▸ hDI)
   ·exact Nat.lt_irrefl _ (z ▸ hlD)
  ·rw[merged_take_succ [] ps i ps[i] (List.getElem?_eq_getElem hpl)];exact hd2
set_option maxHeartbeats 1000000 in
theorem Zdz{s:Shared}{l:Addr}{items:Array Value}{n:Nat}{sl:Array (Option Value)}{ps:List (K×Value)}{Q:Value->Shared->Prop}(hh:A.handled=none)(hl:s.heap.get? l=some { cls:=.type "list",dict:=none,data:=.seq items n,slots:=sl }) (ht:Zev knd s.heap s.heap.objs.size items ps) (hn:items.size<=100000)
  (q:∀(h':Heap)(tk:Nat),h'.DictOf knd s.heap.objs.size (merged [] ps)->(∀b o,s.heap.get? b=some o->h'.get? b=some o)->Q (.ref s.heap.objs.size) { s with heap:=h',toks:=tk }) :
  wpAny (model prog w) A (call (.type "dict") [.ref l]) Q E s:=by
 refine callType_codes (Q₁ := fun obj s₁=>obj=.ref s.heap.objs.size/\s₁ = { s with heap:=s.heap.push { cls:=.type "dict",data:=.dict #[] } }) F.kt_called_dict (F.kt_typeCall_dict_1 _) F.entry_dict_init (kt_code_dict_new _ ⟨rfl,rfl⟩) ?_;rintro obj s₁ ⟨rfl,rfl⟩;have hnew:(s.heap.push { cls:=.type "dict",data:=.dict #[] }).DictOf knd s.heap.objs.size []:=Heap.DictOf.new s.heap;have hl1:(s.heap.push { cls:=.type "dict",data:=.dict #[] }).get? l=some { cls:=.type "list",dict:=none,data:=.seq items n,slots:=sl }:=Heap.get?_push_of_some _ hl;have hlD:l<s.heap.objs.size:=Heap.lt_size hl;have k0:∀b o,b<s.heap.objs.size->s.heap.get? b=some o->(s.heap.push { cls:=.type "dict",data:=.dict #[] }).get? b=some o:=fun b o _ e=>Heap.get?_push_of_some _ e;have z0:(s.heap.push { cls:=.type "dict",data:=.dict #[] }).objs.size=s.heap.objs.size+1:=Heap.size_push ..;refine⟨hnew.typeIs,F.args_dict_init_2 _ _,?_⟩;generalize s.heap.push { cls:=.type "dict",data:=.dict #[] }=h1 at hnew hl1 k0 z0;unfold Builtin.«dict.__init__»;refine wpAny_bind ?_;unfold Builtin.Dict.selfAndRest;refine wpAny_bind (wpAny_notOrdered_dict hnew.typeIs ?_);show wpAny _ _ (pure (s.heap.objs.size,[Value.ref l])) _ _ _;refine wpAny_pure ?_;show wpAny _ _ (Builtin.Dict.updateFrom "dict.__init__" s.heap.objs.size (.ref l) [] .none) _ _ _;unfold Builtin.Dict.updateFrom;refine wpAny_bind (wpAny_typeOf (T := "list") ⟨_,hl1,rfl⟩ ?_);rw[if_pos (by decide)];refine wpAny_bind (Zd7 hh hl1 fun h2 tk2 k2 z2=>?_);rw[if_pos (show(none:Option Value).isNone=true from rfl)];refine wpAny_bind (wpAny_rule ?_);have hl2:=k2 _ _ hl1;have hL2:h2.IsList l items:=⟨_,hl2,rfl,n,rfl⟩;refine wpAny_bind (wpAny_pyIter_list hL2 ?_);have hd2:h2.DictOf knd s.heap.objs.size []:=let ⟨o,es,ep,ho,r⟩:=hnew;⟨o,es,ep,k2 _ _ ho,r⟩;have hd3:(h2.push { cls:=.type "list_iterator",data:=.fields #[.ref l,.int 0 0] }).DictOf knd s.heap.objs.size []:=hd2.push _;have hsz:s.heap.objs.size<h2.objs.size:=by lia
 refine wpAny_pure ⟨plainId_quiet ZC _,?_⟩;refine ZhD (knd:=knd) (h0:=s.heap) (by simpa using hh) ht hsz (Nat.ne_of_lt (Nat.lt_trans hlD hsz)) hn (items.size-0) 0 0 0 _ rfl (Nat.zero_le _) ⟨⟨_,Heap.get?_push_size _ rfl,rfl,rfl⟩,hL2.push _⟩ hlD hd3 (fun b o hb e=>Heap.get?_push_of_some _ (k2 _ _ (k0 b o hb e))) fun h' tk hd' hb'=>?_;exact⟨rfl,q h' tk hd' fun b o e=>hb' b o (Heap.lt_size e) e⟩
end
end Srd
namespace L2
open PySem PySem.Spec PyProof.Rows PySem.W
def putAll(kvs:List (Key×V)):List (Key×V):=kvs.foldl (fun m kv=>putK m kv.1 kv.2) []
theorem Zb4:∀(kvs m:List (Key×V)),(kvs.foldl (fun m kv=>putK m kv.1 kv.2) m).length<=m.length+kvs.length
 | [],m=>Nat.le_refl _
 | kv::kvs,m=>by
  have h1:=Zb4 kvs (putK m kv.1 kv.2);have h2:=Zcw m kv.1 kv.2;rw[List.length_cons,List.foldl_cons];lia
theorem Zeg(kvs:List (Key×V)):(putAll kvs).length<=kvs.length:=by
 have:=Zb4 kvs [];rw[List.length_nil,Nat.zero_add] at this;exact this
theorem ZhY:∀{kvs:List (Key×V)}{ps:List (Key×Value)}{m:List (Key×V)}{m':List (Key×Value)},KV kvs ps->KV m m'->KV (kvs.foldl (fun m kv=>putK m kv.1 kv.2) m) (merged m' ps)
 | _,_,_,_,.nil,h=>h
 | _,_,m,m',.cons (a:=kv) (b:=p) r t,h=>by
  have e:p.1=kv.1:=r.1.symm;have h1:=h.put kv.1 r.2;have h2:=ZhY t h1;show KV (List.foldl _ (putK m kv.1 kv.2) _) (merged (stored m' p.1 p.2) _);rw[e];exact h2
theorem ZbM{κ : Type}[DecidableEq κ](k : κ):∀(kvs m:List (κ × V)),(Zct (kvs.foldl (fun m kv=>putK m kv.1 kv.2) m) k).isSome=((Zct m k).isSome || kvs.any fun kv=>decide (kv.1=k))
 | [],m=>by simp
 | kv::kvs,m=>by
  rw[List.foldl_cons,ZbM k kvs,Zjj,List.any_cons];by_cases e:k=kv.1
  ·rw[if_pos e,decide_eq_true e.symm];simp
  ·rw[if_neg e,decide_eq_false (fun z=>e z.symm)];simp
section
variable{X:Cx}
theorem Zd6(hc:X.calm=true):Zbq X (.type "dict") (fun xs H Q=>∃l ys kvs,xs=[.ref l]/\SqL X.K H l ys/\ys.length<=90000/\Paired (fun(y:V)(kv:Key×V)=>∃t,y=.ref t/\H t=some (.tup [kV kv.1,kv.2])) ys kvs/\∀d,H d=none->Q (.ref d) (upd H d (.dK (putAll kvs)))):=by
 intro pins s σ H xs us Q I r h;obtain⟨l,ys,kvs,rfl,hq,hlen,hp,q⟩:=h;obtain⟨u,rfl,ru⟩:=vals1 r;cases ru;obtain⟨its,rv,⟨o,n,ho,ocl,odi,oda⟩,hz⟩:=I.list hq;have hl:=rv.length;obtain⟨ocls,odict,odata,oslots⟩:=o;simp only at ocl odi oda;subst ocl odi oda;have key:∀{ys:List V}{kvs:List (Key×V)}{its:List Value},Paired (fun(y:V)(kv:Key×V)=>∃t,y=.ref t/\H t=some (.tup [kV kv.1,kv.2])) ys kvs->Vals ys its->∃ps:List (Key×Value),KV kvs ps/\its.length=ps.length/\∀(i:Nat) v p,its[i]?= some v->ps[i]?= some p->Srd.Zg0 (ZaB X.prog X.w) s.heap v p.1 p.2:=by
  intro ys kvs its hp
  induction hp generalizing its with
  | nil =>
   intro rv;cases rv;exact⟨[],.nil,rfl,fun i v p h=>(nomatch h)⟩
  | @cons y kv ys kvs r t ih =>
   intro rv;cases rv with
   | @cons _ v _ its ry rr =>
    obtain⟨ps,h1,h2,h3⟩:=ih rr;obtain⟨ta,rfl,ht⟩:=r;obtain rfl:v=Value.ref ta:=ry;obtain⟨_,us,rus,o,ho,hc',n,hd⟩:=I.hok ta _ ht;obtain⟨u1,u2,rfl,r1,r2⟩:=Vals.two rus;refine⟨(kv.1,u2)::ps,.cons ⟨rfl,r2⟩ h1,by rw[List.length_cons,List.length_cons,h2],fun i v p e1 e2=>?_⟩;cases i with
    | zero =>
     injection e1 with e1;injection e2 with e2;subst e1 e2;exact⟨ta,o,n,u1,rfl,ho,hc',hd,Zf6 r1⟩
    | succ i=>exact h3 i v p e1 e2
 obtain⟨ps,h1,h2,h3⟩:=key hp rv;refine Srd.Zdz (knd:=ZaB X.prog X.w) (ps:=ps) (I.ok.hd hc) ho ⟨by rw[List.size_toArray];exact h2,fun i v p e1 e2 h' hk=>?_⟩ (by rw[List.size_toArray];lia) fun h' tk hd' hk=>?_
 ·obtain⟨b,o,n,uk,e,ho2,r⟩:=h3 i v p (by rw[<- e1];simp) e2;exact⟨b,o,n,uk,e,hk b o (Heap.lt_size ho2) ho2,r⟩
 ·have hkl:kvs.length=ps.length:=h1.length;have hpl:=Zeg kvs;exact⟨.ref _,_,I.laid (t':=tk) (fun b o e=>hk b o e) (Nat.le_refl _) (show Zar X.prog X.w _ h' _ (.dK (putAll kvs)) from⟨by rw[sizeLine_eq];lia,beq_eq_false_iff_ne.mpr (Ne.symm (Nat.ne_of_lt I.big)),_,ZhY h1 .nil,hd'⟩),rfl,q _ (I.hok.fresh (Nat.le_refl _))⟩
end
end L2
namespace L2
open PySem PySem.Spec PyProof.Rows
theorem Zj9:bootBuiltins "any" = some (.builtin "any"):=by decide +kernel
section
variable{X:Cx}
theorem any_range:∀(bs:List Bool),((List.range bs.length).any fun i=>(bs[i]?).getD false)=bs.any id:=by
 intro bs;rw[Bool.eq_iff_iff,List.any_eq_true,List.any_eq_true];constructor
 ·rintro⟨i,hi,h⟩;have hi':=List.mem_range.mp hi;rw[List.getElem?_eq_getElem hi'] at h;exact⟨_,List.getElem_mem hi',h⟩
 ·rintro⟨b,hb,h⟩;obtain⟨i,hi,rfl⟩:=List.getElem_of_mem hb;exact⟨i,List.mem_range.mpr hi,by rw[List.getElem?_eq_getElem hi];exact h⟩
theorem ZgK(hc:X.calm=true):Zbq X (.builtin "any") (fun xs H Q=>∃(p:Addr)(bs:List Bool),xs=[.ref p]/\SqL X.K H p (bs.map V.bl)/\Q (.bl (bs.any id)) H):=by
 intro pins s σ H xs us Q I r h;obtain⟨p,bs,rfl,hS,q⟩:=h;obtain⟨u,rfl,ru⟩:=Vals.one r;cases ru;obtain⟨its,rv,pl,hz⟩:=I.list hS;have hl:=pl.isList;have hlen:bs.length=its.length:=by
  have:=rv.length;rw[List.length_map] at this;exact this
 refine call_any_walk (wpAny_pyIter_list hl ⟨s.heap.objs.size,[s.heap.objs.size,p],[s.heap.objs.size],its.toArray.size,_,_,fun i=>(bs[i]?).getD false,rfl,
  Walks.list (A:=X.A.in1) (I.ok.hd hc) _ p (Nat.ne_of_lt pl.lt) its.toArray,⟨⟨_,Heap.get?_push_size _ rfl,rfl,rfl⟩,hl.push _⟩,fun i v s' Q' E' hP hQ=>?_,fun h' tk hk=>?_⟩)
 ·obtain⟨b,e,e2⟩:=ZeJ rv i v (by simpa using hP);subst e2;simp only[e,Option.getD_some] at hQ;exact wpAny_truthy_bool hQ
 ·rw[List.size_toArray,<- hlen,any_range];refine⟨.bl _,H,I.kept (t':=tk) fun b o e=>hk b o (fun hm=>?_) (Heap.get?_push_of_some _ e),rfl,q⟩;rw[List.mem_singleton.mp hm] at e;exact Nat.lt_irrefl _ (Heap.lt_size e)
end
end L2
namespace Fg
open PySem L2 FgM
theorem Zdj{X:Cx}{K:PySem.W.Frag}{es:List Expr}{k:Nat}{t:TGs}{n:Nat}{pos:Pos}(hK:X.K=K)(hc:X.calm=true)(h:PGs X es t)(hn:(assignEach es X.env).length=n:=by rfl)(hst:(assignEach es X.env).findIdx? (·.1)=none:=by rfl):PG X (.Tuple es k pos) (Zmw K n t):=by
 subst hK;exact ZbH hc h hn hst
theorem ZcR{K:PySem.W.Frag}{a p:Addr}{xs:List V}{g:TG}{te:TE}{R:Hp->Prop}{σ0:St}{H0:Hp}(Pv:Nat->List V->St->Hp->Prop)(h0:Pv 0 [] σ0 H0)
  (hl:∀i ys σ H,i<=xs.length->Pv i ys σ H->SqT K H a xs/\H p=some (.lst ys))
  (hs:∀i ys x σ H,i<xs.length->xs[i]?= some x->Pv i ys σ H->g x σ H fun σ3 H4=>te σ3 H4 fun v H5=>H5 p=some (.lst ys)/\ys.length<sizeLine/\∃m',m'<xs.length-i/\CW xs.length Pv (i+1) m' (ys ++ [v]) σ3 (upd H5 p (.lst (ys ++ [v]))))
  (hd:∀ys σ H,Pv xs.length ys σ H->R H) :
  ∃W:Nat->Nat->List V->St->Hp->Prop,(∃m,W 0 m [] σ0 H0)/\∀i m ys σc H2,W i m ys σc H2->H2 p=some (.lst ys)/\(((Itt K a).stop i H2/\R H2)\/((Itt K a).go i H2/\∀x H3,(Itt K a).yld i H2 x H3->g x σc H3 fun σ3 H4=>te σ3 H4 fun v H5 =>
   H5 p=some (.lst ys)/\ys.length<sizeLine/\∃m',m'<m/\W (i+1) m' (ys ++ [v]) σ3 (upd H5 p (.lst (ys ++ [v]))))):=by
 refine⟨CW xs.length Pv,⟨_,rfl,Nat.zero_le _,h0⟩,?_⟩;rintro i m ys σ H ⟨rfl,hi,hp⟩;obtain⟨h1,h2⟩:=hl i ys σ H hi hp;refine⟨h2,?_⟩;by_cases hlt:i<xs.length
 ·refine .inr ⟨⟨xs,xs[i],h1,List.getElem?_eq_getElem hlt⟩,?_⟩;rintro x H3 ⟨rfl,hx⟩;exact hs i ys x σ _ hlt (hx xs h1) hp
 ·refine .inl ⟨⟨xs,h1,by lia⟩,hd ys σ H ?_⟩;have e:i=xs.length:=by lia
  rw[<- e];exact hp
theorem Zg6{α : Type}{l:List α}{i:Nat}{x : α}(h:l[i]?= some x):l.take (i+1)=l.take i ++ [x]:=by
 rw[List.take_add_one,h];rfl
theorem Zck{lo:Int}{n:Nat}{p:Addr}{g:TG}{te:TE}{R:Hp->Prop}{σ0:St}{H0:Hp}(Pv:Nat->List V->St->Hp->Prop)(h0:Pv 0 [] σ0 H0)
  (hl:∀i ys σ H,i<=n->Pv i ys σ H->H p=some (.lst ys))
  (hs:∀i ys σ H,i<n->Pv i ys σ H->g (.int (lo+i)) σ H fun σ3 H4=>te σ3 H4 fun v H5=>H5 p=some (.lst ys)/\ys.length<sizeLine/\∃m',m'<n-i/\CW n Pv (i+1) m' (ys ++ [v]) σ3 (upd H5 p (.lst (ys ++ [v]))))
  (hd:∀ys σ H,Pv n ys σ H->R H) :
  ∃W:Nat->Nat->List V->St->Hp->Prop,(∃m,W 0 m [] σ0 H0)/\∀i m ys σc H2,W i m ys σc H2->H2 p=some (.lst ys)/\(((Itr lo n).stop i H2/\R H2)\/((Itr lo n).go i H2/\∀x H3,(Itr lo n).yld i H2 x H3->g x σc H3 fun σ3 H4=>te σ3 H4 fun v H5 =>
   H5 p=some (.lst ys)/\ys.length<sizeLine/\∃m',m'<m/\W (i+1) m' (ys ++ [v]) σ3 (upd H5 p (.lst (ys ++ [v]))))):=by
 refine⟨CW n Pv,⟨_,rfl,Nat.zero_le _,h0⟩,?_⟩;rintro i m ys σ H ⟨rfl,hi,hp⟩;refine⟨hl i ys σ H hi hp,?_⟩;by_cases hlt:i<n
 ·refine .inr ⟨hlt,?_⟩;rintro x H3 ⟨rfl,rfl⟩;exact hs i ys σ _ hlt hp
 ·have e:i=n:=by lia
  subst e;exact .inl ⟨Nat.le_refl _,hd ys σ H hp⟩
theorem Zgz{X:Cx}{K:PySem.W.Frag}(h:X.K=K):IxR X (ZlN K):=h ▸ Z6
theorem Zdi{X:Cx}{K:PySem.W.Frag}(h:X.K=K):OpR X (compareOp .In) (rIn K false):=h ▸ ZbB
def Zl4(K:PySem.W.Frag)(ta:TE):TT:=fun σ H Q=>ta σ H fun x H'=>∃k,Zmf K x H' k/\Q k H'
theorem ZhC{X:Cx}{K:PySem.W.Frag}{a:Expr}{ta:TE}(h:X.K=K)(ha:PE X a ta)(he:∀whole,isTrue a X.env whole=(do let v <- whole;standAt a.pos;holding [v] (truthy v))) :
  PT X a (Zl4 K ta):=by
 subst h;exact Z1 ha he
end Fg
namespace L2
open PySem PySem.Spec PyProof.Rows
theorem Zcm{K:PySem.W.Frag}{a p:Addr}{xs:List V}{g:TG}{tt:TT}{te:TE}{R:Hp->Prop}{σ0:St}{H0:Hp}(Pv:Nat->List V->St->Hp->Prop)(h0:Pv 0 [] σ0 H0)
  (hl:∀i ys σ H,i<=xs.length->Pv i ys σ H->SqL K H a xs/\H p=some (.lst ys))
  (hs:∀i ys x σ H,i<xs.length->xs[i]?= some x->Pv i ys σ H->g x σ H fun σ3 H4=>tt σ3 H4 fun b H4'=>if b=true then te σ3 H4' fun v H5=>H5 p=some (.lst ys)/\ys.length<sizeLine/\∃m',m'<xs.length-i/\CW xs.length Pv (i+1) m' (ys ++ [v]) σ3 (upd H5 p (.lst (ys ++ [v])))
   else ∃m',m'<xs.length-i/\CW xs.length Pv (i+1) m' ys σ3 H4')
  (hd:∀ys σ H,Pv xs.length ys σ H->R H) :
  ∃W:Nat->Nat->List V->St->Hp->Prop,(∃m,W 0 m [] σ0 H0)/\∀i m ys σc H2,W i m ys σc H2->H2 p=some (.lst ys)/\(((Itl K a).stop i H2/\R H2)\/((Itl K a).go i H2/\∀x H3,(Itl K a).yld i H2 x H3->g x σc H3 fun σ3 H4=>tt σ3 H4 fun b H4'=>if b=true then te σ3 H4' fun v H5 =>
   H5 p=some (.lst ys)/\ys.length<sizeLine/\∃m',m'<m/\W (i+1) m' (ys ++ [v]) σ3 (upd H5 p (.lst (ys ++ [v]))) else ∃m',m'<m/\W (i+1) m' ys σ3 H4')):=by
 refine⟨CW xs.length Pv,⟨_,rfl,Nat.zero_le _,h0⟩,?_⟩;rintro i m ys σ H ⟨rfl,hi,hp⟩;obtain⟨h1,h2⟩:=hl i ys σ H hi hp;refine⟨h2,?_⟩;by_cases hlt:i<xs.length
 ·refine .inr ⟨⟨xs,xs[i],h1,List.getElem?_eq_getElem hlt⟩,?_⟩;rintro x H3 ⟨rfl,hx⟩;exact hs i ys x σ _ hlt (hx xs h1) hp
 ·have e:i=xs.length:=by lia
  subst e;exact .inl ⟨⟨xs,h1,Nat.le_refl _⟩,hd ys σ H hp⟩
end L2
namespace L2
open PySem PySem.Spec PyProof.Rows PySem.W Srd
theorem Zhs{P:Program}{w:World}{kvs:List (Key×V)}{ps:List (Key×Value)}(h:KV kvs ps):∀{es:List DictEntry},PySem.Pairs (ZaB P w) es ps->Vals (kvs.map fun p=>kV p.1) (es.map (·.key)):=by
 have h':Paired (fun(p:Key×V)(q:Key×Value)=>p.1=q.1/\RelV p.2 q.2) kvs ps:=h;clear h
 induction h' with
 | nil =>
  intro es h2;cases h2;exact .nil
 | @cons a b l m r t ih =>
  intro es h2;cases h2 with
  | cons h1 h2 h3 =>
   refine .cons ?_ (ih h3);rw[<- r.1] at h1;have h1':Zgo a.1 _=true:=h1;rcases Zaq h1' with⟨i,t,he,hk⟩|⟨x,t,he,hk⟩
   ·show RelV (kV a.1) _;rw[he];exact⟨t,hk⟩
   ·show RelV (kV a.1) _;rw[he];exact⟨t,hk⟩
section
variable{X:Cx}
theorem Zhe{es:Array DictEntry}{acc:Array Value}(hit:ItemsOf (fun i v=>∃e,es[i]?= some e/\v=e.key) acc es.size):acc.toList=es.toList.map (·.key):=by
 refine List.ext_getElem? fun j=>?_;rw[Array.getElem?_toList,List.getElem?_map,Array.getElem?_toList];cases hj:acc[j]? with
 | none =>
  have h3:acc.size<=j:=Array.getElem?_eq_none_iff.mp hj;rw[hit.1] at h3;rw[Array.getElem?_eq_none h3];rfl
 | some v =>
  obtain⟨e,h1,rfl⟩:=hit.2 j v hj;rw[h1];rfl
theorem ZfC(hc:X.calm=true):Zbq X (.type "list") (fun xs H Q=>∃(d:Addr)(kvs:List (Key×V)),xs=[.ref d]/\H d=some (.dK kvs)/\∀l,H l=none->Q (.ref l) (upd H l (.lst (kvs.map fun p=>kV p.1)))):=by
 intro pins s σ H xs us Q I r h;obtain⟨d,kvs,rfl,hd,q⟩:=h;obtain⟨u,rfl,rx⟩:=vals1 r;obtain rfl:u=.ref d:=rx;obtain⟨hl,lo,vs,kv,o,es,ep,ho,hx,hdat,hko,hpr,hnd⟩:=ZlA I.hok hd;have hvals:=Zhs kv hpr;have hes:es.size=kvs.length:=by
  have:=hvals.length
  simpa using this.symm
 refine kdl_call (Zkz lo) (I.ok.hd hc) (⟨o,ho,hx,hdat⟩:Zil s.heap d es ep) (by rw[hes];exact hl) fun h' tk acc c k e hit=>?_;have hacc:=Zhe hit;have I2:=I.laid (h':=h') (t':=tk) (a:=s.heap.objs.size) (o:=.lst (kvs.map fun p=>kV p.1)) k (Nat.le_refl _) (show Zar X.prog X.w _ h' _ (.lst (kvs.map fun p=>kV p.1)) from⟨by rw[List.length_map];exact hl,acc.toList,c,by rw[hacc];exact hvals,e⟩);exact⟨.ref s.heap.objs.size,_,I2,rfl,q _ (I.hok.fresh (Nat.le_refl _))⟩
end
end L2
namespace L2
open PySem PySem.Spec PyProof.Rows Srd
section
variable{X:Cx}
theorem Zd9:Zbq X (.type "tuple") (fun xs H Q=>∃p ys,xs=[.ref p]/\SqL X.K H p ys/\∀l o,H l=none->o.cls=.type "tuple" -> o.dict=none->Q (.ref l) (upd H l (.frz o (.tup ys)))):=by
 intro pins s σ H xs us Q I r h;obtain⟨p,ys,rfl,hq,q⟩:=h;obtain⟨u,rfl,rx⟩:=vals1 r;cases rx;obtain⟨its,r',pl,hz⟩:=I.list hq;have hlen:=r'.length;refine call_tuple_list pl.isList (fun h' kp=>?_) (by simp only[List.size_toArray] <;> lia)
 have I1:Inv X pins σ H { s with heap:=h' }:=I.kept (t':=s.toks) kp;have I2:Inv X pins σ (upd H h'.objs.size (.frz { cls:=.type "tuple",data:=.seq its.toArray } (.tup ys))) { s with heap:=h'.push { cls:=.type "tuple",data:=.seq its.toArray } } :=
  I1.laid (t':=s.toks) (fun b o e=>Heap.get?_push_of_some _ e) (Nat.le_refl _) (show Zar X.prog X.w _ _ _ (.frz { cls:=.type "tuple",data:=.seq its.toArray } (.tup ys)) from⟨Heap.get?_push_size _ rfl,hz,its,r',IsTup.new _ _⟩)
 exact⟨.ref h'.objs.size,_,I2,rfl,q _ _ (I1.hok.fresh (Nat.le_refl _)) rfl rfl⟩
end
end L2
namespace L2
open PySem PySem.Spec PyProof.Rows
section
variable{X:Cx}{C:Addr}{m x:Str}{ps:List Str}{j k:Nat}{sp:Sp}{o e:Expr}{es:List Expr}{ta:TE}{t:TA}{p pos apos:Pos}
theorem Zko(G:HasC X.prog X.w X.K X.mg X.base C x ps j sp)(hr:Room k X.A)(hg:Gl X x)(ha:PA X (e::es) t)(hk:j+1<=k:=by decide)(hdb:(x == ("__debug__" : Str))=false:=by decide)
  (he:starEach (e::es) X.env=(false,eval e X.env)::starEach es X.env:=by rfl) (hpl:(backTo pos (starEach es X.env)).any (·.1)=false:=by rfl):PE X (.Call (.Name x p) (e::es) [] pos) (Zlk C sp [] E0 t):=by
 obtain⟨f,fd,F,b,M,hm⟩:=G.ex;exact ZkC M F (hr.mono hk) hg hm b .nil ZjL ha hdb he hpl
end
end L2
namespace Stg
open PySem PyProof.Rows Sts
end Stg
namespace Fg
open PySem L2 FgM
theorem making{H:Hp}{x dx C:Addr}(hx:H x=none)(hdx:H dx=none)(hne:dx≠x):Zk H (upd (upd H dx (.own x)) x (.ins C dx [])):=(Zk.new hdx).trans (Zk.new (by
 rw[Zi hne.symm];exact hx))
end Fg
namespace L2
open PySem PySem.Spec PyProof.Rows
section
variable{X:Cx}
theorem ZeN{K:PySem.W.Frag}(hK:X.K=K):Zbq X (.builtin "len") (fun xs H Q=>∃p ys,xs=[.ref p]/\(SqL K H p ys\/SqT K H p ys)/\Q (.int ys.length) H):=hK ▸ ZD
end
end L2
namespace Fg
open PySem L2 FgM
namespace Pa
end Pa
theorem Zhq{z:Str}(h:Zmd z)(h8:z.length<=8):ZlO z=true:=by
 have h1:1<=z.length:=by
  have:0<z.cps.toList.length:=List.length_pos_iff.mpr h.1;rw[Array.length_toList] at this;exact this
 unfold ZlO;rw[decide_eq_true h1,decide_eq_true h8,Bool.true_and,Bool.true_and,List.all_eq_true];intro c hc;have:=h.2 c hc;unfold azB;simp;lia
end Fg
namespace L2
open PySem PySem.Spec PyProof.Rows PySem.W
structure XNot(K:Frag)(C D:Addr):Prop where
 ca:findIn K (.ref C) "__class__" = some (some (.builtin "object.__class__"))
 gt:specialIn K (.builtin "object.__class__") "__get__" = some (some (.builtin "getset_descriptor.__get__"))
 tk:takesIn K (.builtin "object.__class__")=some true
 ob:mroIn K C (.type "object")=some true
 ty:typeIn K (.ref D)=some (.type "type")
section
variable{prog:Program}{w:World}{A:Around}{E:Value->Shared->Prop}{s:Shared}{K:Frag}{x C D:Addr}{ox od:Obj}{f:Str}
theorem ZjV{Q:Option Value->Shared->Prop}(X:K.In s.heap)(I:InstAt s.heap x ox C (some od))(Y:XFld K C f)(N:XNot K C D)(h:Q (some (.ref C)) { s with toks:=s.toks+1 }):wpAny (model prog w) A (getAttr? (.ref x) "__class__") Q E s:=by
 have hf:findObj K C (some od) "__class__" = some (.bind (.builtin "getset_descriptor.__get__") (.builtin "object.__class__")):=findObj_data (by obtain⟨cd,hc,_⟩:=any_some Y.hd;rw[hc];rfl) N.ca N.gt N.tk;obtain⟨hp,g,d,t,os⟩:=s;have L0:=I.type (M:=model prog w);have L1:=looks_findIn (M:=model prog w) X Y.ga;have L2:=looks_find (M:=model prog w) X I hf;have L3:Looks (model prog w) hp (hookBefore (.ref C)) none:=looks_hook X ((if_pos (show onTheHeap (Value.ref C)=true from rfl)).trans Y.gt);have L4:Looks (model prog w) hp (isInstance (.ref x) (.type "BaseException")) true:=L0.andThen (looks_mroIn X Y.mb);have F0:=F.excAttr_ValueError;unfold getAttr? getAttrBy? getAttrBy;refine wpAny_bind (wpAny_mkText (wpAny_bind (wpAny_attempt (wpAny_holding (wpAny_bind (L0.at (wpAny_bind (L1.at ?_))))))));have hne:(onTheHeap (Value.ref C)&&Value.builtin "BaseException.__getattribute__" == Value.builtin "object.__getattribute__")=false:=by
  rw[show(Value.builtin "BaseException.__getattribute__" == Value.builtin "object.__getattribute__")=false by decide +kernel,Bool.and_false]
 dsimp only;rw[hne,if_neg Bool.false_ne_true];unfold getAttrByItsOwn;refine wpAny_bind (L3.at (wpAny_bind (wpAny_attempt (wpAny_holding ?_))));unfold callGetattribute boundAndCalled;rw[show(false&&onTheHeap (Value.builtin "BaseException.__getattribute__"))=false from rfl,if_neg Bool.false_ne_true,F0.ga.bind];refine wpAny_bind (wpAny_pure ?_);show wpAny _ _ (call (.builtin "BaseException.__getattribute__") [.ref x,.str "__class__" t]) _ _ _;refine wpAny_call (codeAny_call_builtin F0.ga.plain F.entry_bexc_ga ?_);refine @check_slot (model prog w) _ _ ⟨hp,g,d,t+1,os⟩ "BaseException.__getattribute__" "BaseException" "__getattribute__" (.ref x) [.str "__class__" t] [] _ (by decide +kernel) (by decide +kernel) L4 (ZgS _ _) ?_;show wpAny _ _ (Builtin.«object.__getattribute__» _) _ _ _;unfold Builtin.«object.__getattribute__»;refine wpAny_bind (wpAny_pure (wpAny_bind (wpAny_pure (wpAny_bind (L0.at (wpAny_bind (L2.at ?_)))))));refine wpAny_bind (wpAny_holding (wpAny_call (class_get (s:=⟨hp,g,d,t+1,os⟩) (ox:=ox) (od:=some od) X I N.ob (wpAny_pure ?_))));show wpAny _ _ (handedOut (.ref C)) _ _ _;rw[handedOut_of rfl];exact wpAny_pure (wpAny_pure h)
theorem ZiR{c:Value}{Q:Value->Shared->Prop}(X:K.In s.heap)(I:InstAt s.heap x ox C (some od))(Y:XFld K C f)(N:XNot K C D)(hne:(Value.ref C == c)=false)(e:kitCls K (.ref C) c=some false)
  (h:Q (.bool false) { s with toks:=s.toks+1 }):wpAny (model prog w) A (call (.builtin "isinstance") [.ref x,c]) Q E s:=by
 obtain⟨cdD,hcD,_⟩:=any_some Y.hd;refine call_isinstance (S:=fun _ R s=>(K.In s.heap/\InstAt s.heap x ox C (some od))/\R (.ok (.ret (.bool false))) { s with toks:=s.toks+1 }) (fun prog w A R s hs=>isinstance_outer ?_ (fun z=>nomatch z)) ⟨⟨X,I⟩,h⟩
 obtain⟨⟨X,I⟩,hq⟩:=hs;have hisD:Looks (model prog w) s.heap (isType (.ref C)) true:=by
  unfold clsIn at hcD
  split at hcD
  ·rename_i c' d' cd' sl' ho
   intro A' Q' E' s' k q;unfold isType loadHead;exact wpAny_bind (wpAny_loadPart (k _ _ (X _ _ ho)) (wpAny_pure q))
  ·cases hcD
 obtain⟨h0,g,d,tt,os⟩:=s;have L0:=I.type (M:=model prog w);unfold Builtin.«isinstance.nested»;refine wpAny_bind (L0.at ?_);rw[if_neg (by rw[hne];decide)];obtain⟨hty,his,hsub⟩:=kit_cls (M:=model prog w) X e;refine wpAny_bind (hty.at ?_);rw[if_pos (by decide)]
 k_delta "plainIsInstance"
 refine wpAny_bind (wpAny_bind (his.at ?_));simp only[Bool.not_true,Bool.false_eq_true,if_false];refine wpAny_bind ((L0.andThen hsub).at ?_);simp only[Bool.false_eq_true,if_false];refine wpAny_bind (ZjV X I Y N ?_);refine wpAny_bind (hisD.at ?_);simp only[Bool.not_true,Bool.false_eq_true,if_false];refine wpAny_bind (wpAny_rule ?_);refine hsub.at ?_
 first
  | exact wpAny_pure hq
  | exact wpAny_pure (wpAny_pure hq)
  | exact wpAny_bind (wpAny_pure (wpAny_pure hq))
theorem Zji{Q:Value->Shared->Prop}(ty:∀M,Looks M s.heap (typeOf (.ref x)) (.ref C))(h:Q (.bool true) s):wpAny (model prog w) A (call (.builtin "isinstance") [.ref x,.ref C]) Q E s:=by
 refine call_isinstance (S:=fun _ R s=>(∀M,Looks M s.heap (typeOf (.ref x)) (.ref C))/\R (.ok (.ret (.bool true))) s) (fun prog w A R s hs=>isinstance_outer ?_ (fun z=>nomatch z)) ⟨ty,h⟩
 obtain⟨LT,hq⟩:=hs;obtain⟨h0,g,d,tt,os⟩:=s;unfold Builtin.«isinstance.nested»;refine wpAny_bind ((LT _).at ?_);rw[if_pos (beq_self_eq_true _)]
 first
  | exact wpAny_bind (wpAny_rule (wpAny_pure hq))
  | exact wpAny_bind (wpAny_rule hq)
  | ((repeat lk);exact hq)
end
section
variable{X:Cx}
theorem Zch{K:Frag}(hK:X.K=K):Zbq X (.builtin "isinstance") (fun xs H Q=>∃a oe C D b,xs=[.ref a,.ref D]/\H a=some (Known a oe)/\oe.cls=.ref C /\
    ((C=D/\b=true)\/(C≠D/\isClsIn K D=true/\typeIn K (.ref D)=some (.type "type")/\mroIn K C (.ref D)=some true/\b=true) \/
     (C≠D/\isClsIn K D=true/\mroIn K C (.ref D)=some false/\b=false/\∃dx fs f,oe.dict=some dx/\(∃vs,oe.data=.fields vs)/\H dx=some (.xd fs)/\XFld K C f/\XNot K C D))/\Q (.bl b) H):=by
  subst hK;intro pins s σ H xs us Q I r h;obtain⟨a,oe,C,D,b,rfl,hk,hc,h1,q⟩:=h;rcases h1 with⟨rfl,rfl⟩|⟨h1,h2,h3,h4,rfl⟩|⟨h1,h2,h3,rfl,dx,fs,f,hd,⟨vs,hf⟩,hx,Y,N⟩
  · obtain⟨u,v,rfl,rx,ry⟩:=Vals.two r;obtain rfl:u=Value.ref a:=rx;obtain rfl:v=Value.ref C:=ry;have ho:s.heap.get? a=some oe:=(I.hok a _ hk).1;exact Zji (fun M=>hc ▸ (Looks.ld ho).andThen .now) ⟨.bl true,H,I,rfl,q⟩
  · exact ZhK pins s σ H _ us Q I r ⟨a,oe,C,D,rfl,hk,hc,h1,h2,h3,h4,q⟩
  · obtain⟨u,v,rfl,rx,ry⟩:=Vals.two r;obtain rfl:u=Value.ref a:=rx;obtain rfl:v=Value.ref D:=ry;have ho:s.heap.get? a=some oe:=(I.hok a _ hk).1;obtain⟨mA,n,hr⟩:=(show Zar X.prog X.w H s.heap dx (.xd fs) from I.hok dx _ hx);obtain⟨od,hod,hlk⟩:=ZcU n;have J:InstAt s.heap a oe C (some od):=⟨ho,hc,by unfold notCls;rw[hf],by rw[hd];exact hod⟩;refine ZiR I.kIn J Y N (by simpa using h1) ?_ ⟨.bl false,H,I.tok _,rfl,q⟩;unfold kitCls;dsimp only;unfold isClsIn at h2;rw[h2,N.ty,if_pos (by decide)];exact h3
end
end L2
namespace L2
open PySem PySem.Spec PyProof.Rows
section
variable{X:Cx}{rest:List ExceptHandler}{pos:Pos}
theorem Zh9{t:Expr}{n:Str}{b₀ : Stmt}{sb:List Stmt}{tt:TE}{tu:Addr->TS}{i:Nat}(ht:∀e,PE (X.hd e) t tt)(hN:X.N.Nodup)(hi:X.N[i]?= some n)(hk:X.env.scope.names.lookup n=some .local)(hs:∀e,PSs (X.hd e) (b₀ :: sb) (tu e)):PH X (.ExceptHandler (some t) (some n) (b₀ :: sb) pos::rest)
  (fun D σ H e oe=>tt σ H fun v H1=>∃Ds C f,Spec X.K H1 v Ds/\oe.cls=.ref C/\(∀D∈Ds,PySem.W.mroIn X.K C (.ref D)=some (f D))/\Ds.any f=true/\H1 e=some (Known e oe)/\tu e (unb D i) (σ.set i (some (.ref e))) H1):=by
 intro pins s σ H D e oe T oT ts vs I fT hd h1 hdT h3 he h;refine wpAny_handleBy_cons (codeAny_handlers_test (wpAny_mono ((ht e) ((T,oT)::pins) s σ H _ (I.hd e) h) (fun u s1 q=>?_) fun _ _ z=>z.elim)) (by intro z;cases z);obtain⟨v,H1,I1,r,Ds,C,f,hsp,hc,hb,hany,hkn,q⟩:=q;have I1':=I1.unhd I.ok;have hoe:=(I1'.hok e _ hkn).1;refine Zlr (f:=f) I1' hsp r hoe hc hb ?_;rw[hany];refine codeAny_handlers_suite_as ?_;have hTo:=(I1'.pin (T,oT) (List.mem_append_right _ (List.mem_cons_self ..))).1;refine ZfG hoe hd h1 hTo hdT h3 ?_;refine Zeu I1'.drop1 hN hi (.inl hk) (show RelV (.ref e) (.ref e) from rfl) (fun s2 I2=>?_) (.inr hk);refine wpAny_mono ((hs e) pins s2 _ H1 (unb D i) (I2.hd e) q) (fun fl s3 q3=>?_) fun _ _ z=>z.elim;show wpAny _ X.A (bindName X.env n .none >>= fun _=>unbindBehindTheSuite X.env n pos) _ _ s3;cases fl with
 | next =>
  obtain⟨σ',H',I3,q3⟩:=q3;exact ZcN (I3.unhd I.ok) hN hi hk fun s' I'=>⟨_,_,I',q3⟩
 | brk =>
  obtain⟨σ',H',I3,q3⟩:=q3;exact ZcN (I3.unhd I.ok) hN hi hk fun s' I'=>⟨_,_,I',q3⟩
 | cont =>
  obtain⟨σ',H',I3,q3⟩:=q3;exact ZcN (I3.unhd I.ok) hN hi hk fun s' I'=>⟨_,_,I',q3⟩
 | ret u =>
  obtain⟨v3,σ',H',I3,r3,q3⟩:=q3;exact ZcN (I3.unhd I.ok) hN hi hk fun s' I'=>⟨v3,_,_,I',r3,q3⟩
end
theorem Zif(T p:Str)(n:Nat)(hn:n<=T.length):(decide (fromIndex T.length (n:Int)+p.length<=T.length)&&Builtin.Str.subAt T p (fromIndex T.length (n:Int)))=decide (p.cps.toList <+: T.cps.toList.drop n):=by
 have e:fromIndex T.length (n:Int)=n:=by
  unfold fromIndex;rw[if_neg (by lia)];lia
 rw[e,StrLaws.subAt_eq,Bool.eq_iff_iff,Bool.and_eq_true,decide_eq_true_eq,decide_eq_true_eq,beq_iff_eq,List.prefix_iff_eq_take];have hp:p.cps.toList.length=p.length:=Array.length_toList ..;have hT:T.cps.toList.length=T.length:=Array.length_toList ..;rw[hp];constructor
 ·rintro⟨_,h⟩;exact h.symm
 ·intro h;refine⟨?_,h.symm⟩;have:=congrArg List.length h;rw[hp,List.length_take,List.length_drop,hT] at this;lia
section
variable{X:Cx}
theorem ZiS:MtM X "str.startswith" (fun x vs H Q=>∃(T p:Str)(n:Nat),x=.str T/\vs=[.str p,.int (n:Int)]/\n<=T.length/\Q (.bl (decide (p.cps.toList <+: T.cps.toList.drop n))) H):=by
 intro pins s σ H x vs v us Q I rx rv h;obtain⟨T,p,n,rfl,rfl,hn,q⟩:=h;obtain⟨t,rfl⟩:=rx;obtain⟨u1,u2,rfl,⟨t1,rfl⟩,⟨t2,rfl⟩⟩:=vals2 rv;have g:=gives_str_startswith_from T p (n:Int) t t1 t2;have e:=Zif T p n hn;have e':((fromIndex T.length (n:Int)+p.length<=T.length:Bool)&&Builtin.Str.subAt T p (fromIndex T.length (n:Int)))=decide (p.cps.toList <+: T.cps.toList.drop n):=e;rw[e'] at g;exact call_gives PySem.F.slot_str_startswith (typeIs_str _ _ _) PySem.F.entry_str_startswith (PySem.F.args_str_startswith_3 _ _ _) g ⟨.bl _,H,I,rfl,q⟩
theorem Zfz:OpR X (compareOp .LtE) (fun x y H Q=>∃i j:Str,x=.str i/\y=.str j/\Q (.bl (!decide (j.cps.toList<i.cps.toList))) H):=by
 intro pins s σ H x y v u Q I rx ry h;obtain⟨i,j,rfl,rfl,q⟩:=h;obtain⟨t,rfl⟩:=rx;obtain⟨t',rfl⟩:=ry;exact ZkQ ⟨.bl _,H,I,rfl,q⟩
theorem ZjX(a b:Nat):(!decide (([b]:List Nat) < [a]))=decide (a<=b):=by
 by_cases h:a<=b
 ·rw[decide_eq_true h,decide_eq_false (by simp[List.cons_lt_cons_iff];lia)];rfl
 ·rw[decide_eq_false h,decide_eq_true (by simp[List.cons_lt_cons_iff];lia)];rfl
end
end L2
namespace L2
open PySem PySem.Spec PyProof.Rows PySem.SeqAt
theorem Zhd(a d:Value):argsOk "max" ⟨[a],[(Str.ofString "default",d)]⟩:=by unfold argsOk;kernel_rfl
section
variable{X:Cx}{pins:List (Addr×Obj)}{σ : St}{H:Hp}{s:Shared}{Q:VK}{l p it:Addr}{ns:List Int}{ud:Value}
theorem Zi6(hc:X.calm=true)(hu:X.A.in1.units<cLine)(ok:X.Ok)(hp0:H p=none)(hq:∀o,SqL X.K (upd H p o) l (ns.map V.int))(q:∀M,M∈ns->(∀x∈ns,x<=M)->Q (.int M) (upd H p (.lst []))) :
  ∀(r i:Nat)(b:Int)(s:Shared),ns.length-(i+1)=r->i<ns.length->b∈ns->(∀x∈ns.take (i+1),x<=b)->Inv (Zdh X) pins σ (upd H p (.lst [.int b,.int b])) s->s.heap.IsListIter it l (i+1)->ZcK (Zdh X) pins (upd H p (.lst [.int b,.int b])) it ->
   codeAny (model X.prog X.w) X.A (.builtin "max.loop" ⟨[.ref it,.none,.ref p],[(Str.ofString "default",ud)]⟩) (ZmQ X pins σ Q) s:=by
 have hname:(toString "max" ++ toString ".loop" : String)= "max.loop" := by decide
 intro r
 induction r with
 | zero =>
  intro i b s hr hi hb hle I st hf;have hp:(upd H p (.lst [.int b,.int b])) p=some (.lst [.int b,.int b]):=Zb;obtain⟨_,its,n,rv,_,e⟩:=I.lstM hp;obtain⟨ub,uk,rfl,rb,rk⟩:=vals2 rv;refine codeAny_builtin PySem.F.entry_max_loop ?_;rw[Around.under_plainId PySem.F.plain_max_loop _];show wpAny _ X.A.in1 (seqItems? (.ref p) >>= _) _ _ _;refine wpAny_bind (wpAny_seqItems e rfl ?_);show wpAny _ X.A.in1 (tryCatch (pyNext (.ref it)) _ >>= _) _ _ _;refine wpAny_bind (wpAny_tryCatch (ZiB hc I st (hq _) (by rw[List.length_map];lia) hf fun s1 I1=>?_));obtain⟨_,its,n,rv,_,e⟩:=I1.lstM hp;show wpAny _ X.A.in1 (updateSeq p (fun _=>#[]) >>= _) _ _ _;refine wpAny_bind (wpAny_updateSeq e rfl (wpAny_bind (wpAny_letGo (wpAny_pure ?_))));have I2:=Inv.out1 ok (I1.lset (f:=fun _=>#[]) (t':=s1.toks) (its':=[]) hp e rfl .nil (Nat.zero_le _));rw[ZfR] at I2;refine⟨.int b,_,I2,rb,q b hb fun x hx=>hle x ?_⟩;rw[List.take_of_length_le (by lia)];exact hx
 | succ r ih =>
  intro i b s hr hi hb hle I st hf;have hp:(upd H p (.lst [.int b,.int b])) p=some (.lst [.int b,.int b]):=Zb;obtain⟨_,its,n,rv,_,e⟩:=I.lstM hp;obtain⟨ub,uk,rfl,rb,rk⟩:=vals2 rv;have hi1:i+1<ns.length:=by lia
  have hx:(ns.map V.int)[i+1]?= some (.int (ns[i+1]'hi1)):=by rw[List.getElem?_map,List.getElem?_eq_getElem hi1];rfl
  have hxm:ns[i+1]'hi1∈ns:=List.getElem_mem _;have htk:ns.take (i+1+1)=ns.take (i+1) ++ [ns[i+1]'hi1]:=List.take_succ_eq_append_getElem hi1;generalize ns[i+1]'hi1=a at hx hxm htk;refine codeAny_builtin PySem.F.entry_max_loop ?_;rw[Around.under_plainId PySem.F.plain_max_loop _];show wpAny _ X.A.in1 (seqItems? (.ref p) >>= _) _ _ _;refine wpAny_bind (wpAny_seqItems e rfl ?_);show wpAny _ X.A.in1 (tryCatch (pyNext (.ref it)) _ >>= _) _ _ _;refine wpAny_bind (wpAny_tryCatch (ZgH I st (hq _) hx hf fun u s1 I1 st1 ru=>?_));obtain⟨ta,rfl⟩:=ru;obtain⟨tb,rfl⟩:=rk;show wpAny _ X.A.in1 (tryCatch (holding [Value.int a ta,Value.int a ta] (richCompare .Gt (.int a ta) (.int b tb) >>= _)) _ >>= _) _ _ _;refine wpAny_bind (wpAny_tryCatch (wpAny_holding (wpAny_bind (show wpAny _ _ (compareOp .Gt (.int a ta) (.int b tb)) _ _ _ from gt_int ?_))));refine wpAny_bind (wpAny_holding (wpAny_truthy_bool ?_));refine wpAny_bind (wpAny_letGo (wpAny_pure ?_));obtain⟨_,its2,n2,rv2,_,e2⟩:=I1.lstM hp;by_cases c:b<a
  ·rw[decide_eq_true c];simp only[if_true];refine wpAny_bind (wpAny_updateSeq e2 rfl (wpAny_bind (wpAny_letGo ?_)));rw[hname];have I2:=I1.lset (f:=fun _=>#[.int a ta,.int a ta]) (t':=s1.toks) (its':=[.int a ta,.int a ta]) (ys:=[.int a,.int a]) hp e2 rfl (.cons ⟨ta,rfl⟩ (.cons ⟨ta,rfl⟩ .nil)) (by show 2<=sizeLine;decide);have hf2:=Zkf (o:=.lst [.int a,.int a]) hf ⟨_,hp⟩;rw[ZfR] at I2 hf2;refine wpAny_pure ⟨plainId_quiet PySem.F.plain_max_loop _,ih (i+1) a _ (by lia) hi1 hxm (fun x hx=>?_) I2 ?_ hf2⟩
   ·rw[htk] at hx;rcases List.mem_append.mp hx with hx|hx
    ·have:=hle x hx;lia
    ·rw[List.mem_singleton.mp hx];exact Int.le_refl _
   ·obtain⟨o,eo,_,back⟩:=Zfb st1;exact back _ ((Heap.get?_update_other _ _ (Zm hp hf.1)).trans eo)
  ·rw[decide_eq_false c];simp only[Bool.false_eq_true,if_false];refine wpAny_bind (wpAny_letGo ?_);rw[hname];refine wpAny_pure ⟨plainId_quiet PySem.F.plain_max_loop _,ih (i+1) b _ (by lia) hi1 hb (fun x hx=>?_) I1 st1 hf⟩;rw[htk] at hx;rcases List.mem_append.mp hx with hx|hx
   ·exact hle x hx
   ·rw[List.mem_singleton.mp hx];lia
def Zje(K:PySem.W.Frag)(x d:V)(H:Hp)(Q:VK):Prop := ∃(l:Addr)(ns:List Int),x=.ref l/\SqL K H l (ns.map V.int)/\∀p,H p=none->(∀o,SqL K (upd H p o) l (ns.map V.int))/\(ns=[]->Q d (upd H p (.lst [])))/\∀M,M∈ns->(∀x∈ns,x<=M)->Q (.int M) (upd H p (.lst []))
theorem Zhv{x d:V}{u:Value}(hc:X.calm=true)(hu:X.A.in1.units<cLine)(I:Inv X pins σ H s)(rx:RelV x u)(rd:RelV d ud)(h:Zje X.K x d H Q) :
  wpAny (model X.prog X.w) X.A (call (.builtin "max") [u] [(Str.ofString "default",ud)]) (EP X pins σ Q) X.xe s:=by
 have hname:(toString "max" ++ toString ".loop" : String)= "max.loop" := by decide
 obtain⟨l,ns,rfl,hq,alt⟩:=h;cases rx;obtain⟨its,rv,pl,hz⟩:=I.list hq;refine PyProof.Rows.kmk_tree PySem.F.kind_max PySem.F.plain_max PySem.F.entry_max (Zhd _ _) ?_;show wpAny _ X.A.in1 (Builtin.Builtins.bindParams "max" ["key","default"] 0 ⟨[],[(Str.ofString "default",ud)]⟩ >>= _) _ _ s;refine wpAny_bind (wpAny_of_eq (show Builtin.Builtins.bindParams "max" ["key","default"] 0 ⟨[],[(Str.ofString "default",ud)]⟩=pure [none,some ud] from rfl) ?_);refine wpAny_bind (wpAny_pure ?_);refine wpAny_bind (wpAny_pyIter_list pl.isList ?_);refine wpAny_bind (wpAny_newList ?_ (Nat.zero_le _));rw[hname];refine wpAny_pure ⟨plainId_quiet PySem.F.plain_max_loop _,?_⟩;have hS:(s.heap.push { cls:=.type "list_iterator",data:=.fields #[.ref l,.int 0 0] }).objs.size=s.heap.objs.size+1:=size_push' ..;have I0:Inv (Zdh X) pins σ H { s with heap:=s.heap.push { cls:=.type "list_iterator",data:=.fields #[.ref l,.int 0 0] },toks:=s.toks }:=I.in1.kept fun b o e=>Heap.get?_push_of_some _ e;have I1:=I0.lnew (its:=[]) (t':=s.toks) .nil (Nat.zero_le _);have fr:H (s.heap.push { cls:=.type "list_iterator",data:=.fields #[.ref l,.int 0 0] }).objs.size=none:=I0.fresh;have ne:s.heap.objs.size≠(s.heap.push { cls:=.type "list_iterator",data:=.fields #[.ref l,.int 0 0] }).objs.size:=by rw[hS];exact Nat.ne_of_lt (Nat.lt_succ_self _)
 have hf:ZcK (Zdh X) pins (upd H (s.heap.push { cls:=.type "list_iterator",data:=.fields #[.ref l,.int 0 0] }).objs.size (.lst [])) s.heap.objs.size:=I.in1.fpOk (Nat.le_refl _) (by rw[Zi ne];exact I.fresh);have st:((s.heap.push { cls:=.type "list_iterator",data:=.fields #[.ref l,.int 0 0] }).push { cls:=.type "list",data:=.seq ([]:List Value).toArray }).IsListIter s.heap.objs.size l 0:=⟨_,Heap.get?_push_of_some _ (Heap.get?_push_size _ rfl),rfl,rfl⟩;have hp0:(upd H (s.heap.push { cls:=.type "list_iterator",data:=.fields #[.ref l,.int 0 0] }).objs.size (.lst [])) (s.heap.push { cls:=.type "list_iterator",data:=.fields #[.ref l,.int 0 0] }).objs.size=some (.lst []):=Zb;obtain⟨_,its0,n0,rv0,_,e0⟩:=I1.lstM hp0;cases rv0;refine codeAny_builtin PySem.F.entry_max_loop ?_;rw[Around.under_plainId PySem.F.plain_max_loop _];show wpAny _ X.A.in1 (seqItems? (.ref _) >>= _) _ _ _;refine wpAny_bind (wpAny_seqItems e0 rfl ?_);show wpAny _ X.A.in1 (tryCatch (pyNext (.ref s.heap.objs.size)) _ >>= _) _ _ _;obtain⟨hq0,q0,q1⟩:=alt _ fr;cases ns with
 | nil =>
  refine wpAny_bind (wpAny_tryCatch (ZiB hc I1 st (hq0 _) (Nat.zero_le _) hf fun s1 I2=>?_));refine wpAny_bind (wpAny_rule (wpAny_pure ?_));exact⟨d,_,Inv.out1 I.ok I2,rd,q0 rfl⟩
 | cons a ns =>
  refine wpAny_bind (wpAny_tryCatch (ZgH (x:=.int a) I1 st (hq0 _) rfl hf fun u s1 I2 st1 ru=>?_));obtain⟨_,its2,n2,rv2,_,e2⟩:=I2.lstM hp0;show wpAny _ X.A.in1 (updateSeq _ (fun _=>#[u,u]) >>= _) _ _ _;refine wpAny_bind (wpAny_updateSeq e2 rfl ?_);rw[hname];have I3:=I2.lset (f:=fun _=>#[u,u]) (t':=s1.toks) (its':=[u,u]) (ys:=[.int a,.int a]) hp0 e2 rfl (.cons ru (.cons ru .nil)) (by show 2<=sizeLine;decide);have hf2:=Zkf (o:=.lst [.int a,.int a]) hf ⟨_,hp0⟩;rw[ZfR] at I3 hf2;refine wpAny_pure ⟨plainId_quiet PySem.F.plain_max_loop _,Zi6 (ns:=a::ns) hc hu I.ok fr hq0 q1 _ 0 a _ rfl (Nat.zero_lt_succ _) (List.mem_cons_self ..) (fun x hx=>?_) I3 ?_ hf2⟩
  ·rw[List.mem_singleton.mp hx];exact Int.le_refl _
  ·obtain⟨o,eo,_,back⟩:=Zfb st1;exact back _ ((Heap.get?_update_other _ _ (Zm hp0 hf.1)).trans eo)
end
section
variable{X:Cx}{e dx:Expr}{te td:TE}{p pos kp:Pos}
theorem Zjq(hu:X.A.units+200<cLine)(hc:X.calm=true)(hgm:Gl X (Str.ofString "max")) (hmm:X.mg (Str.ofString "max")=none) (pa:PA X [e] (Zb8 te Zga)) (hde:PE X dx td)
  (hst:backTo pos (starEach [e] X.env)=(false,eval e X.env)::backTo pos (starEach [] X.env):=by rfl) (hpl:(backTo pos (starEach [e] X.env)).any (·.1)=false:=by rfl) :
  PE X (.Call (.Name (Str.ofString "max") p) [e] [⟨some (Str.ofString "default"),dx,kp⟩] pos) (fun σ H Q=>te σ H fun v H1=>td σ H1 fun d H2=>Zje X.K v d H2 Q):=by
 intro pins s σ H Q I h;refine wpAny_Call_Name_kw (Zfo I hgm hmm Zk4 ?_);refine callWith_kw (thn (pa pos pins s σ H (fun vs H1=>match vs with | [v]=>td σ H1 fun d H2=>Zje X.K v d H2 Q|_=>False) I h) fun us s1 ⟨vs,H1,I1,r,q⟩=>?_) hst hpl
 match vs,r,q with
 | [v],r,q =>
  obtain⟨u,rfl,ru⟩:=r.one;have pk:PK X [⟨some (Str.ofString "default"),dx,kp⟩] (Zb8 td Zga):=ZkH hde Zlb;refine thn (pk pos pins s1 σ H1 (fun zs H2=>match zs with | [d]=>Zje X.K v d H2 Q|_=>False) I1 q) fun ws s2 ⟨zs,H2,I2,rz,q2⟩=>?_
  match zs,rz,q2 with
  | [d],rz,q2 =>
   obtain⟨ud,rfl,rd⟩:=vals1 rz;exact Zhv hc (by show X.A.units+1<cLine;lia) I2 ru rd q2
end
end L2
namespace L2
open PySem PySem.Spec PyProof.Rows
section
variable{prog:Program}{w:World}{A:Around}{E:Value->Shared->Prop}{s:Shared}
theorem Zf1{d:Addr}{o:Obj}(hd:(d == sysModules)=false)(ho:s.heap.get? d=some o)(hc:o.cls=.type "dict") {Q:Value->Shared->Prop}
  (q:Q (.ref s.heap.objs.size) { s with heap:=s.heap.push { cls:=.type "dict_items",data:=.fields #[.ref d] } }) {pos:Pos}:wpAny (model prog w) A (callWith pos (.builtin "dict.items") [.ref d] [] []) Q E s:=by
 have hT:s.TypeIs (.ref d) "dict" := ⟨o,ho,hc⟩;refine Calls.callWith_builtin rfl (PySem.evalArgs_none ?_);refine wpAny_call_entry F.slot_dict_items hT F.entry_dict_items ?_ (F.args_dict_items_1 _);unfold Builtin.«dict.items»;refine wpAny_bind ?_;unfold Builtin.Dict.noArgs;refine wpAny_bind (wpAny_notOrdered_dict hT ?_);show wpAny _ _ (pure d) _ _ s;refine wpAny_pure ?_;show wpAny _ _ (Builtin.Dict.showsAll d >>= _) _ _ s;unfold Builtin.Dict.showsAll;rw[if_neg (by rw[hd];exact Bool.false_ne_true)];refine wpAny_bind (wpAny_pure ?_);exact wpAny_bind (wpAny_newObj_type (wpAny_pure ⟨_,rfl,q⟩))
theorem Zf4{v d:Addr}{o:Obj}{es:Array DictEntry}{ep:Nat}{Q:Value->Shared->Prop}(hv:s.heap.IsItemsView v d)(ho:s.heap.get? d=some o)(hdat:o.data=.dict es ep)
  (hQ:Q (.ref s.heap.objs.size) { s with heap:=s.heap.push { cls:=.type "dict_itemiterator",data:=.fields #[.none,.bool false,.ref d,.int 0 0,.int es.size 0,.int ep 0,.none,.none] } }) :
  wpAny (model prog w) A (pyIter (.ref v)) Q E s:=by
 obtain⟨ov,hov,hcv,hdv⟩:=id hv;refine wpAny_pyIter_slot hv.typeIs F.slot_dict_items_iter (wpAny_call_entry F.slot_dict_items_iter hv.typeIs F.entry_dict_items_iter ?_ (F.args_dict_items_iter_1 _));unfold Builtin.«dict_items.__iter__»;refine wpAny_bind (wpAny_pure (wpAny_bind ?_));unfold Builtin.Dict_items.dictOf;refine wpAny_bind (wpAny_field hov hdv (x:=.ref d) rfl (wpAny_pure (wpAny_bind ?_)));unfold Builtin.Dict_items.newIterator;refine wpAny_bind (wpAny_dictEntries ho hdat (wpAny_bind (wpAny_dictEpoch ho hdat ?_)));have hown:Builtin.Dict_items.ownsTuple "dict_itemiterator" = true:=by decide
 simp only[hown,if_true];refine wpAny_newObj_type (wpAny_pure ⟨_,rfl,"dict_itemiterator",_,⟨_,Heap.get?_push_size _ rfl,rfl⟩,F.slot_dict_itemiterator_next.lookup,?_⟩)
  (by simp only[sizeOk,Builtin.Dict_items.ownedTupleFields,List.size_toArray,List.length_append,List.length_cons,List.length_nil,sizeLine_eq];lia)
 simpa[rawInt,Builtin.Dict_items.ownedTupleFields] using hQ
set_option maxHeartbeats 1000000 in
theorem ZfZ{it d:Addr}{od:Obj}{es:Array DictEntry}{i ep:Nat}{ok ov:Value}{Q:Option Value->Shared->Prop}(hit:IsItemIter s.heap it d i es.size ep ok ov)(hod:s.heap.get? d=some od)(hdd:od.data=.dict es ep)(hlt':i<es.size)
  (hQ:∀h',IsItemIterOut h' it d (i+1) es.size ep es[i].key es[i].val s.heap.objs.size->h'.get? s.heap.objs.size=some { cls:=.type "tuple",data:=.seq #[es[i].key,es[i].val] }->h'.objs.size=s.heap.objs.size+1 ->
   (∀b o,b≠it->s.heap.get? b=some o->h'.get? b=some o)->Q (some (.ref s.heap.objs.size)) { s with heap:=h' }) :
  wpAny (model prog w) A (pyNext (.ref it)) Q E s:=by
 obtain⟨hp,g,dr,tk,os⟩:=s;have hT:Shared.TypeIs ⟨hp,g,dr,tk,os⟩ (.ref it) "dict_itemiterator" := ⟨_,hit,rfl⟩;unfold pyNext;refine wpAny_bind (wpAny_attempt (wpAny_callSpecial?_slot (name:=Str.ofString "__next__") hT F.slot_dict_itemiterator_next (wpAny_call_entry F.slot_dict_itemiterator_next hT F.entry_dict_itemiterator_next ?_ (F.args_dict_itemiterator_next_1 _))));refine wpAny_bind (wpAny_pure (wpAny_bind (wpAny_bind ?_)))
 first|refine wpAny_bind (wpAny_typeNameOfWhole_itemiter hT (wpAny_pure ?_))|refine wpAny_bind (wpAny_typeNameOf_itemiter hT (wpAny_pure ?_))
 refine wpAny_bind (wpAny_fieldsOf hit rfl ?_);have hown:Builtin.Dict_items.ownsTuple "dict_itemiterator" = true:=by decide
 simp only[hown,if_true];show wpAny _ _ (if(Value.ref d == Value.none)=true then _ else _) _ _ _
 rw[if_neg (show ¬ ((Value.ref d == Value.none)=true) from Bool.false_ne_true)];refine wpAny_bind (wpAny_pure (wpAny_bind (wpAny_dictEntries hod hdd ?_)));rw[if_neg (by simp)];refine wpAny_bind (wpAny_pure (wpAny_bind (wpAny_dictEpoch hod hdd ?_)));rw[if_neg (by simp)];refine wpAny_pure ?_;simp only[show ¬ ((i:Int)<0) from by lia,if_false,Int.toNat_natCast,Array.getElem?_eq_getElem hlt'];refine wpAny_bind ?_
 first|refine wpAny_bind (wpAny_typeNameOfWhole_itemiter hT (wpAny_pure ?_))|refine wpAny_bind (wpAny_typeNameOf_itemiter hT (wpAny_pure ?_))
 refine wpAny_bind (wpAny_isOneOf_itemiter hT ?_);show wpAny _ _ (setField (.ref it) 3 (rawInt ((i:Int)+1)) >>= _) _ _ ⟨hp,g,dr,tk,os⟩;refine wpAny_bind (wpAny_setField_rec hit (by simp) fun h₁ he₁ hs₁=>?_)
 replace hs₁ : Heap.SameBut it hp h₁ := hs₁
 replace he₁ : IsItemIter h₁ it d (i+1) es.size ep ok ov:=by
  have e:((i+1:Nat):Int)=(i:Int)+1:=by lia
  unfold IsItemIter;rw[e];simpa[rawInt] using he₁
 have hT₁ : Shared.TypeIs ⟨h₁,g,dr,tk,os⟩ (.ref it) "dict_itemiterator" := ⟨_,he₁,rfl⟩;refine wpAny_bind (wpAny_holding (wpAny_bind (wpAny_isOneOf_itemiter hT₁ (wpAny_bind (wpAny_isOneOf_itemiter hT₁ ?_)))));show wpAny _ _ (Builtin.Dict_items.pairFromOwner (.ref it) 6 es[i].key es[i].val) _ _ ⟨h₁,g,dr,tk,os⟩;unfold Builtin.Dict_items.pairFromOwner;refine wpAny_bind (wpAny_newTuple ?_);have he₂ : IsItemIter (h₁.push { cls:=.type "tuple",data:=.seq #[es[i].key,es[i].val] }) it d (i+1) es.size ep ok ov:=Heap.get?_push_of_some _ he₁;generalize hh₂ : h₁.push { cls:=.type "tuple",data:=.seq #[es[i].key,es[i].val] }=h₂ at he₂;have hz₁ : h₁.objs.size=hp.objs.size:=hs₁.1;have hil:it<hp.objs.size:=Heap.lt_size hit;have ht₂ : h₂.get? hp.objs.size=some { cls:=.type "tuple",data:=.seq #[es[i].key,es[i].val] }:=by rw[<- hh₂,<- hz₁];exact Heap.get?_push_size _ rfl
 have hz₂ : h₂.objs.size=hp.objs.size+1:=by rw[<- hh₂,Heap.size_push,hz₁]
 have hk₂ : ∀b o,b≠it->hp.get? b=some o->h₂.get? b=some o:=fun b o hb e=>by rw[<- hh₂];exact Heap.get?_push_of_some _ (hs₁.extBut b o hb e)
 show wpAny _ _ (Builtin.Dict_items.ownedTupleIsFree (.ref it) >>= _) _ _ ⟨h₂,g,dr,tk,os⟩;rw[hz₁];clear hh₂ he₁ hs₁ hT₁ hz₁ h₁;refine wpAny_bind ?_;unfold Builtin.Dict_items.ownedTupleIsFree;refine wpAny_bind (wpAny_field he₂ rfl (x:=.none) rfl (wpAny_pure ?_));simp only[if_true];refine wpAny_bind (wpAny_field he₂ rfl (x:=ok) rfl (wpAny_bind (wpAny_field he₂ rfl (x:=ov) rfl ?_)));refine wpAny_bind (wpAny_setField_rec he₂ (by simp) fun h₃ he₃ hs₃=>?_)
 replace hs₃ : Heap.SameBut it h₂ h₃ := hs₃
 replace he₃ : IsItemIter h₃ it d (i+1) es.size ep es[i].key ov:=he₃
 refine wpAny_bind (wpAny_setField_rec he₃ (by simp) fun h₄ he₄ hs₄=>?_)
 replace hs₄ : Heap.SameBut it h₃ h₄ := hs₄
 replace he₄ : IsItemIter h₄ it d (i+1) es.size ep es[i].key es[i].val:=he₄
 refine wpAny_bind (wpAny_setField_rec he₄ (by simp) fun h₅ he₅ hs₅=>?_)
 replace hs₅ : Heap.SameBut it h₄ h₅ := hs₅
 replace he₅ : IsItemIterOut h₅ it d (i+1) es.size ep es[i].key es[i].val hp.objs.size:=he₅
 refine wpAny_bind (wpAny_setField_rec he₅ (by simp) fun h₆ he₆ hs₆=>?_)
 replace hs₆ : Heap.SameBut it h₅ h₆ := hs₆
 replace he₆ : IsItemIterOut h₆ it d (i+1) es.size ep es[i].key es[i].val hp.objs.size:=he₆
 refine wpAny_bind (wpAny_letGo (wpAny_pure (wpAny_pure ⟨_,rfl,wpAny_pure (hQ h₆ he₆ ?_ ?_ ?_)⟩)))
 ·exact hs₆.extBut _ _ (Nat.ne_of_gt hil) (hs₅.extBut _ _ (Nat.ne_of_gt hil) (hs₄.extBut _ _ (Nat.ne_of_gt hil) (hs₃.extBut _ _ (Nat.ne_of_gt hil) ht₂)))
 ·show h₆.objs.size=hp.objs.size+1;rw[hs₆.1,hs₅.1,hs₄.1,hs₃.1,hz₂]
 ·exact fun b o hb e=>hs₆.extBut b o hb (hs₅.extBut b o hb (hs₄.extBut b o hb (hs₃.extBut b o hb (hk₂ b o hb e))))
set_option maxHeartbeats 1000000 in
theorem Zg4{it d:Addr}{od:Obj}{es:Array DictEntry}{i ep:Nat}{ok ov:Value}{Q:Option Value->Shared->Prop}(hh:A.handled=none)(hit:IsItemIter s.heap it d i es.size ep ok ov)(hod:s.heap.get? d=some od)(hdd:od.data=.dict es ep)(hge:es.size<=i)
  (hQ:∀h',Heap.ExtBut it s.heap h'->Q none { s with heap:=h' }):wpAny (model prog w) A (pyNext (.ref it)) Q E s:=by
 have hT:s.TypeIs (.ref it) "dict_itemiterator" := ⟨_,hit,rfl⟩;unfold pyNext;refine wpAny_bind (wpAny_attempt (wpAny_callSpecial?_slot (name:=Str.ofString "__next__") hT F.slot_dict_itemiterator_next (wpAny_call_entry F.slot_dict_itemiterator_next hT F.entry_dict_itemiterator_next ?_ (F.args_dict_itemiterator_next_1 _))));refine wpAny_bind (wpAny_pure (wpAny_bind (wpAny_bind ?_)))
 first|refine wpAny_bind (wpAny_typeNameOfWhole_itemiter hT (wpAny_pure ?_))|refine wpAny_bind (wpAny_typeNameOf_itemiter hT (wpAny_pure ?_))
 refine wpAny_bind (wpAny_fieldsOf hit rfl ?_);have hown:Builtin.Dict_items.ownsTuple "dict_itemiterator" = true:=by decide
 simp only[hown,if_true];show wpAny _ _ (if(Value.ref d == Value.none)=true then _ else _) _ _ s
 rw[if_neg (show ¬ ((Value.ref d == Value.none)=true) from Bool.false_ne_true)];refine wpAny_bind (wpAny_pure (wpAny_bind (wpAny_dictEntries hod hdd ?_)));rw[if_neg (by simp)];refine wpAny_bind (wpAny_pure (wpAny_bind (wpAny_dictEpoch hod hdd ?_)));rw[if_neg (by simp)];refine wpAny_pure ?_;simp only[show ¬ ((i:Int)<0) from by lia,if_false,Int.toNat_natCast,Array.getElem?_eq_none hge];refine wpAny_bind ?_
 first|refine wpAny_bind (wpAny_typeNameOfWhole_itemiter hT (wpAny_pure ?_))|refine wpAny_bind (wpAny_typeNameOf_itemiter hT (wpAny_pure ?_))
 show wpAny _ _ (setField (.ref it) 2 .none >>= _) _ _ s;refine wpAny_bind (wpAny_setField hit rfl (by simp) ?_);show wpAny _ _ (newExc (.type "StopIteration") [] >>= _) _ _ _;refine wpAny_bind ?_;simp only[newExc,newTuple];refine wpAny_bind (wpAny_newObj_type ?_ (by size_fits));refine wpAny_bind (m:=firstArgMember _ _) (wpAny_of_eq (a:=Value.none) (by first|rfl|(simp only[firstArgMember];rfl)) ?_)
 refine wpAny_newObj_type ?_ (by size_fits);simp only[raiseNew];refine wpAny_bind (wpAny_handled ?_);rw[show A.in1.handled=none from hh];refine wpAny_bind (wpAny_pure (wpAny_throw ?_));refine wpAny_bind (wpAny_isInstance (T := "StopIteration") (b:=true) ⟨_,Heap.get?_push_size _ rfl,rfl⟩ isSubtype_stop ?_);exact wpAny_pure (hQ _ (((Heap.SameBut.update ..).extBut.push _).push _))
end
theorem RowsV.length{es:List DictEntry}{D:List (Str×V)}(h:RowsV es D):es.length=D.length:=by
 induction h with
 | nil=>rfl
 | cons _ _ _ ih=>rw[List.length_cons,List.length_cons,ih]
theorem RowsV.get{es:List DictEntry}{D:List (Str×V)}(h:RowsV es D):∀(i:Nat)(e:DictEntry),es[i]?= some e->∃k t v,D[i]?= some (k,v)/\e.key=.str k t/\RelV v e.val:=by
 induction h with
 | nil=>intro i e h;cases i <;> cases h
 | @cons e x t v es D hk hv _ ih =>
  intro i e' h;cases i with
  | zero =>
   cases h;exact⟨x,t,v,rfl,hk,hv⟩
  | succ i=>exact ih i e' h
def Itk(D:List (Str×V)):It :=
 ⟨fun i _=>i<D.length,fun i H x H'=>∃p k v,H p=none/\x=.ref p/\D[i]?= some (k,v)/\H'=upd H p (.tup [.str k,v]),fun i _=>D.length<=i⟩
theorem Zg9{P:Program}{w:World}{K:PySem.W.Frag}{elts:List Expr}{x1}{tp:Pos}{A it:Addr}{es:Array DictEntry}{ep:Nat}{sl:Array (Option Value)}{D:List (Str×V)}(hlk:K.lookup A=some ⟨.type "dict",none,.dict es ep,sl⟩) (hr:RowsV es.toList D) :
  Turn P w K (.Tuple elts x1 tp) (Itk D) [it] it (fun i h=>∃ok ov,IsItemIter h it A i es.size ep ok ov) where
 mem:=by simp
 obj:=fun i h st b hb=>by
  obtain⟨ok,ov,he⟩:=st;obtain rfl:=List.mem_singleton.mp hb;exact⟨_,he,fun v z=>by cases z⟩
 keep:=fun i h h' st k=>by
  obtain⟨ok,ov,he⟩:=st;exact⟨ok,ov,k it (by simp) _ he⟩
 item:=by
  intro X hP hw hK hc i pins s σ H E I hf st hg;subst hP hw hK;obtain⟨ok,ov,he⟩:=st;have hod:=I.kIn A _ hlk;have hlen:=hr.length;rw[Array.length_toList] at hlen;have hlt:i<es.size:=by rw[hlen];exact hg
  obtain⟨k,t,v,hD,hkey,hval⟩:=hr.get i es[i] (by simp[hlt]);have fe:=hf it (by simp);refine ZfZ he hod rfl hlt fun h1 he1 ht1 hz1 hk1=>⟨_,rfl,wpAny_letOwnedTupleGo_items he1 fun h2 he2 hs2=>?_⟩;have hfresh:H s.heap.objs.size=none:=I.hok.fresh (Nat.le_refl _);have nee:s.heap.objs.size≠it:=Nat.ne_of_gt (Heap.lt_size he);have kp:∀b o,b ∉ [it]->s.heap.get? b=some o->h2.get? b=some o:=fun b o hb q=>by
   have b1:b≠it:=fun z=>hb (by rw[z];simp);exact(hs2.2 b b1).trans (hk1 b o b1 q)
  have hp2:h2.get? s.heap.objs.size=some { cls:=.type "tuple",data:=.seq #[es[i].key,es[i].val] }:=(hs2.2 _ nee).trans ht1;have nb:∀b o,s.heap.get? b=some o->b≠s.heap.objs.size:=fun b o q=>Nat.ne_of_lt (Heap.lt_size q);have tracked:∀b o,H b=some o->b ∉ [it]:=fun b o q hb=>by
   obtain rfl:=List.mem_singleton.mp hb;rw[fe.1] at q;cases q
  have hok2:HOk X.prog X.w (upd H s.heap.objs.size (.tup [.str k,v])) h2:=fun b o q=>by
   by_cases hb:b=s.heap.objs.size
   ·subst hb;rw[Zb] at q;cases q;exact⟨by show 2<=sizeLine;decide,[es[i].key,es[i].val],.cons ⟨t,hkey⟩ (.cons hval .nil),_,hp2,rfl,_,rfl⟩
   ·rw[Zi hb] at q;refine(I.hok b o q).stay (fun c v hcv r=>kp c v ?_ r) (fun c r=>by rw[Zi (Zm r hfresh)];exact r) fun c ys r=>by rw[Zi (Zm r hfresh)];exact r
    rcases hcv with rfl|hcv
    ·exact tracked _ _ q
    ·exact tracked _ _ hcv
  have I2:Inv X pins σ (upd H s.heap.objs.size (.tup [.str k,v])) { s with heap:=h2,gens:=s.gens,drawn:=s.drawn,toks:=s.toks }:=by
   refine I.step (ch:=[it]) (fun b hb=>?_) (fun b o _ _ hb q _=>kp b o hb q) (fun b o _ _ hb q _=>⟨o.slots,kp b o hb q⟩) (fun b o _ q n=>by rw[Zi (nb b o q)];exact n) (fun b o hb q=>⟨o,kp b o hb q⟩)
    (fun b ys q=>by rw[Zi (Zm q hfresh)];exact q) (fun b o ys q=>by rw[Zi (Zm q hfresh)];exact q) (fun b ps q=>⟨#[],by rw[Zi (Zm q hfresh),q];simp⟩) (fun m hm=>?_) hok2 I.bare
   ·have f:ZcK X pins H b:=hf b hb;exact⟨f.2.2.2.1,f.2.1,f.2.2.2.2.1,f.2.2.2.2.2⟩
   ·obtain⟨o,es',ep',ho,r⟩:=hm;refine⟨o,es',ep',kp _ o (fun hb=>?_) ho,r⟩;exact(hf _ hb).2.1 rfl
  refine⟨.ref s.heap.objs.size,_,I2,rfl,⟨_,k,v,hfresh,rfl,hD,rfl⟩,⟨_,_,he2⟩,fun b hb=>?_⟩;obtain rfl:=List.mem_singleton.mp hb;rw[Zi nee.symm];exact fe.1
 done:=by
  intro X hP hw hK hc i pins s σ H E I hf st hg;subst hP hw hK;obtain⟨ok,ov,he⟩:=st;have hod:=I.kIn A _ hlk;have hlen:=hr.length;rw[Array.length_toList] at hlen;obtain⟨f0,f1,f2,f3,f4,f5⟩:=hf it (by simp);exact Zg4 (I.ok.hd hc) he hod rfl (by rw[hlen];exact hg) fun h' eb=>⟨rfl,I.turned (t':=s.toks) (fun b o hb q=>eb b o hb q) f0 f1 f3 f4 f5⟩
 self:=fun _ _ _ _ _ st h=>by
  obtain⟨ok,ov,he⟩:=st;exact PySem.W.kcp_self he h
section
variable{X:Cx}{elts:List Expr}{x1:Nat}{tp:Pos}
def ZlH(K:PySem.W.Frag)(to:TE):TI:=fun σ H R=>to σ H fun x H1=>∃A D,x=.ref A/\KTab K A D/\(A == sysModules)=false/\R (Itk D) H1
theorem Zja{o:Expr}{to:TE}{apos pos:Pos}(ho:PE X o to)(hbase:attributeBase o "items" X.env (eval o X.env)=eval o X.env:=by rfl) (hline:(apos.endLine == pos.line)=true:=by rfl) :
  PI X (.Tuple elts x1 tp) (.Call (.Attribute o "items" apos) [] [] pos) (ZlH X.K to):=by
 intro pins s σ H R I h;refine wpAny_Call_method0_late hbase hline (thn (ho pins s σ H _ I h) fun v s1 ⟨x,H1,I1,r1,A,D,ex,hK,hA,q⟩=>?_);subst ex;obtain rfl:v=Value.ref A:=r1;obtain⟨es,ep,sl,hlk,hr⟩:=hK;have hod:=I1.kIn A _ hlk;refine⟨"dict","dict.items",F.plainAttrs_dict,F.slot_dict_items,F.type_dict_items,⟨_,hod,rfl⟩,fun a e=>by cases e;exact⟨_,hod,rfl⟩,Zf1 hA hod rfl ?_⟩;have hk1:∀b o,s1.heap.get? b=some o->(s1.heap.push { cls:=.type "dict_items",data:=.fields #[.ref A] }).get? b=some o:=fun b o e=>Heap.get?_push_of_some _ e;refine Zf4 (es:=es) (ep:=ep) ⟨_,Heap.get?_push_size _ rfl,rfl,rfl⟩ (hk1 A _ hod) rfl ?_;have hk2:∀b o,s1.heap.get? b=some o->((s1.heap.push { cls:=.type "dict_items",data:=.fields #[.ref A] }).push { cls:=.type "dict_itemiterator",data:=.fields #[.none,.bool false,.ref A,.int 0 0,.int es.size 0,.int ep 0,.none,.none] }).get? b=some o:=fun b o e=>Heap.get?_push_of_some _ (hk1 b o e);refine⟨(s1.heap.push { cls:=.type "dict_items",data:=.fields #[.ref A] }).objs.size,[(s1.heap.push { cls:=.type "dict_items",data:=.fields #[.ref A] }).objs.size],_,_,H1,rfl,I1.kept (t':=s1.toks) hk2,Zg9 hlk hr,⟨_,_,Heap.get?_push_size _ rfl⟩,fun b hb=>?_,q⟩;have hb':s1.heap.objs.size<=b:=by
  rw[List.mem_singleton.mp hb,Heap.size_push];exact Nat.le_succ _
 exact I1.fpOk hb' (I1.hok.fresh hb')
end
theorem Zfr{D':List (Str×V)}{g:TG}{tb:TS}{D:Ends}{σ : St}{H:Hp}(Pv:Nat->St->Hp->Prop)(h0:Pv 0 σ H)
  (hs:∀i k v p σ H,D'[i]?= some (k,v)->Pv i σ H->H p=none->g (.ref p) σ (upd H p (.tup [.str k,v])) fun σ2 H2=>tb { D with nx:=Pv (i+1),ct:=Pv (i+1),bk:=D.nx } σ2 H2) (hd:∀ σ H,Pv D'.length σ H->D.nx σ H) :
  ∃W:Nat->Nat->St->Hp->Prop,(∃m,W 0 m σ H)/\∀i m σ H,W i m σ H ->
   ((Itk D').stop i H/\D.nx σ H)\/((Itk D').go i H/\∃N:St->Hp->Prop,(∀ σ' H',N σ' H'->∃m',m'<m/\W (i+1) m' σ' H')/\∀x H',(Itk D').yld i H x H'->g x σ H' fun σ2 H2=>tb { D with nx:=N,ct:=N,bk:=D.nx } σ2 H2):=by
 refine⟨fun i m σ H=>m=D'.length-i/\i<=D'.length/\Pv i σ H,⟨D'.length,by simp,Nat.zero_le _,h0⟩,?_⟩;rintro i m σ H ⟨rfl,hi,p⟩;by_cases hlt:i<D'.length
 ·refine .inr ⟨hlt,Pv (i+1),fun σ' H' p'=>⟨D'.length-(i+1),by lia,rfl,hlt,p'⟩,fun x H' y=>?_⟩;obtain⟨b,k,v,hb,hx,hy,hH⟩:=y;subst hx hH;exact hs i k v b σ H hy p hb
 ·have e:i=D'.length:=by lia
  subst e;exact .inl ⟨Nat.le_refl _,hd σ H p⟩
end L2
namespace Srd
open PySem PyProof.Rows
theorem ZeT:typeLookup (.type "tuple") "keys" = pure none:=by rw[typeLookup_type,builtinLookup_eq_fast];kernel_rfl
section
variable{prog:Program}{w:World}{A:Around}{E:Value->Shared->Prop}{h:Heap}{g:Array GenState}{d:Drawn}{t:Nat}{os:OsState}{a:Addr}
theorem Zdu{tk:Tok}{Q:Fin->Shared->Prop}{its:Array Value}{n:Nat}{sl:Array (Option Value)}(hh:A.handled=none)(hx:h.get? a=some { cls:=.type "tuple",dict:=none,data:=.seq its n,slots:=sl }) (hq:∀(x:Addr)(h':Heap)(tk:Nat),(∀b u,h.get? b=some u->h'.get? b=some u)->(∃ob,h'.get? x=some ob/\ob.cls=.type "AttributeError")->h.objs.size<=h'.objs.size->E (.ref x) ⟨h',g,d,tk,os⟩) :
  wpAny (model prog w) A (Builtin.«object.__getattribute__» ⟨[.ref a,.str "keys" tk],[]⟩) Q E ⟨h,g,d,t,os⟩:=by
 have hT:(⟨h,g,d,t,os⟩:Shared).TypeIs (.ref a) "tuple" := ⟨_,hx,rfl⟩;have f4:=ZeT
 repeat (any_goals (first|assumption|with_reducible apply Zej hh|wp_step))
 decide +kernel
theorem Zds:typeLookup (.type "tuple") "__getattr__" = pure none:=by rw[typeLookup_type,builtinLookup_eq_fast];kernel_rfl
theorem ZdZ{tk:Tok}{R:Result->Shared->Prop}{its:Array Value}{n:Nat}{sl:Array (Option Value)}(hh:A.handled=none)(hx:h.get? a=some { cls:=.type "tuple",dict:=none,data:=.seq its n,slots:=sl }) (hq:∀(x:Addr)(h':Heap)(tk:Nat),(∀b u,h.get? b=some u->h'.get? b=some u)->(∃ob,h'.get? x=some ob/\ob.cls=.type "AttributeError")->h.objs.size<=h'.objs.size->R (.error (.ref x)) ⟨h',g,d,tk,os⟩) :
  codeAny (model prog w) A (.call (.builtin "tuple.__getattribute__") ⟨[.ref a,.str "keys" tk],[]⟩) R ⟨h,g,d,t,os⟩ :=
 codeAny_call_builtin F.slot_tuple_getattribute.plain F.entry_tuple_ga (F.slot_tuple_getattribute.check _ _ _ _ _ _ _ _ (show(⟨h,g,d,t,os⟩:Shared).TypeIs (.ref a) "tuple" from⟨_,hx,rfl⟩) (F.args_tuple_getattribute_2 _ _) (Zdu hh hx hq))
theorem ZeD{tk:Tok}{Q:Value->Shared->Prop}{its:Array Value}{n:Nat}{sl:Array (Option Value)}(hh:A.handled=none)(hx:h.get? a=some { cls:=.type "tuple",dict:=none,data:=.seq its n,slots:=sl }) (hq:∀(x:Addr)(h':Heap)(tk:Nat),(∀b u,h.get? b=some u->h'.get? b=some u)->(∃ob,h'.get? x=some ob/\ob.cls=.type "AttributeError")->h.objs.size<=h'.objs.size->E (.ref x) ⟨h',g,d,tk,os⟩) :
  wpAny (model prog w) A (getAttrBy (.ref a) (.str "keys" tk) false) Q E ⟨h,g,d,t,os⟩:=by
 have hT:(⟨h,g,d,t,os⟩:Shared).TypeIs (.ref a) "tuple" := ⟨_,hx,rfl⟩;have f2:=F.slot_tuple_getattribute.lookup;have f3:=F.slot_tuple_getattribute.bind (.ref a);have f4:=Zds
 repeat (any_goals (first|assumption|wp_step))
 refine ZdZ hh hx fun x h' tk' k1 k2 k3=>?_;obtain⟨ob,e2,c2⟩:=k2;dsimp only;unfold getattributeRaised;refine wpAny_bind (wpAny_isInstance (T := "AttributeError") (b:=true) ⟨ob,e2,c2⟩ ZaV ?_);rw[if_pos rfl];unfold hookBehind;rw[if_neg (by decide)];refine wpAny_bind (wpAny_of_eq f4 ?_);unfold hookOrError attributeErrorLeaves;dsimp only;rw[if_pos (by decide)];exact wpAny_bind (wpAny_throw (hq x h' tk' k1 ⟨ob,e2,c2⟩ k3))
theorem ZdJ{Q:Option Value->Shared->Prop}{its:Array Value}{n:Nat}{sl:Array (Option Value)}(hh:A.handled=none)(hx:h.get? a=some { cls:=.type "tuple",dict:=none,data:=.seq its n,slots:=sl }) (hq:∀(h':Heap)(tk:Nat),(∀b u,h.get? b=some u->h'.get? b=some u)->h.objs.size<=h'.objs.size->Q none ⟨h',g,d,tk,os⟩) :
  wpAny (model prog w) A (getAttr? (.ref a) "keys") Q E ⟨h,g,d,t,os⟩:=by
 unfold getAttr? getAttrBy?
 repeat (any_goals (first|assumption|with_reducible apply ZeD hh hx|wp_step))
 intro x h' tk' k1 k2 k3;obtain⟨ob,e2,c2⟩:=k2;dsimp only;refine wpAny_bind (wpAny_isInstance (T := "AttributeError") (b:=true) ⟨ob,e2,c2⟩ ZaV ?_);rw[if_pos rfl];exact wpAny_pure (hq h' tk' k1 k3)
end
section
variable{prog:Program}{w:World}{K:Type}[DecidableEq K]{knd:KeyKind prog w K}{A:Around}{E:Value->Shared->Prop}{R:Result->Shared->Prop}
set_option maxHeartbeats 1000000 in
theorem Zg8{h0:Heap}{D I l:Addr}{items:Array Value}{ps:List (K×Value)}(hh:A.in1.handled=none)(ht:Zev knd h0 D items ps)(hDI:D<I)(hlI:l≠I)(hn:items.size<=100000):∀(k i:Nat)(j:Int)(jt:Tok)(s:Shared),items.size-i=k->i<=items.size->(s.heap.IsTupleIter I l i/\s.heap.IsTuple l items)->l<D->s.heap.DictOf knd D (merged [] (ps.take i))->(∀b o,b<D->h0.get? b=some o->s.heap.get? b=some o) ->
   (∀h' tk,h'.DictOf knd D (merged [] ps)->(∀b o,b<D->h0.get? b=some o->h'.get? b=some o)->R (.ok (.ret .none)) { s with heap:=h',toks:=tk })->codeAny (model prog w) A (.builtin "dict.update.loop" ⟨[.ref D,.ref I,.int j jt,.none],[]⟩) R s:=by
 have W:=Walks.tuple (prog:=prog) (w:=w) (A:=A.in1) hh I l hlI items;have DK:∀{h h':Heap}{kvs:List (K×Value)},h.DictOf knd D kvs->(∀b o,b<=D->h.get? b=some o->h'.get? b=some o)->h'.DictOf knd D kvs:=fun{h h' kvs} ⟨o,es,ep,ho,r⟩ hk=>⟨o,es,ep,hk D o (Nat.le_refl _) ho,r⟩;intro k
 induction k with
 | zero =>
  intro i j jt s hk hi hst hlD hd hb hR;obtain rfl:i=items.size:=by lia
  refine codeAny_builtin Zan ?_;rw[Around.under_plainId ZC _];change wpAny _ A.in1 (pyNext (.ref I) >>= _) _ _ s;refine wpAny_bind (W.done s _ _ hst fun h' tk hm=>?_);change wpAny _ A.in1 (Builtin.Dict.addKeywords D [] >>= fun _=>ret Value.none) _ _ _;refine wpAny_bind ?_;unfold Builtin.Dict.addKeywords;refine wpAny_pure (wpAny_pure ?_);rw[ht.1,List.take_length] at hd;exact hR h' tk (DK hd fun b o hb' e=>hm b o (fun z=>Nat.lt_irrefl _ (Nat.lt_of_le_of_lt (List.mem_singleton.mp z ▸ hb') hDI)) e) fun b o hb' e=>hm b o (fun z=>Nat.lt_irrefl _ (Nat.lt_trans (List.mem_singleton.mp z ▸ hb') hDI)) (hb b o hb' e)
 | succ k ih =>
  intro i j jt s hk hi hst hlD hd hb hR;have hlt:i<items.size:=by lia
  refine codeAny_builtin Zan ?_;rw[Around.under_plainId ZC _];change wpAny _ A.in1 (pyNext (.ref I) >>= _) _ _ s;refine wpAny_bind (W.item i s _ _ hlt hst fun v h' tk hP hst' hm=>?_);have hd':h'.DictOf knd D (merged [] (ps.take i)):=DK hd fun b o hb' e=>hm b o (fun z=>Nat.lt_irrefl _ (Nat.lt_of_le_of_lt (List.mem_singleton.mp z ▸ hb') hDI)) e;have hb1:∀b o,b<D->h0.get? b=some o->h'.get? b=some o:=fun b o hb' e=>hm b o (fun z=>Nat.lt_irrefl _ (Nat.lt_trans (List.mem_singleton.mp z ▸ hb') hDI)) (hb b o hb' e);have hpl:i<ps.length:=by have:=ht.1;lia
  have hp:=ht.2 i v ps[i] hP (List.getElem?_eq_getElem hpl) h' hb1;refine wpAny_bind (wpAny_holding (wpAny_bind (wpAny_tryCatch (pair_items (s:={ s with heap:=h',toks:=tk }) hp fun uk huk=>?_))));dsimp only;have hml:(merged [] (ps.take i)).length<=sizeLine:=by
   have:=merged_length_le ([]:List (K×Value)) (ps.take i);rw[List.length_take] at this;have h0l:([]:List (K×Value)).length=0:=rfl;have:=ht.1;rw[sizeLine_eq];lia
  refine wpAny_holding (wpAny_dictSet_pairs (s:={ s with heap:=h',toks:=tk }) (hsz:=hml) huk hd' fun h2 hd2 sb=>?_);have hk2:∀b o,b≠D->h'.get? b=some o->h2.get? b=some o:=fun b o hb e=>(sb.2 b hb).trans e;refine wpAny_pure ⟨plainId_quiet ZC _,ih (i+1) (j+1) 0 _ (by lia) hlt ?_ hlD ?_ (fun b o hb' e=>hk2 b o (Nat.ne_of_lt hb') (hb1 b o hb' e)) fun h3 tk3 hw3 hb3=>hR h3 tk3 hw3 hb3⟩
  ·refine W.frame _ h' h2 hst' fun b hb o e=>hk2 b o (fun z=>?_) e;simp only[List.mem_cons,List.not_mem_nil,or_false] at hb;rcases hb with rfl|rfl
   ·exact Nat.lt_irrefl _ (z ▸ hDI)
   ·exact Nat.lt_irrefl _ (z ▸ hlD)
  ·rw[merged_take_succ [] ps i ps[i] (List.getElem?_eq_getElem hpl)];exact hd2
set_option maxHeartbeats 1000000 in
theorem Zdp{s:Shared}{l:Addr}{items:Array Value}{n:Nat}{sl:Array (Option Value)}{ps:List (K×Value)}{Q:Value->Shared->Prop}(hh:A.handled=none)(hl:s.heap.get? l=some { cls:=.type "tuple",dict:=none,data:=.seq items n,slots:=sl }) (ht:Zev knd s.heap s.heap.objs.size items ps) (hn:items.size<=100000)
  (q:∀(h':Heap)(tk:Nat),h'.DictOf knd s.heap.objs.size (merged [] ps)->(∀b o,s.heap.get? b=some o->h'.get? b=some o)->Q (.ref s.heap.objs.size) { s with heap:=h',toks:=tk }) :
  wpAny (model prog w) A (call (.type "dict") [.ref l]) Q E s:=by
 refine callType_codes (Q₁ := fun obj s₁=>obj=.ref s.heap.objs.size/\s₁ = { s with heap:=s.heap.push { cls:=.type "dict",data:=.dict #[] } }) F.kt_called_dict (F.kt_typeCall_dict_1 _) F.entry_dict_init (kt_code_dict_new _ ⟨rfl,rfl⟩) ?_;rintro obj s₁ ⟨rfl,rfl⟩;have hnew:(s.heap.push { cls:=.type "dict",data:=.dict #[] }).DictOf knd s.heap.objs.size []:=Heap.DictOf.new s.heap;have hl1:(s.heap.push { cls:=.type "dict",data:=.dict #[] }).get? l=some { cls:=.type "tuple",dict:=none,data:=.seq items n,slots:=sl }:=Heap.get?_push_of_some _ hl;have hlD:l<s.heap.objs.size:=Heap.lt_size hl;have k0:∀b o,b<s.heap.objs.size->s.heap.get? b=some o->(s.heap.push { cls:=.type "dict",data:=.dict #[] }).get? b=some o:=fun b o _ e=>Heap.get?_push_of_some _ e;have z0:(s.heap.push { cls:=.type "dict",data:=.dict #[] }).objs.size=s.heap.objs.size+1:=Heap.size_push ..;refine⟨hnew.typeIs,F.args_dict_init_2 _ _,?_⟩;generalize s.heap.push { cls:=.type "dict",data:=.dict #[] }=h1 at hnew hl1 k0 z0;unfold Builtin.«dict.__init__»;refine wpAny_bind ?_;unfold Builtin.Dict.selfAndRest;refine wpAny_bind (wpAny_notOrdered_dict hnew.typeIs ?_);show wpAny _ _ (pure (s.heap.objs.size,[Value.ref l])) _ _ _;refine wpAny_pure ?_;show wpAny _ _ (Builtin.Dict.updateFrom "dict.__init__" s.heap.objs.size (.ref l) [] .none) _ _ _;unfold Builtin.Dict.updateFrom;refine wpAny_bind (wpAny_typeOf (T := "tuple") ⟨_,hl1,rfl⟩ ?_);rw[if_pos (by decide)];refine wpAny_bind (ZdJ hh hl1 fun h2 tk2 k2 z2=>?_);rw[if_pos (show(none:Option Value).isNone=true from rfl)];refine wpAny_bind (wpAny_rule ?_);have hl2:=k2 _ _ hl1;have hL2:h2.IsTuple l items:=⟨_,hl2,rfl,n,rfl⟩;refine wpAny_bind (wpAny_pyIter_tuple hL2 ?_);have hd2:h2.DictOf knd s.heap.objs.size []:=let ⟨o,es,ep,ho,r⟩:=hnew;⟨o,es,ep,k2 _ _ ho,r⟩;have hd3:(h2.push { cls:=.type "tuple_iterator",data:=.fields #[.ref l,.int 0 0] }).DictOf knd s.heap.objs.size []:=hd2.push _;have hsz:s.heap.objs.size<h2.objs.size:=by lia
 refine wpAny_pure ⟨plainId_quiet ZC _,?_⟩;refine Zg8 (knd:=knd) (h0:=s.heap) (by simpa using hh) ht hsz (Nat.ne_of_lt (Nat.lt_trans hlD hsz)) hn (items.size-0) 0 0 0 _ rfl (Nat.zero_le _) ⟨⟨_,Heap.get?_push_size _ rfl,rfl,rfl⟩,hL2.push _⟩ hlD hd3 (fun b o hb e=>Heap.get?_push_of_some _ (k2 _ _ (k0 b o hb e))) fun h' tk hd' hb'=>?_;exact⟨rfl,q h' tk hd' fun b o e=>hb' b o (Heap.lt_size e) e⟩
end
end Srd
namespace L2
open PySem PySem.Spec PyProof.Rows
section
variable{X:Cx}
theorem ZeF(hc:X.calm=true):Zbq X (.type "dict") (fun xs H Q=>∃l ob ys kvs,xs=[.ref l]/\H l=some (.frz ob (.tup ys))/\ob.dict=none/\ys.length<=90000/\Paired (fun(y:V)(kv:Key×V)=>∃t,y=.ref t/\H t=some (.tup [kV kv.1,kv.2])) ys kvs/\∀d,H d=none->Q (.ref d) (upd H d (.dK (putAll kvs)))):=by
 intro pins s σ H xs us Q I r h;obtain⟨l,ob,ys,kvs,rfl,hq,hdi,hlen,hp,q⟩:=h;obtain⟨u,rfl,ru⟩:=vals1 r;cases ru;obtain⟨ho,hz,its,rv,o,ho2,ocl,n,oda⟩:=I.hok l _ hq;have hl:=rv.length;obtain rfl:o=ob:=Option.some.inj (ho2.symm.trans ho);clear ho2;obtain⟨ocls,odict,odata,oslots⟩:=o;simp only at ocl hdi oda;subst ocl hdi oda;have key:∀{ys:List V}{kvs:List (Key×V)}{its:List Value},Paired (fun(y:V)(kv:Key×V)=>∃t,y=.ref t/\H t=some (.tup [kV kv.1,kv.2])) ys kvs->Vals ys its->∃ps:List (Key×Value),KV kvs ps/\its.length=ps.length/\∀(i:Nat) v p,its[i]?= some v->ps[i]?= some p->Srd.Zg0 (ZaB X.prog X.w) s.heap v p.1 p.2:=by
  intro ys kvs its hp
  induction hp generalizing its with
  | nil =>
   intro rv;cases rv;exact⟨[],.nil,rfl,fun i v p h=>(nomatch h)⟩
  | @cons y kv ys kvs r t ih =>
   intro rv;cases rv with
   | @cons _ v _ its ry rr =>
    obtain⟨ps,h1,h2,h3⟩:=ih rr;obtain⟨ta,rfl,ht⟩:=r;obtain rfl:v=Value.ref ta:=ry;obtain⟨_,us,rus,o,ho,hc',n,hd⟩:=I.hok ta _ ht;obtain⟨u1,u2,rfl,r1,r2⟩:=Vals.two rus;refine⟨(kv.1,u2)::ps,.cons ⟨rfl,r2⟩ h1,by rw[List.length_cons,List.length_cons,h2],fun i v p e1 e2=>?_⟩;cases i with
    | zero =>
     injection e1 with e1;injection e2 with e2;subst e1 e2;exact⟨ta,o,n,u1,rfl,ho,hc',hd,Zf6 r1⟩
    | succ i=>exact h3 i v p e1 e2
 obtain⟨ps,h1,h2,h3⟩:=key hp rv;refine Srd.Zdp (knd:=ZaB X.prog X.w) (ps:=ps) (I.ok.hd hc) ho ⟨by rw[List.size_toArray];exact h2,fun i v p e1 e2 h' hk=>?_⟩ (by rw[List.size_toArray];lia) fun h' tk hd' hk=>?_
 ·obtain⟨b,o,n,uk,e,ho2,r⟩:=h3 i v p (by rw[<- e1];simp) e2;exact⟨b,o,n,uk,e,hk b o (Heap.lt_size ho2) ho2,r⟩
 ·have hkl:kvs.length=ps.length:=h1.length;have hpl:=Zeg kvs;exact⟨.ref _,_,I.laid (t':=tk) (fun b o e=>hk b o e) (Nat.le_refl _) (show Zar X.prog X.w _ h' _ (.dK (putAll kvs)) from⟨by rw[sizeLine_eq];lia,beq_eq_false_iff_ne.mpr (Ne.symm (Nat.ne_of_lt I.big)),_,ZhY h1 .nil,hd'⟩),rfl,q _ (I.hok.fresh (Nat.le_refl _))⟩
end
end L2
namespace L2
open PySem PySem.Spec PyProof.Rows PySem.W
section
variable{X:Cx}
theorem Zft(l:List Str):(l.map V.str).all Zea=true:=by
 rw[List.all_eq_true];intro y hy;obtain⟨z,_,rfl⟩:=List.mem_map.mp hy;rfl
theorem Zd1{n:Str}:∀{xs:List Str}{us:List Value},Vals (xs.map V.str) us->∀(j:Nat)(h1:j<us.length)(h2:j<xs.length),eqU (.str n) us[j]=decide (xs[j]=n)
 | [],_,_,_,_,h2=>absurd h2 (Nat.not_lt_zero _)
 | x::xs,_::us,.cons r t,0,_,_=>by
  refine(ZgJ (x:=.str n) r rfl).trans ?_;show(x == n)=decide (x=n);rw[Bool.eq_iff_iff];simp
 | x::xs,_::us,.cons r t,j+1,h1,h2=>Zd1 (xs:=xs) t j (Nat.lt_of_succ_lt_succ h1) (Nat.lt_of_succ_lt_succ h2)
theorem ZfE{n:Str}:∀{xs:List Str}{us:List Value},Vals (xs.map V.str) us->us.countP (eqU (.str n))=xs.countP fun x=>decide (x=n)
 | [],_,.nil=>rfl
 | x::xs,u::us,.cons r t=>by
  have e:eqU (.str n) u=decide (x=n):=by
   refine(ZgJ (x:=.str n) r rfl).trans ?_;show(x == n)=decide (x=n);rw[Bool.eq_iff_iff];simp
  rw[List.countP_cons,List.countP_cons,ZfE t,e]
def ZlV(K:PySem.W.Frag):V->List V->Hp->VK->Prop:=fun x vs H Q=>∃(p:Addr)(n:Str)(xs:List Str),x=.ref p/\vs=[.str n]/\SqL K H p (xs.map V.str)/\n∈xs/\Q (.int ((xs.idxOf n:Nat):Int)) H
theorem Zfc{K:PySem.W.Frag}(hK:X.K=K):MtM X "list.index" (ZlV K):=by
 subst hK;intro pins s σ H x vs v us Q I rx rv h;obtain⟨p,n,xs,rfl,rfl,hq,hm,h⟩:=h;cases rx;obtain⟨u,rfl,ru⟩:=rv.one;obtain⟨its,r,pl,hz⟩:=I.list hq;obtain⟨⟨cls,dd,data,sl⟩,m,ho,hc,hdd,hd⟩:=pl;simp only at hc hdd hd;subst hc hdd hd;have hl2:=r.length;rw[List.length_map] at hl2 hz;have hj:xs.idxOf n<xs.length:=List.idxOf_lt_length_of_mem hm;have hz':xs.length<2 ^ 63-1:=by
  rw[sizeLine_eq] at hz;lia
 refine call_meets PySem.F.slot_list_index ⟨_,ho,rfl⟩ PySem.F.entry_list_index (PySem.F.args_list_index_2 _ _)
  (PySem.SeqAt.list_indexAt p its.toArray m none sl u (eqU (.str n)) (xs.idxOf n) (by rw[List.size_toArray];lia) (by lia) ?_ ?_) ⟨ho,fun y hy=>ZbK ru rfl r (Zft xs) y (by simpa using hy),⟨.int _,H,I.tok _,⟨_,rfl⟩,h⟩⟩
 ·show eqU (.str n) its[xs.idxOf n]=true;rw[Zd1 r _ (by lia) hj];exact decide_eq_true (List.getElem_idxOf hj)
 ·intro j hjs hlt;show eqU (.str n) its[j]=false;rw[Zd1 r j (by simpa using hjs) (by lia)];refine decide_eq_false fun e=>?_;have h3:(xs[j]'(by lia) == n)=false:=List.not_of_lt_findIdx (p:=(· == n)) (xs:=xs) hlt;exact beq_eq_false_iff_ne.mp h3 e
theorem Zi7{K:PySem.W.Frag}(hK:X.K=K):MtM X "list.count" (fun x vs H Q=>∃(p:Addr)(n:Str)(xs:List Str),x=.ref p/\vs=[.str n]/\SqL K H p (xs.map V.str)/\Q (.int ((xs.countP (fun x=>decide (x=n)):Nat):Int)) H):=by
 subst hK;intro pins s σ H x vs v us Q I rx rv h;obtain⟨p,n,xs,rfl,rfl,hq,h⟩:=h;cases rx;obtain⟨u,rfl,ru⟩:=rv.one;obtain⟨its,r,pl,hz⟩:=I.list hq;obtain⟨⟨cls,dd,data,sl⟩,m,ho,hc,hdd,hd⟩:=pl;simp only at hc hdd hd;subst hc hdd hd;have e:its.toArray.toList.countP (eqU (.str n))=xs.countP fun x=>decide (x=n):=ZfE r;refine call_meets PySem.F.slot_list_count ⟨_,ho,rfl⟩ PySem.F.entry_list_count (PySem.F.args_list_count_2 _ _) (PySem.SeqAt.list_countAt p its.toArray m none sl u (eqU (.str n))) ⟨ho,fun y hy=>ZbK ru rfl r (Zft xs) y (by simpa using hy),?_⟩;rw[e];exact⟨.int _,H,I.tok _,⟨_,rfl⟩,h⟩
def ZmO(K:PySem.W.Frag)(tv:TE):TE:=fun σ H Q=>tv σ H fun v H1=>∃(a:Addr)(d:PyData),v=.ref a/\Dp K H1 (.ref a) d/\d.showable=true/\d.hasDict=false/\d.depth<=190/\d.shown.length<=sizeLine/\Q (.str d.shown) H1
theorem Zky{e:Expr}{te:TE}{pos:Pos}(hg:X.A.guards=some [])(hu:X.A.units+200<cLine)(he:PE X e te):PE X (.FormattedValue e 114 none pos) (ZmO X.K te):=by
 intro pins s σ H Q I h;refine wpAny_FormattedValue_repr (thn (he pins s σ H _ I h) fun u s1 ⟨v,H1,I1,r,a,d,ev,hd,hs,hn,hdep,hz,q⟩=>?_);subst ev;cases r;obtain⟨as,ra⟩:=hd.reads I1 rfl;refine pyReprObj_of_reads ra hs (PyData.noDict_hsm hn) hg (by lia) (fun _ _ e=>e) (fun h' u tk kp=>?_) hz;exact formatField_str (fun t' tk'=>⟨.str d.shown,H1,((I1.kept (t':=tk) kp).tok _).tok _,⟨_,rfl⟩,q⟩) hz
end
end L2
namespace L2
open PySem PySem.Spec PyProof.Rows
theorem Zk2{X:Cx}{hs:List ExceptHandler}{t₁ t₂ : THS}(h1:PH X hs t₁)(h2:PH X hs t₂):PH X hs (fun D σ H e oe=>t₁ D σ H e oe\/t₂ D σ H e oe):=by
 intro pins s σ H D e oe T oT ts vs I fT hd k1 hdT k3 he h;rcases h with h|h
 ·exact h1 pins s σ H D e oe T oT ts vs I fT hd k1 hdT k3 he h
 ·exact h2 pins s σ H D e oe T oT ts vs I fT hd k1 hdT k3 he h
end L2
namespace L2
open PySem PySem.Spec PyProof.Rows PySem.W
section
variable{K:Frag}{x C D:Addr}{ox od:Obj}{f:Str}
theorem ZkX{c:Value}(Y:XFld K C f)(N:XNot K C D)(hne:(Value.ref C == c)=false)(e:kitCls K (.ref C) c=some false):Answers (fun s=>K.In s.heap/\InstAt s.heap x ox C (some od)) (.ref x) c false:=by
 obtain⟨cdD,hcD,_⟩:=any_some Y.hd;intro dep tk prog w A R s hs;obtain⟨⟨X,I⟩,hq⟩:=hs;have hq:=hq (s.toks+1);have hisD:Looks (model prog w) s.heap (isType (.ref C)) true:=by
  unfold clsIn at hcD
  split at hcD
  ·rename_i c' d' cd' sl' ho
   intro A' Q' E' s' k q;unfold isType loadHead;exact wpAny_bind (wpAny_loadPart (k _ _ (X _ _ ho)) (wpAny_pure q))
  ·cases hcD
 obtain⟨h0,g,d,tt,os⟩:=s;have L0:=I.type (M:=model prog w);unfold Builtin.«isinstance.nested»;refine wpAny_bind (L0.at ?_);rw[if_neg (by rw[hne];decide)];obtain⟨hty,his,hsub⟩:=kit_cls (M:=model prog w) X e;refine wpAny_bind (hty.at ?_);rw[if_pos (by decide)]
 k_delta "plainIsInstance"
 refine wpAny_bind (wpAny_bind (his.at ?_));simp only[Bool.not_true,Bool.false_eq_true,if_false];refine wpAny_bind ((L0.andThen hsub).at ?_);simp only[Bool.false_eq_true,if_false];refine wpAny_bind (ZjV X I Y N ?_);refine wpAny_bind (hisD.at ?_);simp only[Bool.not_true,Bool.false_eq_true,if_false];refine wpAny_bind (wpAny_rule ?_);refine hsub.at ?_
 first
  | exact wpAny_pure hq
  | exact wpAny_pure (wpAny_pure hq)
  | exact wpAny_bind (wpAny_pure (wpAny_pure hq))
theorem ZfK{prog:Program}{w:World}{A:Around}{E:Value->Shared->Prop}{tp:Addr}{cs:List Value}{vs:List Bool}{tk:Tok}{s:Shared}{Q:Fin->Shared->Prop}(X:K.In s.heap)(I:InstAt s.heap x ox C (some od))(hC:C≠tp)
  {ot:Obj} {nt:Nat} (htp:s.heap.get? tp=some ot) (htc:ot.cls=.type "tuple") (htd:ot.data=.seq cs.toArray nt) (ha:AnswersAll (fun s=>K.In s.heap/\InstAt s.heap x ox C (some od)) (.ref x) cs vs)
  (hq:∀tk',Q (.done (.ret (.bool (vs.any id)))) { s with toks:=tk' }):wpAny (model prog w) A (Builtin.«isinstance.nested» ⟨[.ref x,.ref tp,.int 0 tk],[]⟩) Q E s:=by
 obtain⟨h,g,d,t,os⟩:=s;have L0:=I.type (M:=model prog w);have hT2:(⟨h,g,d,t,os⟩:Shared).TypeIs (.ref tp) "tuple" := ⟨_,htp,htc⟩;have f1:=F.isi_sub_tuple;unfold Builtin.«isinstance.nested»;refine wpAny_bind (L0.at ?_);rw[if_neg (by simpa using hC)]
 repeat (any_goals (first|assumption|wp_step))
 rw[htd];refine wpAny_pure ?_
 repeat (any_goals (first|assumption|wp_step))
 refine wpAny_arrayLoop ?_;simp only[Option.getD_some,List.toList_toArray];refine isinstance_items (dep:=0) (P:=fun s=>K.In s.heap/\InstAt s.heap x ox C (some od)) (fun _ _ h=>h) cs vs _ _ ha ⟨X,I⟩ fun tk'=>?_;cases hv:vs.any id with
 | true =>
  simp only[if_true]
  repeat (any_goals (first|assumption|wp_step))
  exact hv ▸ hq tk'
 | false =>
  simp only[Bool.false_eq_true,if_false]
  repeat (any_goals (first|assumption|wp_step))
  exact hv ▸ hq tk'
theorem Zem:∀{Ds:List Addr}{us:List Value},Vals (Ds.map V.ref) us->us=Ds.map Value.ref
 | [],_,.nil=>rfl
 | D::Ds,_,.cons r t=>by
  rw[Zem t];have r:_=Value.ref D:=r;rw[r];rfl
theorem Zhz(Y:XFld K C f):∀{Ds:List Addr},(∀D∈Ds,C≠D/\isClsIn K D=true/\mroIn K C (.ref D)=some false/\XNot K C D)->AnswersAll (fun s=>K.In s.heap/\InstAt s.heap x ox C (some od)) (.ref x) (Ds.map Value.ref) (Ds.map fun _=>false)
 | [],_=>trivial
 | D::Ds,h=>by
  obtain⟨h1,h2,h3,N⟩:=h D (List.mem_cons_self ..);refine⟨ZkX Y N (by simpa using h1) ?_,Zhz Y fun E hE=>h E (List.mem_cons_of_mem _ hE)⟩;unfold kitCls;dsimp only;unfold isClsIn at h2;rw[h2,N.ty,if_pos (by decide)];exact h3
end
section
variable{X:Cx}
theorem Zep{K:Frag}(hK:X.K=K):Zbq X (.builtin "isinstance") (fun xs H Q=>∃(a:Addr)(oe:Obj)(C:Addr)(Ds:List Addr)(tp dx:Addr)(fs:List (Str×V))(f:Str),xs=[.ref a,.ref tp]/\H a=some (Known a oe)/\oe.cls=.ref C/\oe.dict=some dx/\(∃vs,oe.data=.fields vs)/\H dx=some (.xd fs)/\H tp=some (.tup (Ds.map V.ref))/\XFld K C f /\
  (∀D∈Ds,C≠D/\isClsIn K D=true/\mroIn K C (.ref D)=some false/\XNot K C D)/\Q (.bl false) H):=by
 subst hK;intro pins s σ H xs us Q I r h;obtain⟨a,oe,C,Ds,tp,dx,fs,f,rfl,hk,hc,hd,⟨vs,hf⟩,hx,ht,Y,hD,q⟩:=h;obtain⟨u,v,rfl,rx,ry⟩:=Vals.two r;obtain rfl:u=Value.ref a:=rx;obtain rfl:v=Value.ref tp:=ry;have ho:s.heap.get? a=some oe:=(I.hok a _ hk).1;obtain⟨mA,n,hr⟩:=(show Zar X.prog X.w H s.heap dx (.xd fs) from I.hok dx _ hx);obtain⟨od,hod,hlk⟩:=ZcU n;have J:InstAt s.heap a oe C (some od):=⟨ho,hc,by unfold notCls;rw[hf],by rw[hd];exact hod⟩;obtain⟨_,its,rv,o,hto,htc,n',htd⟩:=(show Zar X.prog X.w H s.heap tp (.tup (Ds.map V.ref)) from I.hok tp _ ht);obtain rfl:=Zem rv;have hCt:C≠tp:=fun z=>by
  obtain⟨cd,hcD,_⟩:=any_some Y.hd;unfold clsIn at hcD
  split at hcD
  ·rename_i c' d' cd' sl' hlk
   have:=I.kIn _ _ hlk;rw[z,hto] at this;cases this;cases htd
  ·cases hcD
 have hany:(Ds.map fun _=>false).any id=false:=by simp
 refine call_isinstance (S:=fun _ R s=>(X.K.In s.heap/\InstAt s.heap a oe C (some od))/\s.heap.get? tp=some o/\∀tk,R (.ok (.ret (.bool false))) { s with toks:=tk }) (fun prog w A R s hs=>isinstance_outer ?_ (fun z=>nomatch z)) ⟨⟨I.kIn,J⟩,hto,fun tk=>⟨.bl false,H,I.tok _,rfl,q⟩⟩
 obtain⟨⟨X1,I1⟩,h5,h6⟩:=hs;exact ZfK (cs:=Ds.map Value.ref) (vs:=Ds.map fun _=>false) X1 I1 hCt h5 htc htd (Zhz Y hD) (fun tk'=>by rw[hany];exact h6 tk')
end
end L2
namespace K24
open PySem L2 FgM Fg
def top(i:Nat):Stmt:=PySem.Challenge.pw_formgrove_k24_names_refused.main.body.getD i (.Pass ⟨0,0,0,0⟩)
abbrev ZZ:Stmt:=inClass (top 3) 0
abbrev Zaj:Stmt:=inClass (top 4) 0
abbrev Zas:Stmt:=inClass (top 5) 0
abbrev Zcp:Stmt:=top 8
abbrev Zbg:Stmt:=top 15
abbrev Zbh:Stmt:=top 16
abbrev ZaY:Stmt:=top 17
abbrev Za1:Stmt:=top 18
abbrev Zak:Stmt:=inClass (top 19) 0
abbrev ZaN:Stmt:=inClass (top 19) 1
abbrev ZaE:Stmt:=inClass (top 19) 2
abbrev Zaa:Stmt:=inClass (top 19) 3
abbrev Zaw:Stmt:=inClass (top 19) 4
abbrev Z0:Stmt:=inClass (top 19) 5
abbrev Zad:Stmt:=inClass (top 19) 6
abbrev Zab:Stmt:=inClass (top 19) 7
abbrev Zac:Stmt:=inClass (top 19) 8
abbrev Z4:Stmt:=inClass (top 19) 9
abbrev Z5:Stmt:=inClass (top 19) 10
abbrev Z8:Stmt:=inClass (top 19) 11
abbrev Zc7:Stmt:=top 23
abbrev Zed:Stmt:=top 24
abbrev Za2:Stmt:=top 25
abbrev Zba:Stmt:=top 26
abbrev Zae:Stmt:=top 27
abbrev Zaf:Stmt:=top 28
abbrev Zbi:Stmt:=top 29
abbrev Zax:Stmt:=top 30
abbrev ZaF:Stmt:=top 31
abbrev Zag:Stmt:=top 32
abbrev ZaX:Stmt:=top 33
abbrev Zcq:Stmt:=top 35
abbrev Zcn:Stmt:=top 36
abbrev Zcj:Stmt:=top 37
abbrev ZV:Stmt:=top 38
abbrev ZaC:Stmt:=top 39
abbrev ZS:Stmt:=top 40
abbrev Zay:Stmt:=top 41
abbrev ZaW:Stmt:=top 42
abbrev ZbC:Stmt:=top 43
abbrev ZaT:Stmt:=top 44
abbrev ZaD:Stmt:=top 45
abbrev Zbp:Stmt:=top 46
theorem ZbZ:FnScope ["self","name"] ["self","name"] (Zg ZZ):=⟨rfl,rfl,rfl,by decide +kernel,rfl,by decide +kernel,by decide +kernel⟩
theorem ZcV:FnScope ["self","name"] ["self","name"] (Zg Zaj):=⟨rfl,rfl,rfl,by decide +kernel,rfl,by decide +kernel,by decide +kernel⟩
theorem Zdn:FnScope ["self","names"] ["self","names"] (Zg Zas):=⟨rfl,rfl,rfl,by decide +kernel,rfl,by decide +kernel,by decide +kernel⟩
theorem Zi0:FnScope ["text"] ["text"] (Zg Zcp):=⟨rfl,rfl,rfl,by decide +kernel,rfl,by decide +kernel,by decide +kernel⟩
theorem ZfL:FnScope ["expr"] ["expr"] (Zg Zbg):=⟨rfl,rfl,rfl,by decide +kernel,rfl,by decide +kernel,by decide +kernel⟩
theorem Zf7:FnScope ["expr"] ["expr"] (Zg Zbh):=⟨rfl,rfl,rfl,by decide +kernel,rfl,by decide +kernel,by decide +kernel⟩
theorem ZcO:FnScope ["expr","texts"] ["expr"] (Zg ZaY):=⟨rfl,rfl,rfl,by decide +kernel,rfl,by decide +kernel,by decide +kernel⟩
theorem ZcQ:FnScope ["around","part","text"] ["around","part"] (Zg Za1):=⟨rfl,rfl,rfl,by decide +kernel,rfl,by decide +kernel,by decide +kernel⟩
theorem ZcT:FnScope ["self","text"] ["self","text"] (Zg Zak):=⟨rfl,rfl,rfl,by decide +kernel,rfl,by decide +kernel,by decide +kernel⟩
theorem Zd8:FnScope ["self","piece"] ["self","piece"] (Zg ZaN):=⟨rfl,rfl,rfl,by decide +kernel,rfl,by decide +kernel,by decide +kernel⟩
theorem ZdO:FnScope ["self","piece"] ["self","piece"] (Zg ZaE):=⟨rfl,rfl,rfl,by decide +kernel,rfl,by decide +kernel,by decide +kernel⟩
theorem Zcy:FnScope ["self","piece"] ["self","piece"] (Zg Zaa):=⟨rfl,rfl,rfl,by decide +kernel,rfl,by decide +kernel,by decide +kernel⟩
theorem Zdr:FnScope ["self"] ["self"] (Zg Zaw):=⟨rfl,rfl,rfl,by decide +kernel,rfl,by decide +kernel,by decide +kernel⟩
theorem Za8:FnScope ["self","first","last","begin"] ["self","first","last"] (Zg Z0):=⟨rfl,rfl,rfl,by decide +kernel,rfl,by decide +kernel,by decide +kernel⟩
theorem Zbn:FnScope ["self","name"] ["self"] (Zg Zad):=⟨rfl,rfl,rfl,by decide +kernel,rfl,by decide +kernel,by decide +kernel⟩
theorem Zbm:FnScope ["self","levels","parts"] ["self","levels"] (Zg Zab):=⟨rfl,rfl,rfl,by decide +kernel,rfl,by decide +kernel,by decide +kernel⟩
theorem Zbo:FnScope ["self","levels","parts"] ["self","levels"] (Zg Zac):=⟨rfl,rfl,rfl,by decide +kernel,rfl,by decide +kernel,by decide +kernel⟩
theorem Zap:FnScope ["self","levels","part","sort","mark"] ["self","levels"] (Zg Z4):=⟨rfl,rfl,rfl,by decide +kernel,rfl,by decide +kernel,by decide +kernel⟩
theorem ZaL:FnScope ["self","levels","part","tag"] ["self","levels"] (Zg Z5):=⟨rfl,rfl,rfl,by decide +kernel,rfl,by decide +kernel,by decide +kernel⟩
theorem Zbe:FnScope ["self","levels","inner"] ["self","levels"] (Zg Z8):=⟨rfl,rfl,rfl,by decide +kernel,rfl,by decide +kernel,by decide +kernel⟩
theorem ZjJ:FnScope ["book"] ["book"] (Zg Zc7):=⟨rfl,rfl,rfl,by decide +kernel,rfl,by decide +kernel,by decide +kernel⟩
theorem ZhX:FnScope ["text","book"] ["text"] (Zg Zed):=⟨rfl,rfl,rfl,by decide +kernel,rfl,by decide +kernel,by decide +kernel⟩
theorem ZbQ:FnScope ["text","source","pairs"] ["text"] (Zg Za2):=⟨rfl,rfl,rfl,by decide +kernel,rfl,by decide +kernel,by decide +kernel⟩
theorem Zdk:FnScope ["source","name"] ["source"] (Zg Zba):=⟨rfl,rfl,rfl,by decide +kernel,rfl,by decide +kernel,by decide +kernel⟩
theorem ZaP:FnScope ["book","seen","name","expr"] ["book"] (Zg Zae):=⟨rfl,rfl,rfl,by decide +kernel,rfl,by decide +kernel,by decide +kernel⟩
theorem Zat:FnScope ["book","pairs","name","expr","used"] ["book"] (Zg Zaf):=⟨rfl,rfl,rfl,by decide +kernel,rfl,by decide +kernel,by decide +kernel⟩
theorem ZcE:FnScope ["expr","found","part"] ["expr"] (Zg Zbi):=⟨rfl,rfl,rfl,by decide +kernel,rfl,by decide +kernel,by decide +kernel⟩
theorem Zbd:FnScope ["expr","found","part"] ["expr"] (Zg Zax):=⟨rfl,rfl,rfl,by decide +kernel,rfl,by decide +kernel,by decide +kernel⟩
theorem Zau:FnScope ["book","uses","left","going"] ["book"] (Zg ZaF):=⟨rfl,rfl,rfl,by decide +kernel,rfl,by decide +kernel,by decide +kernel⟩
theorem Zde:FnScope ["uses","names"] ["uses","names"] (Zg Zag):=⟨rfl,rfl,rfl,by decide +kernel,rfl,by decide +kernel,by decide +kernel⟩
theorem Zbr:FnScope ["uses","names","path","name"] ["uses","names"] (Zg ZaX):=⟨rfl,rfl,rfl,by decide +kernel,rfl,by decide +kernel,by decide +kernel⟩
theorem Zh0:FnScope ["_law_script","_law_state"] ["_law_script","_law_state"] (Zg Zcq):=⟨rfl,rfl,rfl,by decide +kernel,rfl,by decide +kernel,by decide +kernel⟩
theorem Zb9:FnScope ["_law_cell","_law_letters","_law_word_here","_law_k","_law_number"] ["_law_cell","_law_letters"] (Zg Zcn):=⟨rfl,rfl,rfl,by decide +kernel,rfl,by decide +kernel,by decide +kernel⟩
theorem ZdS:FnScope ["_law_cell","_law_names","_law_tag","_law_name"] ["_law_cell","_law_names"] (Zg Zcj):=⟨rfl,rfl,rfl,by decide +kernel,rfl,by decide +kernel,by decide +kernel⟩
theorem Zal:FnScope ["_law_script","_law_state","_law_room","_law_names","_law_cell","_law_way","_law_expr","_law_text","_law_tag","_law_parts","_law_texts","_law_pair"] ["_law_script","_law_state","_law_room","_law_names"] (Zg ZV):=⟨rfl,rfl,rfl,by decide +kernel,rfl,by decide +kernel,by decide +kernel⟩
theorem Zbl:FnScope ["_law_expr","_law_outside","_law_parts","_law_found","_law_part"] ["_law_expr","_law_outside"] (Zg ZaC):=⟨rfl,rfl,rfl,by decide +kernel,rfl,by decide +kernel,by decide +kernel⟩
theorem Z3:FnScope ["_law_script","_law_state","_law_great","_law_cell","_law_base","_law_at","_law_pool","_law_many","_law_stand","_law_pairs_here","_law_k","_law_names","_law_expr","_law_text"] ["_law_script","_law_state"] (Zg ZS):=⟨rfl,rfl,rfl,by decide +kernel,rfl,by decide +kernel,by decide +kernel⟩
theorem ZaQ:FnScope ["_law_pairs_here","_law_names","_law_name","_law_expr","_law_text","_law_after","_law_other","_law_left","_law_k"] ["_law_pairs_here"] (Zg Zay):=⟨rfl,rfl,rfl,by decide +kernel,rfl,by decide +kernel,by decide +kernel⟩
theorem Zcf:FnScope ["_law_told","_law_after","_law_name","_law_k"] ["_law_told","_law_after"] (Zg ZaW):=⟨rfl,rfl,rfl,by decide +kernel,rfl,by decide +kernel,by decide +kernel⟩
theorem Zeq:FnScope ["_law_told","_law_due_here","_law_k"] ["_law_told","_law_due_here"] (Zg ZbC):=⟨rfl,rfl,rfl,by decide +kernel,rfl,by decide +kernel,by decide +kernel⟩
theorem Zai:FnScope ["_law_text","_law_answer","_law_clean","e"] ["_law_text"] (Zg ZaT):=⟨rfl,rfl,rfl,by decide +kernel,rfl,by decide +kernel,by decide +kernel⟩
theorem ZbG:FnScope ["_law_pairs_here","_law_word_here","_law_told","_law_due_here","_law_what"] ["_law_pairs_here"] (Zg ZaD):=⟨rfl,rfl,rfl,by decide +kernel,rfl,by decide +kernel,by decide +kernel⟩
theorem Zcu:FnScope ["_law_script","_law_pairs_here","_law_mended","_law_k","_law_word_here","_law_amiss","_law_at"] ["_law_script"] (Zg Zbp):=⟨rfl,rfl,rfl,by decide +kernel,rfl,by decide +kernel,by decide +kernel⟩
structure XC(K:PySem.W.Frag)(mg:Str->Option Value)(X_GroveError X_NoBook X_TwiceNamed X_NoName X_Ring:Addr):Prop where
 n_GroveError:mg "GroveError" = some (.ref X_GroveError)
 n_NoBook:mg "NoBook" = some (.ref X_NoBook)
 n_TwiceNamed:mg "TwiceNamed" = some (.ref X_TwiceNamed)
 n_NoName:mg "NoName" = some (.ref X_NoName)
 n_Ring:mg "Ring" = some (.ref X_Ring)
 bas:XBas K X_GroveError
 isG:PySem.W.isClsIn K X_GroveError=true
 tyG:PySem.W.typeIn K (.ref X_GroveError)=some (.type "type")
 c_GroveError:XCl K X_GroveError
 c_NoBook:XCl K X_NoBook
 c_TwiceNamed:XCl K X_TwiceNamed
 c_NoName:XCl K X_NoName
 c_Ring:XCl K X_Ring
 top_TwiceNamed:XTop K X_TwiceNamed X_GroveError
 f_TwiceNamed_name:XFld K X_TwiceNamed "name"
 mV_TwiceNamed:PySem.W.mroIn K X_TwiceNamed (.type "ValueError")=some true
 ne_TwiceNamed:X_TwiceNamed≠X_GroveError
 not_TwiceNamed_NoBook:XNot K X_TwiceNamed X_NoBook
 nn_TwiceNamed_NoBook:X_TwiceNamed≠X_NoBook
 not_TwiceNamed_NoName:XNot K X_TwiceNamed X_NoName
 nn_TwiceNamed_NoName:X_TwiceNamed≠X_NoName
 not_TwiceNamed_Ring:XNot K X_TwiceNamed X_Ring
 nn_TwiceNamed_Ring:X_TwiceNamed≠X_Ring
 m_TwiceNamed_GroveError:PySem.W.mroIn K X_TwiceNamed (.ref X_GroveError)=some true
 m_TwiceNamed_NoBook:PySem.W.mroIn K X_TwiceNamed (.ref X_NoBook)=some false
 m_TwiceNamed_TwiceNamed:PySem.W.mroIn K X_TwiceNamed (.ref X_TwiceNamed)=some true
 m_TwiceNamed_NoName:PySem.W.mroIn K X_TwiceNamed (.ref X_NoName)=some false
 m_TwiceNamed_Ring:PySem.W.mroIn K X_TwiceNamed (.ref X_Ring)=some false
 top_NoName:XTop K X_NoName X_GroveError
 f_NoName_name:XFld K X_NoName "name"
 mV_NoName:PySem.W.mroIn K X_NoName (.type "ValueError")=some true
 ne_NoName:X_NoName≠X_GroveError
 not_NoName_NoBook:XNot K X_NoName X_NoBook
 nn_NoName_NoBook:X_NoName≠X_NoBook
 not_NoName_TwiceNamed:XNot K X_NoName X_TwiceNamed
 nn_NoName_TwiceNamed:X_NoName≠X_TwiceNamed
 not_NoName_Ring:XNot K X_NoName X_Ring
 nn_NoName_Ring:X_NoName≠X_Ring
 m_NoName_GroveError:PySem.W.mroIn K X_NoName (.ref X_GroveError)=some true
 m_NoName_NoBook:PySem.W.mroIn K X_NoName (.ref X_NoBook)=some false
 m_NoName_TwiceNamed:PySem.W.mroIn K X_NoName (.ref X_TwiceNamed)=some false
 m_NoName_NoName:PySem.W.mroIn K X_NoName (.ref X_NoName)=some true
 m_NoName_Ring:PySem.W.mroIn K X_NoName (.ref X_Ring)=some false
 top_Ring:XTop K X_Ring X_GroveError
 f_Ring_names:XFld K X_Ring "names"
 mV_Ring:PySem.W.mroIn K X_Ring (.type "ValueError")=some true
 ne_Ring:X_Ring≠X_GroveError
 not_Ring_NoBook:XNot K X_Ring X_NoBook
 nn_Ring_NoBook:X_Ring≠X_NoBook
 not_Ring_TwiceNamed:XNot K X_Ring X_TwiceNamed
 nn_Ring_TwiceNamed:X_Ring≠X_TwiceNamed
 not_Ring_NoName:XNot K X_Ring X_NoName
 nn_Ring_NoName:X_Ring≠X_NoName
 m_Ring_GroveError:PySem.W.mroIn K X_Ring (.ref X_GroveError)=some true
 m_Ring_NoBook:PySem.W.mroIn K X_Ring (.ref X_NoBook)=some false
 m_Ring_TwiceNamed:PySem.W.mroIn K X_Ring (.ref X_TwiceNamed)=some false
 m_Ring_NoName:PySem.W.mroIn K X_Ring (.ref X_NoName)=some false
 m_Ring_Ring:PySem.W.mroIn K X_Ring (.ref X_Ring)=some true
abbrev Zbv:List Str:=["ValueError","all","any","dict","int","isinstance","len","list","max","range","str","tuple"]
section
variable{P:Program}{w:World}{K:PySem.W.Frag}{mg:Str->Option Value}{base:Heap}{f:Addr}{fd:FuncData}{X_GroveError X_NoBook X_TwiceNamed X_NoName X_Ring:Addr}
theorem ZiK(B:∀x∈Zbv,mg x=none)(Cc:∃t:Tok,mg "LONGEST_TAG" = some (.int 8 t)) (F:Fun K "is_tag" "is_tag" Zcp f fd):FnOk P w K mg base CX0 1 f fd ["text"] Zgl:=by
 refine F.ok Zi0 (fun vs H Q E h=>?_) (fun cdv A outer s H vs Q E hr h=>?_)
 ·obtain⟨z,rfl,_⟩:=h;rfl
 obtain⟨z,rfl,hz,q⟩:=h;obtain⟨t8,c_LONGEST_TAG⟩:=Cc;unfold ZlO at q;refine⟨_,(Zf (Zr (ZcM (ZjK ZjA ZjA Zh (Zu Za0 rfl (B "len" (by decide)) PySem.boot_len (Za (pv 0) Zd)) (Z9 (v:=.int 8) rfl c_LONGEST_TAG ⟨_,rfl⟩)) (Zer (Zu (Zjo rfl) rfl (B "all" (by decide)) Zli (Za (Zhc (pv 0) rfl (by decide) (by decide) rfl (by decide) rfl (by decide) (fun _=>rfl)) Zd)))))),?_⟩;refine⟨_,rfl,z,rfl,Zx (by lia),_,_,rfl,rfl,_,rfl,?_⟩;refine Zaz (fun c=>?_) (fun c=>?_)
 ·have c1:1<=z.length:=by
   have:=of_decide_eq_true c;lia
  rw[decide_eq_true c1,Bool.true_and] at q;refine⟨_,_,rfl,rfl,_,rfl,?_⟩;refine Zaz (fun c=>?_) (fun c=>?_)
  ·have c2:z.length<=8:=by
    have:=of_decide_eq_true c;lia
   rw[decide_eq_true c2,Bool.true_and] at q;refine⟨_,rfl,z,rfl,Zx (by lia),fun p hp=>⟨p,z.cps.toList.map azB,rfl,SqL.of ?_,?_⟩⟩
   ·rw[Zb,List.map_map];rfl
   ·have e:(z.cps.toList.map azB).all id=z.cps.toList.all azB:=by
     rw[List.all_map];rfl
    rw[e];exact q _ (Zk.new hp)
  ·have c2 : ¬ z.length<=8:=fun h=>c (decide_eq_true (by show((z.length:Nat):Int)<=8;lia));rw[decide_eq_false c2,Bool.false_and] at q;exact q H (Zk.refl H)
 ·have c1 : ¬ 1<=z.length:=fun h=>c (decide_eq_true (by show(1:Int)<=((z.length:Nat):Int);lia));rw[decide_eq_false c1,Bool.false_and,Bool.false_and] at q;exact⟨_,rfl,ZbD (q H (Zk.refl H))⟩
mutual
inductive Ex where
 | nil:Ex
 | tag:Str->Ex->Ex
 | name:Str->Ex
 | several:Bool->Exs->Ex
 | rep:Nat->Ex->Ex
inductive Exs where
 | nil:Exs
 | cons:Ex->Exs->Exs
end
def Za5(m:Nat):Str:=if m=0 then "many" else if m=1 then "some" else "maybe"
def Zd3(m:Nat):Str:=if m=0 then "*" else if m=1 then "+" else "?"
def ZdE(b:Bool):Str:=if b=true then "turn" else "or"
def ZfI(b:Bool):Str:=if b=true then " " else " | "
def kw:Ex->Str
 | .nil=>"nil"
 | .tag _ _=>"tag"
 | .name _=>"name"
 | .several b _=>ZdE b
 | .rep m _=>Za5 m
def ZbF:Ex->Bool
 | .nil=>true
 | _=>false
def five:List Str:=["turn","or","many","some","maybe"]
def Zb3(b:Bool):List Str:=if b=true then ["turn","or"] else ["or"]
def brc(l:List Str)(k t:Str):Str:=if l.contains k=true then "{" ++ t ++ "}" else t
mutual
def tx:Ex->Str
 | .nil=>"{}"
 | .tag t i=>if ZbF i=true then t else t ++ "(" ++ tx i ++ ")"
 | .name n=>n
 | .several b ps=>Txt.join (ZfI b) (txs (Zb3 b) ps)
 | .rep m p=>brc five (kw p) (tx p)++Zd3 m
def txs(l:List Str):Exs->List Str
 | .nil=>[]
 | .cons e r=>brc l (kw e) (tx e)::txs l r
end
mutual
def sz:Ex->Nat
 | .nil=>1
 | .tag _ i=>sz i+1
 | .name _=>1
 | .several _ ps=>szs ps+1
 | .rep _ p=>sz p+1
def szs:Exs->Nat
 | .nil=>0
 | .cons e r=>sz e+szs r
end
mutual
def dp:Ex->Nat
 | .nil=>0
 | .tag _ i=>dp i+1
 | .name _=>0
 | .several _ ps=>dps ps+1
 | .rep _ p=>dp p+1
def dps:Exs->Nat
 | .nil=>0
 | .cons e r=>max (dp e) (dps r)
end
mutual
def w8:Ex->Prop
 | .nil=>True
 | .tag t i=>t.length<=8/\w8 i
 | .name n=>n.length<=8
 | .several _ ps=>w8s ps
 | .rep _ p=>w8 p
def w8s:Exs->Prop
 | .nil=>True
 | .cons e r=>w8 e/\w8s r
end
def cnt:Exs->Nat
 | .nil=>0
 | .cons _ r=>cnt r+1
theorem ZeL(l:List Str)(k t:Str):(brc l k t).length<=t.length+2:=by
 unfold brc
 split
 ·rw[Zy,Zy];show 1+t.length+1<=_;lia
 ·lia
theorem ZdW(l:List Str):∀ps:Exs,(txs l ps).length=cnt ps
 | .nil=>rfl
 | .cons e r=>by simp only[txs,cnt,List.length_cons,ZdW l r]
mutual
theorem Zbw:∀e:Ex,w8 e->(tx e).length+6<=20*sz e
 | .nil,_=>by show 2+6<=20*1;lia
 | .tag t i,h=>by
  have h1:t.length<=8:=h.1;have:=Zbw i h.2;rw[tx,sz]
  split
  ·lia
  ·rw[Zy,Zy,Zy];show t.length+1+(tx i).length+1+6<=_;lia
 | .name n,h=>by
  have h1:n.length<=8:=h;show n.length+6<=20*1;lia
 | .several b ps,h=>by
  have h1:=ZeE (Zb3 b) ps h;have h2:=Zdb (ZfI b) (txs (Zb3 b) ps);have h3:(ZfI b).length<=3:=by cases b <;> decide
  rw[tx,sz];have h4:(txs (Zb3 b) ps).length*(ZfI b).length<=(txs (Zb3 b) ps).length*3:=Nat.mul_le_mul_left _ h3;lia
 | .rep m p,h=>by
  have h1:=Zbw p h;have h2:=ZeL five (kw p) (tx p);have h3:(Zd3 m).length=1:=by unfold Zd3;split;rfl;split <;> rfl
  rw[tx,sz,Zy,h3];lia
theorem ZeE(l:List Str):∀ps:Exs,w8s ps->((txs l ps).map (·.length)).sum+(txs l ps).length*3<=20*szs ps
 | .nil,_=>Nat.zero_le _
 | .cons e r,h=>by
  have h1:=Zbw e h.1;have h2:=ZeE l r h.2;have h3:=ZeL l (kw e) (tx e);simp only[txs,szs,List.map_cons,List.sum_cons,List.length_cons];lia
end
mutual
inductive RepE(H:Hp):Addr->Ex->Prop
 | nil {p:Addr}:H p=some (.tup [.str "nil"])->RepE H p .nil
 | tag {p q:Addr} {t:Str} {i:Ex}:H p=some (.tup [.str "tag",.str t,.ref q])->RepE H q i->RepE H p (.tag t i)
 | name {p:Addr} {n:Str}:H p=some (.tup [.str "name",.str n])->RepE H p (.name n)
 | several {p q:Addr} {b:Bool} {vs:List V} {ps:Exs}:H p=some (.tup [.str (ZdE b),.ref q])->H q=some (.tup vs)->RepEs H vs ps->RepE H p (.several b ps)
 | rep {p q:Addr} {m:Nat} {e:Ex}:H p=some (.tup [.str (Za5 m),.ref q])->RepE H q e->RepE H p (.rep m e)
inductive RepEs(H:Hp):List V->Exs->Prop
 | nil:RepEs H [] .nil
 | cons {p:Addr} {e:Ex} {vs:List V} {r:Exs}:RepE H p e->RepEs H vs r->RepEs H (.ref p::vs) (.cons e r)
end
mutual
theorem RepE.mono{H H':Hp}(k:TK H H'):∀{p:Addr}{e:Ex},RepE H p e->RepE H' p e
 | _,_,.nil h=>.nil (k _ _ h)
 | _,_,.tag h r=>.tag (k _ _ h) (RepE.mono k r)
 | _,_,.name h=>.name (k _ _ h)
 | _,_,.several h1 h2 r=>.several (k _ _ h1) (k _ _ h2) (RepEs.mono k r)
 | _,_,.rep h r=>.rep (k _ _ h) (RepE.mono k r)
theorem RepEs.mono{H H':Hp}(k:TK H H'):∀{vs:List V}{ps:Exs},RepEs H vs ps->RepEs H' vs ps
 | _,_,.nil=>.nil
 | _,_,.cons h r=>.cons (RepE.mono k h) (RepEs.mono k r)
end
theorem RepE.top{H:Hp}{p:Addr}{e:Ex}(h:RepE H p e):∃r,H p=some (.tup (.str (kw e)::r))/\r.isEmpty=ZbF e:=by
 cases h with
 | nil h=>exact⟨_,h,rfl⟩
 | tag h _=>exact⟨_,h,rfl⟩
 | name h=>exact⟨_,h,rfl⟩
 | several h _ _=>exact⟨_,h,rfl⟩
 | rep h _=>exact⟨_,h,rfl⟩
theorem ZhQ(e:Ex):(decide (kw e= "nil")&&ZbF e)=ZbF e:=by
 cases e with
 | nil=>rfl
 | _=>simp[ZbF]
theorem RepEs.length{H:Hp}:∀{vs:List V}{ps:Exs},RepEs H vs ps->vs.length=cnt ps
 | _,_,.nil=>rfl
 | _,_,.cons _ r=>by simp only[List.length_cons,cnt,RepEs.length r]
theorem ZbA(k:Str)(l:List Str):inV (.str k) (l.map V.str)=l.contains k:=by
 induction l with
 | nil=>rfl
 | cons x l ih =>
  show(eqV (.str x) (.str k) || inV (.str k) (l.map V.str))=_;rw[ih,List.contains_cons]
  congr 1
  show(x == k)=(k == x);by_cases e:x=k
  ·subst e;rfl
  ·rw[beq_eq_false_iff_ne.mpr e,beq_eq_false_iff_ne.mpr (Ne.symm e)]
theorem at0{x:V}{r:List V}:atI (x::r) 0=some x:=Zbc (j:=0) rfl
def toL:Exs->List Ex
 | .nil=>[]
 | .cons e r=>e::toL r
theorem ZeA(l:List Str):∀ps:Exs,txs l ps=(toL ps).map fun e=>brc l (kw e) (tx e)
 | .nil=>rfl
 | .cons e r=>by rw[txs,ZeA l r];rfl
theorem RepEs.get{H:Hp}:∀{vs:List V}{ps:Exs}{i:Nat}{x:V},RepEs H vs ps->vs[i]?= some x->∃p e,x=.ref p/\(toL ps)[i]?= some e/\RepE H p e
 | _,_,i,_,.nil,h=>by simp at h
 | _,_,0,_,.cons h _,e=>by cases e;exact⟨_,_,rfl,rfl,h⟩
 | _,_,i+1,x,.cons _ r,e=>RepEs.get (i:=i) (x:=x) r (by simpa using e)
theorem Zce:∀{ps:Exs}{e:Ex},e∈toL ps->dp e<=dps ps/\sz e<=szs ps/\(w8s ps->w8 e)
 | .cons a r,e,h=>by
  rcases List.mem_cons.mp h with rfl|h
  ·exact⟨Nat.le_max_left _ _,Nat.le_add_right _ _,fun h=>h.1⟩
  ·obtain⟨h1,h2,h3⟩:=Zce h;exact⟨Nat.le_trans h1 (Nat.le_max_right _ _),Nat.le_trans h2 (Nat.le_add_left _ _),fun h=>h3 h.2⟩
theorem ZcG:∀ps:Exs,(toL ps).length=cnt ps
 | .nil=>rfl
 | .cons e r=>by simp only[toL,cnt,List.length_cons,ZcG r]
theorem Zlo:∀e:Ex,1<=sz e
 | .nil=>Nat.le_refl _
 | .tag _ i=>by rw[sz];lia
 | .name _=>Nat.le_refl _
 | .several _ ps=>by rw[sz];lia
 | .rep _ p=>by rw[sz];lia
theorem ZgE:∀ps:Exs,cnt ps<=szs ps
 | .nil=>Nat.le_refl _
 | .cons e r=>by
  have:=Zlo e;have:=ZgE r;rw[cnt,szs];lia
def Aro(ar:Str)(l:List Str):Prop:=(∃b,ar=ZdE b/\l=Zb3 b)\/∃m,ar=Za5 m/\l=five
structure Con20(K:PySem.W.Frag)(mg:Str->Option Value)(A_NIL A_MARKS A_BRACED:Addr):Prop where
 nil:mg "NIL" = some (.ref A_NIL)
 nilT:∀H,SqT K H A_NIL [.str "nil"]
 marks:mg "MARKS" = some (.ref A_MARKS)
 marksT:∃D,KTab K A_MARKS D/\∀m,D.lookup (Za5 m)=some (.str (Zd3 m))
 braced:mg "BRACED" = some (.ref A_BRACED)
 bracedT:∃D,KTab K A_BRACED D/\∀ar l,Aro ar l->∃C,D.lookup ar=some (.ref C)/\∀H,SqT K H C (l.map V.str)
def Upr(n:Str):Prop:=cs n ≠ []/\∀c∈cs n,65<=c/\c<=90
mutual
def wfE:Ex->Prop
 | .nil=>True
 | .tag t i=>(Zmd t/\t.length<=8)/\wfE i
 | .name n=>Upr n/\n.length<=8
 | .several _ ps=>2<=cnt ps/\ZlF ps
 | .rep m p=>m<=2/\wfE p
def ZlF:Exs->Prop
 | .nil=>True
 | .cons e r=>wfE e/\ZlF r
end
theorem ZeV:∀{ps:Exs}{e:Ex},ZlF ps->e∈toL ps->wfE e
 | .cons a r,e,h,m=>by
  rcases List.mem_cons.mp m with rfl|m
  ·exact h.1
  ·exact ZeV h.2 m
def Hd(c:Nat):Prop:=c=123\/(97<=c/\c<=122)\/(65<=c/\c<=90)
def tL(l:List Str)(e:Ex):List Nat:=cs (brc l (kw e) (tx e))
theorem ZaI(x y:Str):cs (x++y)=cs x++cs y:=ZhR x y
theorem Zis{l:List Str}{e:Ex}(h:l.contains (kw e)=true):tL l e=123::(cs (tx e) ++ [125]):=by
 unfold tL brc;rw[if_pos h,ZaI,ZaI];rfl
theorem ZdI{l:List Str}{e:Ex}(h:l.contains (kw e)=false):tL l e=cs (tx e):=by
 unfold tL brc;rw[h,if_neg Bool.false_ne_true]
theorem Zgg(sep:Str)(y:Str):∀ys:List Str,jn sep (y::ys)=cs y++ys.flatMap fun z=>cs sep++cs z
 | []=>by simp[jn]
 | z::ys=>by
  rw[List.flatMap_cons,<- List.append_assoc,List.append_assoc (cs y)];show cs y++(cs sep++jn sep (z::ys))=_;rw[Zgg sep z ys];simp only[List.append_assoc]
theorem Zc4(b:Bool)(e:Ex)(ps:Exs):cs (tx (.several b (.cons e ps)))=tL (Zb3 b) e++(toL ps).flatMap fun p=>cs (ZfI b)++tL (Zb3 b) p:=by
 rw[tx,Zie,txs,Zgg,ZeA,List.flatMap_map];rfl
mutual
theorem ZiM:∀e:Ex,wfE e->∃c r,cs (tx e)=c::r/\Hd c
 | .nil,_=>⟨123,[125],rfl,.inl rfl⟩
 | .tag t i,h=>by
  obtain⟨⟨⟨hn,hl⟩,_⟩,_⟩:=h;have hn:cs t ≠ []:=hn;obtain⟨c,r,e⟩:=List.exists_cons_of_ne_nil hn;have hc:97<=c/\c<=122:=hl c (by show c∈cs t;rw[e];exact List.mem_cons_self ..);rw[tx]
  split
  ·exact⟨c,r,e,.inr (.inl hc)⟩
  ·rw[ZaI,ZaI,ZaI,e];exact⟨c,_,rfl,.inr (.inl hc)⟩
 | .name n,h=>by
  obtain⟨⟨hn,hl⟩,_⟩:=h;obtain⟨c,r,e⟩:=List.exists_cons_of_ne_nil hn;exact⟨c,r,e,.inr (.inr (hl c (by rw[e];exact List.mem_cons_self ..)))⟩
 | .several b (.cons e ps),h=>by
  obtain⟨c,r,h1,h2⟩:=Zex (Zb3 b) e h.2.1;rw[Zc4,h1];exact⟨c,_,rfl,h2⟩
 | .several b .nil,h=>absurd h.1 (by show ¬ 2<=0;decide)
 | .rep m p,h=>by
  obtain⟨c,r,h1,h2⟩:=Zex five p h.2;rw[tx,ZaI];show ∃c r,tL five p++_=_/\_;rw[h1];exact⟨c,_,rfl,h2⟩
theorem Zex:∀(l:List Str)(e:Ex),wfE e->∃c r,tL l e=c::r/\Hd c:=fun l e h=>by
 cases hc:l.contains (kw e) with
 | true=>exact⟨123,_,Zis hc,.inl rfl⟩
 | false =>
  rw[ZdI hc];exact ZiM e h
end
def fE(r:List Nat):Prop:=r=[]\/∃c r',r=c::r'/\(c=59\/c=125\/c=41)
def fT(r:List Nat):Prop:=fE r\/∃r',r=32::124::32::r'
def fM(r:List Nat):Prop:=fT r\/∃c r',r=32::c::r'/\Hd c
def fS(r:List Nat):Prop:=fM r\/∃c r',r=c::r'/\(c=42\/c=43\/c=63)
theorem ZjS{r:List Nat}(h:fE r) : ¬ [32,124,32] <+: r /\ ¬ [32] <+: r:=by
 rcases h with rfl|⟨c,r',rfl,h⟩
 ·exact⟨fun⟨_,z⟩=>(by cases z),fun⟨_,z⟩=>(by cases z)⟩
 ·refine⟨fun⟨_,z⟩=>?_,fun⟨_,z⟩=>?_⟩ <;> (injection z with z _;lia)
theorem Zk5{r:List Nat}(h:fT r):[32,124,32] <+: r \/ ¬ [32] <+: r:=by
 rcases h with h|⟨r',rfl⟩
 ·exact .inr (ZjS h).2
 ·exact .inl ⟨r',rfl⟩
theorem ZhN{r:List Nat}(h:fM r):r=[]\/∃c r',r=c::r'/\(c=59\/c=125\/c=41\/c=32):=by
 rcases h with(h|⟨r',rfl⟩)|⟨c,r',rfl,_⟩
 ·rcases h with rfl|⟨c,r',rfl,h⟩
  ·exact .inl rfl
  ·exact .inr ⟨c,r',rfl,by lia⟩
 ·exact .inr ⟨32,_,rfl,by lia⟩
 ·exact .inr ⟨32,_,rfl,by lia⟩
theorem Zku{r:List Nat}(h:fM r){m:Nat}(hm:m=42\/m=43\/m=63) : ¬ [m] <+: r:=fun⟨_,z⟩=>by
 rcases ZhN h with rfl|⟨c,r',rfl,h⟩
 ·cases z
 ·injection z with z _;lia
theorem Zf5{r:List Nat}(h:fS r){c:Nat}{r':List Nat}(e:r=c::r') : ¬ (97<=c/\c<=122) /\ ¬ (65<=c/\c<=90)/\c≠40:=by
 rcases h with h|⟨d,q,rfl,h⟩
 ·rcases ZhN h with rfl|⟨d,q,rfl,h⟩
  ·cases e
  ·injection e with e _;lia
 ·injection e with e _;lia
theorem Zls{ps:List Ex}{r:List Nat}(hr:fE r):fT ((ps.flatMap fun p=>[32,124,32]++tL ["or"] p)++r):=by
 cases ps with
 | nil=>exact .inl hr
 | cons p ps=>exact .inr ⟨_,rfl⟩
theorem ZhG{ps:List Ex}{r:List Nat}(hr:fT r)(hw:∀p∈ps,wfE p):fM ((ps.flatMap fun p=>[32]++tL ["turn","or"] p)++r):=by
 cases ps with
 | nil=>exact .inl hr
 | cons p ps =>
  obtain⟨c,q,e,h⟩:=Zex ["turn","or"] p (hw p (List.mem_cons_self ..));refine .inr ⟨c,q++((ps.flatMap fun p=>[32]++tL ["turn","or"] p)++r),?_,h⟩;rw[List.flatMap_cons,e];simp
theorem Ziv{p:Ex}{ps:List Ex}{r:List Nat}(hw:wfE p) : ¬ [32,124,32] <+: (((p::ps).flatMap fun p=>[32]++tL ["turn","or"] p)++r) /\ [32] <+: (((p::ps).flatMap fun p=>[32]++tL ["turn","or"] p)++r):=by
 obtain⟨c,q,e,h⟩:=Zex ["turn","or"] p hw;rw[List.flatMap_cons,e];refine⟨fun⟨_,z⟩=>?_,⟨_,rfl⟩⟩;injection z with _ z;injection z with z _;unfold Hd at h;lia
theorem Zg2{e:Ex}{r:List Nat}(hw:wfE e):[123,125] <+: (tL five e++r)↔ZbF e=true:=by
 constructor
 ·rintro⟨q,z⟩;cases hc:five.contains (kw e) with
  | true =>
   obtain⟨c,r',h1,h2⟩:=ZiM e hw;rw[Zis hc,h1] at z;injection z with _ z;injection z with z _;unfold Hd at h2;lia
  | false =>
   rw[ZdI hc] at z;cases e with
   | nil=>rfl
   | tag t i =>
    obtain⟨⟨⟨hn,hl⟩,_⟩,_⟩:=hw;obtain⟨c,r',e⟩:=List.exists_cons_of_ne_nil (show cs t ≠ [] from hn);have hcc:97<=c/\c<=122:=hl c (by show c∈cs t;rw[e];exact List.mem_cons_self ..);rw[tx] at z
    split at z
    ·rw[e] at z;injection z with z _;lia
    ·rw[ZaI,ZaI,ZaI,e] at z;injection z with z _;lia
   | name n =>
    obtain⟨⟨hn,hl⟩,_⟩:=hw;obtain⟨c,r',e⟩:=List.exists_cons_of_ne_nil hn;have hcc:=hl c (by rw[e];exact List.mem_cons_self ..);rw[tx,e] at z;injection z with z _;lia
   | several b ps =>
    have hc:five.contains (ZdE b)=false:=hc;cases b <;> exact absurd hc (by decide)
   | rep m p =>
    exfalso
    revert hc
    show ¬ five.contains (Za5 m)=false;unfold Za5
    split
    ·decide
    ·split <;> decide
 ·intro h;cases e with
  | nil=>exact⟨r,rfl⟩
  | _=>cases h
theorem ZgF{e:Ex}{r:List Nat}(hw:wfE e)(hn:ZbF e=false):[123] <+: (tL five e++r)↔five.contains (kw e)=true:=by
 constructor
 ·rintro⟨q,z⟩;cases hc:five.contains (kw e) with
  | true=>rfl
  | false =>
   exfalso;rw[ZdI hc] at z;cases e with
   | nil=>cases hn
   | tag t i =>
    obtain⟨⟨⟨hn,hl⟩,_⟩,_⟩:=hw;obtain⟨c,r',e⟩:=List.exists_cons_of_ne_nil (show cs t ≠ [] from hn);have hcc:97<=c/\c<=122:=hl c (by show c∈cs t;rw[e];exact List.mem_cons_self ..);rw[tx] at z
    split at z
    ·rw[e] at z;injection z with z _;lia
    ·rw[ZaI,ZaI,ZaI,e] at z;injection z with z _;lia
   | name n =>
    obtain⟨⟨hn,hl⟩,_⟩:=hw;obtain⟨c,r',e⟩:=List.exists_cons_of_ne_nil hn;have hcc:=hl c (by rw[e];exact List.mem_cons_self ..);rw[tx,e] at z;injection z with z _;lia
   | several b ps =>
    have hc:five.contains (ZdE b)=false:=hc;cases b <;> exact absurd hc (by decide)
   | rep m p =>
    revert hc
    show ¬ five.contains (Za5 m)=false;unfold Za5
    split
    ·decide
    ·split <;> decide
 ·intro h;rw[Zis h];exact⟨_,rfl⟩
structure SrC(K:PySem.W.Frag)(C:Addr):Prop where
 cls:Cls K C
 nt:ZcL K C "text"
 na:ZcL K C "at"
def srF(T:Str)(n:Nat):List (Str×V):=[("text",.str T),("at",.int (n:Int))]
def ZbX(C:Addr)(H:Hp)(a dx:Addr)(T:Str)(n:Nat):Prop:=H a=some (.ins C dx (srF T n))
def rsT(T:Str)(n:Nat):List Nat:=(cs T).drop n
def Za6(a:Addr)(H H':Hp):Prop := ∀b o,b≠a->H b=some o->H' b=some o
theorem Za6.refl{a:Addr}{H:Hp}:Za6 a H H:=fun _ _ _ h=>h
theorem Za6.trans{a:Addr}{H H1 H2:Hp}(x:Za6 a H H1)(y:Za6 a H1 H2):Za6 a H H2:=fun b o h1 h=>y b o h1 (x b o h1 h)
theorem Za6.same{a:Addr}{H H1:Hp}(x:Zk H H1):Za6 a H H1:=fun b o _ h=>x b o h
theorem Za6.up{a:Addr}{H:Hp}{o:HO}:Za6 a H (upd H a o):=fun b o' h1 h=>by rw[Zi h1];exact h
def Zgh(C:Addr):Sp:=fun vs H Q _=>∃(a dx:Addr)(T:Str),vs=[.ref a,.str T]/\H a=some (.ins C dx [])/\∀H',Za6 a H H'->ZbX C H' a dx T 0->Q .non H'
def ZgR(C:Addr):Sp:=fun vs H Q _=>∃(a dx:Addr)(T:Str)(n:Nat)(p:Str),vs=[.ref a,.str p]/\ZbX C H a dx T n/\n<=T.length/\Q (.bl (decide (cs p <+: rsT T n))) H
def ZbP(C:Addr):Sp:=fun vs H Q _=>∃(a dx:Addr)(T:Str)(n:Nat)(p:Str),vs=[.ref a,.str p]/\ZbX C H a dx T n/\n<=T.length/\p.length<=1000/\(¬ cs p <+: rsT T n->Q (.bl false) H)/\(cs p <+: rsT T n->∀H',Za6 a H H'->ZbX C H' a dx T (n+p.length)->Q (.bl true) H')
def Ze4(C:Addr):Sp:=fun vs H Q _=>∃(a dx:Addr)(T:Str)(n:Nat)(p:Str),vs=[.ref a,.str p]/\ZbX C H a dx T n/\n<=T.length/\p.length<=1000/\cs p <+: rsT T n/\∀H',Za6 a H H'->ZbX C H' a dx T (n+p.length)->Q .non H'
def ZgZ(C:Addr):Sp:=fun vs H Q _=>∃(a dx:Addr)(T:Str)(n:Nat),vs=[.ref a]/\ZbX C H a dx T n/\T.length<=90000/\Q (.bl (decide (n=T.length))) H
variable{C:Addr}
theorem Zc2(B:∀x∈Zbv,mg x=none)(c:SrC K C)(F:Fun K "__init__" "Source.__init__" Zak f fd):FnOk P w K mg base CX0 1 f fd ["self","text"] (Zgh C):=by
 refine F.ok ZcT (fun vs H Q E h=>?_) (fun cdv A outer s H vs Q E hr h=>?_)
 ·obtain⟨a,dx,T,rfl,_⟩:=h;rfl
 obtain⟨a,dx,T,rfl,ha,q⟩:=h;refine⟨_,(Zc (Zj1 (pv 0) (pv 1) rfl)
  (Zf (Zj1 (pv 0) Zh rfl))),?_⟩
 refine⟨_,rfl,_,rfl,a,C,dx,[],rfl,ha,c.cls,c.nt,by decide,?_⟩;refine⟨_,rfl,a,C,dx,_,rfl,Zb,c.cls,c.na,(show 1<1000 by decide),?_⟩;exact q _ (Za6.up.trans Za6.up) Zb
theorem Zd5(B:∀x∈Zbv,mg x=none)(c:SrC K C)(F:Fun K "sees" "Source.sees" ZaN f fd):FnOk P w K mg base CX0 1 f fd ["self","piece"] (ZgR C):=by
 refine F.ok Zd8 (fun vs H Q E h=>?_) (fun cdv A outer s H vs Q E hr h=>?_)
 ·obtain⟨a,dx,T,n,p,rfl,_⟩:=h;rfl
 obtain⟨a,dx,T,n,p,rfl,ha,hn,q⟩:=h;refine⟨_,(Zf (Zr (Zb0 PySem.F.plainAttrs_str PySem.F.slot_str_startswith PySem.F.type_str_startswith ZiS (ZcS (pv 0) rfl) (Za (pv 1) (Za (ZcS (pv 0) rfl) Zd))))),?_⟩;refine⟨_,rfl,a,C,dx,_,_,rfl,ha,c.cls,c.nt,rfl,rfl,_,rfl,_,rfl,a,C,dx,_,_,rfl,ha,c.cls,c.na,rfl,T,p,n,rfl,rfl,hn,q⟩
theorem ZdP(B:∀x∈Zbv,mg x=none)(c_Source:SrC K C)(g_Source_sees:HasM P w K mg base C "sees" ["self","piece"] 1 (ZgR C)) (F:Fun K "skips" "Source.skips" ZaE f fd):FnOk P w K mg base CX0 2 f fd ["self","piece"] (ZbP C):=by
 refine F.ok ZdO (fun vs H Q E h=>?_) (fun cdv A outer s H vs Q E hr h=>?_)
 ·obtain⟨a,dx,T,n,p,rfl,_⟩:=h;rfl
 obtain⟨a,dx,T,n,p,rfl,ha,hn,hp,q1,q2⟩:=h;have c:=c_Source;refine⟨_,(Zc (Z2 (Zbu (Z1 (Zah g_Source_sees hr (pv 0) c_Source.cls (Za (pv 1) Zd)) (fun _=>rfl)))
   (Zf (Zr Zcr))
   Zq)
  (Zc (Zfp (pv 0) (Zu Za0 rfl (B "len" (by decide)) PySem.boot_len (Za (pv 1) Zd)) Zkb)
  (Zf (Zr Zcr)))),?_⟩
 refine⟨_,rfl,a,dx,_,rfl,ha,rfl,_,rfl,a,dx,T,n,p,rfl,ha,hn,_,rfl,?_⟩;by_cases e:cs p <+: rsT T n
 ·rw[decide_eq_true e];refine ZbD ?_;refine⟨_,rfl,a,C,dx,_,_,rfl,ha,c.cls,c.na,rfl,_,rfl,p,rfl,Zx (by lia),_,_,rfl,rfl,dx,_,ha,(show 2<1000 by decide),?_⟩;exact q2 e _ Za6.up Zb
 ·rw[decide_eq_false e];exact Zcz (q1 e)
theorem ZcA(B:∀x∈Zbv,mg x=none)(c_Source:SrC K C)(g_Source_skips:HasM P w K mg base C "skips" ["self","piece"] 2 (ZbP C)) (F:Fun K "must_skip" "Source.must_skip" Zaa f fd):FnOk P w K mg base CX0 3 f fd ["self","piece"] (Ze4 C):=by
 refine F.ok Zcy (fun vs H Q E h=>?_) (fun cdv A outer s H vs Q E hr h=>?_)
 ·obtain⟨a,dx,T,n,p,rfl,_⟩:=h;rfl
 obtain⟨a,dx,T,n,p,rfl,ha,hn,hp,he,q⟩:=h;refine⟨_,(Zf (Z2 (Zbu (Z1 (Zah g_Source_skips hr (pv 0) c_Source.cls (Za (pv 1) Zd)) (fun _=>rfl)))
   (Zf Zbs)
   Zq)),?_⟩
 refine⟨_,rfl,a,dx,_,rfl,ha,rfl,_,rfl,a,dx,T,n,p,rfl,ha,hn,hp,fun z=>absurd he z,fun _ H' b h'=>⟨_,rfl,ZbD ?_⟩⟩;exact q H' b h'
theorem Zdo(B:∀x∈Zbv,mg x=none)(c:SrC K C)(F:Fun K "at_end" "Source.at_end" Zaw f fd):FnOk P w K mg base CX0 1 f fd ["self"] (ZgZ C):=by
 refine F.ok Zdr (fun vs H Q E h=>?_) (fun cdv A outer s H vs Q E hr h=>?_)
 ·obtain⟨a,dx,T,n,rfl,_⟩:=h;rfl
 obtain⟨a,dx,T,n,rfl,ha,hT,q⟩:=h;refine⟨_,(Zf (Zr (Zcx ZaM (ZcS (pv 0) rfl) (Zu Za0 rfl (B "len" (by decide)) PySem.boot_len (Za (ZcS (pv 0) rfl) Zd)) (ZG _)))),?_⟩;refine⟨_,rfl,a,C,dx,_,_,rfl,ha,c.cls,c.na,rfl,_,rfl,a,C,dx,_,_,rfl,ha,c.cls,c.nt,rfl,T,rfl,Zx (by lia),rfl,?_⟩;have e:decide (V.int (n:Int)=V.int ((T.length:Nat):Int))=decide (n=T.length):=by
  by_cases h:n=T.length
  ·rw[h,decide_eq_true rfl,decide_eq_true rfl]
  ·rw[decide_eq_false h];exact decide_eq_false fun z=>h (by injection z with z;lia)
 show Q (.bl (decide (V.int (n:Int)=V.int ((T.length:Nat):Int)))) H;rw[e];exact q
theorem Zkw{P:Nat->Bool}:∀{l:List Nat}{i:Nat},(∀c∈l.take i,P c=true)->(∀c,l[i]?= some c->P c=false)->l.takeWhile P=l.take i
 | [],i,_,_=>by simp
 | x::l,0,_,h=>by
  rw[List.takeWhile_cons,h x rfl];rfl
 | x::l,i+1,h1,h2=>by
  have hx:P x=true:=h1 x (List.mem_cons_self ..);rw[List.takeWhile_cons,if_pos hx,Zkw (i:=i) (fun c hc=>h1 c (List.mem_cons_of_mem _ hc)) (fun c hc=>h2 c hc)];rfl
def ZcW(C:Addr):Sp:=fun vs H Q _=>∃(a dx:Addr)(T:Str)(n:Nat)(lo hi:Nat),vs=[.ref a,.str ⟨#[lo]⟩,.str ⟨#[hi]⟩]/\ZbX C H a dx T n/\n<=T.length/\T.length<=90000 /\
 ∀(z:Str)(H':Hp),cs z=(rsT T n).takeWhile (fun c=>decide (lo<=c)&&decide (c<=hi))->Za6 a H H'->ZbX C H' a dx T (n+z.length)->Q (.str z) H'
set_option maxHeartbeats 1000000 in
theorem Zb1(B:∀x∈Zbv,mg x=none)(c_Source:SrC K C)(g_Source_at_end:HasM P w K mg base C "at_end" ["self"] 1 (ZgZ C)) (F:Fun K "take_letters" "Source.take_letters" Z0 f fd):FnOk P w K mg base CX0 2 f fd ["self","first","last"] (ZcW C):=by
 refine F.ok Za8 (fun vs H Q E h=>?_) (fun cdv A outer s H vs Q E hr h=>?_)
 ·obtain⟨a,dx,T,n,lo,hi,rfl,_⟩:=h;rfl
 obtain⟨a,dx,T,n,lo,hi,rfl,ha,hn,hT,q⟩:=h;have c:=c_Source;have hl:(cs T).length=T.length:=Array.length_toList;refine⟨_,(Zc (Zt (i:=3) Za8.nd rfl (Or.inl rfl) (ZcS (pv 0) rfl))
  (Zc (Zcl PassesOwn.never (PW.pt (ZgW (Zbu (Z1 (Zdv g_Source_at_end hr (pv 0) c_Source.cls) (fun _=>rfl))) (ZeB (ZgP Zfz Zfz (pv 1) (ZP ZgN (ZcS (pv 0) rfl) (ZcS (pv 0) rfl) (fun _ _=>rfl)) (pv 2)))))
   (Zf (Zfp (pv 0) Zh Zkb)))
  (Zf (Zr (ZbL Zia (ZcS (pv 0) rfl) (Zcc (pv 3)) (Zcc (ZcS (pv 0) rfl))))))),?_⟩
 refine⟨_,rfl,a,C,dx,_,_,rfl,ha,c.cls,c.na,rfl,?_⟩;have done:∀(i:Nat)(H1:Hp),Za6 a H H1->ZbX C H1 a dx T (n+i)->n+i<=T.length->(∀d∈(rsT T n).take i,(decide (lo<=d)&&decide (d<=hi))=true)->(∀d,(rsT T n)[i]?= some d->(decide (lo<=d)&&decide (d<=hi))=false) ->
   ZkZ (tSl (fun x lo hi H Q=>∃z,x=V.str z/\z.length<=sizeLine/\Q (V.str (StrLaws.sliceText z lo hi)) H) (ZlR K (Zhg 0) "text") (ZkK (Zhg 3)) (ZkK (ZlR K (Zhg 0) "at"))) { nx:=fun _ H'=>Q .non H',rt:=Q } [some (.ref a),some (.str ⟨#[lo]⟩),some (.str ⟨#[hi]⟩),some (.int (n:Int))] H1:=fun i H1 b1 h1 hle hp hq=>by
  refine⟨_,rfl,a,C,dx,_,_,rfl,h1,c.cls,c.nt,rfl,_,rfl,_,rfl,_,rfl,a,C,dx,_,_,rfl,h1,c.cls,c.na,rfl,((n+i:Nat):Int),rfl,T,rfl,Zx (by lia),?_⟩;have e:StrLaws.sliceText T (some (n:Int)) (some ((n+i:Nat):Int))=⟨((rsT T n).take i).toArray⟩:=by
   rw[StrLaws.sliceText_nat T (by lia) hle,Nat.add_sub_cancel_left];rfl
  rw[e];have ez:cs (⟨((rsT T n).take i).toArray⟩:Str)=(rsT T n).take i:=by unfold cs;exact List.toList_toArray
  have lz:(⟨((rsT T n).take i).toArray⟩:Str).length=i:=by
   have:(cs (⟨((rsT T n).take i).toArray⟩:Str)).length=(⟨((rsT T n).take i).toArray⟩:Str).length:=Array.length_toList;rw[<- this,ez,List.length_take];unfold rsT;rw[List.length_drop,hl];lia
  exact q _ H1 (ez.trans (Zkw hp hq).symm) b1 (by rw[lz];exact h1)
 refine⟨fun m σ H1=>∃i:Nat,m=T.length-(n+i) /\ σ =[some (.ref a),some (.str ⟨#[lo]⟩),some (.str ⟨#[hi]⟩),some (.int (n:Int))]/\Za6 a H H1/\ZbX C H1 a dx T (n+i)/\n+i<=T.length/\∀d∈(rsT T n).take i,(decide (lo<=d)&&decide (d<=hi))=true,⟨_,0,rfl,rfl,Za6.refl,ha,hn,fun _ h=>nomatch h⟩,?_⟩
 rintro m σ H1 ⟨i,rfl,rfl,b1,h1,hle,hp⟩;refine⟨_,rfl,a,dx,_,rfl,h1,rfl,a,dx,T,n+i,rfl,h1,hT,_,rfl,?_⟩;by_cases e:n+i=T.length
 ·rw[decide_eq_true e];refine ZbD (ZbD ?_);refine done i H1 b1 h1 hle hp fun d hd=>?_;have:=(List.getElem?_eq_some_iff.mp hd).1;unfold rsT at this;rw[List.length_drop,hl] at this;lia
 ·rw[decide_eq_false e];have hlt:n+i<(cs T).length:=by lia
  have hc0:(cs T)[n+i]?= some (cs T)[n+i]:=List.getElem?_eq_getElem hlt;obtain⟨d,hd⟩:∃d,(cs T)[n+i]=d:=⟨_,rfl⟩;rw[hd] at hc0;have hd0:(rsT T n)[i]?= some d:=by unfold rsT;rw[List.getElem?_drop];exact hc0
  refine Zcz ?_;refine⟨_,rfl,_,rfl,a,C,dx,_,_,rfl,h1,c.cls,c.nt,rfl,_,rfl,a,C,dx,_,_,rfl,h1,c.cls,c.na,rfl,T,((n+i:Nat):Int),d,rfl,rfl,Zx (by lia),Zbc hc0,_,_,rfl,rfl,_,rfl,?_⟩;have e1:=ZjX lo d;have e2:=ZjX d hi;show if(!decide (([d]:List Nat) < [lo]))=true then _ else _
  rw[e1];by_cases l1:lo<=d
  ·rw[decide_eq_true l1];refine Zcz ⟨_,rfl,_,_,rfl,rfl,_,rfl,?_⟩;show if(!decide (([hi]:List Nat) < [d]))=true then _ else _
   rw[e2];by_cases l2:d<=hi
   ·rw[decide_eq_true l2];refine Zcz ⟨fun σ' H'=>∃m',m'<T.length-(n+i)/\∃i:Nat,m'=T.length-(n+i) /\ σ'=[some (.ref a),some (.str ⟨#[lo]⟩),some (.str ⟨#[hi]⟩),some (.int (n:Int))]/\Za6 a H H'/\ZbX C H' a dx T (n+i)/\n+i<=T.length/\∀d∈(rsT T n).take i,(decide (lo<=d)&&decide (d<=hi))=true,fun _ _ h=>h,?_⟩;refine⟨_,rfl,a,C,dx,_,_,rfl,h1,c.cls,c.na,rfl,_,_,rfl,rfl,dx,_,h1,(show 2<1000 by decide),?_⟩;refine⟨_,by show T.length-(n+(i+1))<_;lia,i+1,rfl,rfl,b1.trans Za6.up,Zb,by lia,fun x hx=>?_⟩;rw[Zg6 hd0] at hx;rcases List.mem_append.mp hx with hx|hx
    ·exact hp x hx
    ·rw[List.mem_singleton.mp hx,decide_eq_true l1,decide_eq_true l2];rfl
   ·rw[decide_eq_false l2];refine ZbD (done i H1 b1 h1 hle hp fun x hx=>?_);rw[hd0] at hx;injection hx with hx;rw[<- hx,decide_eq_false l2,Bool.and_false]
  ·rw[decide_eq_false l1];refine ZbD ⟨_,rfl,ZbD (done i H1 b1 h1 hle hp fun x hx=>?_)⟩;rw[hd0] at hx;injection hx with hx;rw[<- hx,decide_eq_false l1,Bool.false_and]
theorem Zj4{P:Nat->Bool}{l r:List Nat}(h1:∀c∈l,P c=true)(h2:∀c r',r=c::r'->P c=false):(l++r).takeWhile P=l:=by
 have e:(l++r).take l.length=l:=by simp
 refine(Zkw (i:=l.length) (fun c hc=>h1 c (by rw[e] at hc;exact hc)) fun c hc=>?_).trans e;rw[List.getElem?_append_right (Nat.le_refl _),Nat.sub_self] at hc;cases r with
 | nil=>cases hc
 | cons x r' =>
  injection hc with hc;rw[<- hc];exact h2 x r' rfl
def ZeX(C:Addr):Sp:=fun vs H Q _=>∃(a dx:Addr)(T:Str)(n:Nat)(m:Str)(r:List Nat),vs=[.ref a]/\ZbX C H a dx T n/\n<=T.length/\T.length<=90000/\rsT T n=cs m++r/\Upr m/\m.length<=8/\(∀c r',r=c::r' -> ¬ (65<=c/\c<=90)) /\
 ∀H',Za6 a H H'->ZbX C H' a dx T (n+m.length)->Q (.str m) H'
theorem ZcF(B:∀x∈Zbv,mg x=none)(Cc1:∃t:Tok,mg "LONGEST_NAME" = some (.int 8 t)) (c_Source:SrC K C) (g_Source_take_letters:HasM P w K mg base C "take_letters" ["self","first","last"] 2 (ZcW C)) (F:Fun K "take_name" "Source.take_name" Zad f fd):FnOk P w K mg base CX0 3 f fd ["self"] (ZeX C):=by
 refine F.ok Zbn (fun vs H Q E h=>?_) (fun cdv A outer s H vs Q E hr h=>?_)
 ·obtain⟨a,dx,T,n,m,r,rfl,_⟩:=h;rfl
 obtain⟨a,dx,T,n,m,r,rfl,ha,hn,hT,er,hu,hm8,hr',q⟩:=h;obtain⟨t1,c_LONGEST_NAME⟩:=Cc1;have hml:(cs m).length=m.length:=Array.length_toList;have hm1:1<=m.length:=by
  rw[<- hml];exact List.length_pos_iff.mpr hu.1
 refine⟨_,(Zc (Zt (i:=1) Zbn.nd rfl (Or.inl rfl) (Zah g_Source_take_letters hr (pv 0) c_Source.cls (Za Zj (Za Zj Zd))))
  (Zc (Z2 (Zbu (ZgP ZjA ZjA Zh (Zu Za0 rfl (B "len" (by decide)) PySem.boot_len (Za (pv 1) Zd)) (Z9 (v:=.int 8) rfl c_LONGEST_NAME ⟨_,rfl⟩)))
   (Zf Zbs)
   Zq)
  (Zf (Zr (pv 1))))),?_⟩
 refine⟨_,rfl,a,dx,_,rfl,ha,rfl,a,dx,T,n,65,90,rfl,ha,hn,hT,fun z H' ez b1 h1=>?_⟩;have ez:z=m:=by
  apply ZhO;rw[ez,er];refine Zj4 (fun c hc=>?_) fun c r' e=>?_
  ·have:=hu.2 c hc;rw[decide_eq_true this.1,decide_eq_true this.2];rfl
  ·have:=hr' c r' e;by_cases l1:65<=c
   ·rw[decide_eq_false (fun l2:c<=90=>this ⟨l1,l2⟩),Bool.and_false]
   ·rw[decide_eq_false l1,Bool.false_and]
 subst ez;refine⟨_,rfl,z,rfl,Zx (by lia),_,_,rfl,rfl,_,rfl,Zaz (fun _=>?_) (fun c=>absurd (decide_eq_true (by lia)) c)⟩;refine⟨_,_,rfl,rfl,_,rfl,?_⟩;have e8:decide (((z.length:Nat):Int)<=8)=true:=decide_eq_true (by lia);show if(!(decide (((z.length:Nat):Int)<=8)))=true then _ else _
 rw[e8];exact ZbD ⟨_,rfl,q H' b1 h1⟩
mutual
inductive RepK(K:PySem.W.Frag)(H:Hp):Addr->Ex->Prop
 | nil {p:Addr}:SqT K H p [.str "nil"]->RepK K H p .nil
 | tag {p q:Addr} {t:Str} {i:Ex}:SqT K H p [.str "tag",.str t,.ref q]->RepK K H q i->RepK K H p (.tag t i)
 | name {p:Addr} {n:Str}:SqT K H p [.str "name",.str n]->RepK K H p (.name n)
 | several {p q:Addr} {b:Bool} {vs:List V} {ps:Exs}:SqT K H p [.str (ZdE b),.ref q]->SqT K H q vs->RepKs K H vs ps->RepK K H p (.several b ps)
 | rep {p q:Addr} {m:Nat} {e:Ex}:SqT K H p [.str (Za5 m),.ref q]->RepK K H q e->RepK K H p (.rep m e)
inductive RepKs(K:PySem.W.Frag)(H:Hp):List V->Exs->Prop
 | nil:RepKs K H [] .nil
 | cons {p:Addr} {e:Ex} {vs:List V} {r:Exs}:RepK K H p e->RepKs K H vs r->RepKs K H (.ref p::vs) (.cons e r)
end
def TF(K:PySem.W.Frag)(H H':Hp):Prop := ∀p xs,SqT K H p xs->SqT K H' p xs
mutual
theorem RepK.mono{K:PySem.W.Frag}{H H':Hp}(k:TF K H H'):∀{p:Addr}{e:Ex},RepK K H p e->RepK K H' p e
 | _,_,.nil h=>.nil (k _ _ h)
 | _,_,.tag h r=>.tag (k _ _ h) (RepK.mono k r)
 | _,_,.name h=>.name (k _ _ h)
 | _,_,.several h1 h2 r=>.several (k _ _ h1) (k _ _ h2) (RepKs.mono k r)
 | _,_,.rep h r=>.rep (k _ _ h) (RepK.mono k r)
theorem RepKs.mono{K:PySem.W.Frag}{H H':Hp}(k:TF K H H'):∀{vs:List V}{ps:Exs},RepKs K H vs ps->RepKs K H' vs ps
 | _,_,.nil=>.nil
 | _,_,.cons h r=>.cons (RepK.mono k h) (RepKs.mono k r)
end
theorem TF.refl{K:PySem.W.Frag}{H:Hp}:TF K H H:=fun _ _ h=>h
theorem TF.trans{K:PySem.W.Frag}{H H1 H2:Hp}(x:TF K H H1)(y:TF K H1 H2):TF K H H2:=fun p xs h=>y p xs (x p xs h)
theorem TF.bar{K:PySem.W.Frag}{H H':Hp}{a C dx:Addr}{fs:List (Str×V)}(b:Za6 a H H')(ha:H a=some (.ins C dx fs)):TF K H H':=fun p xs h=>by
 rcases h with(h|⟨o,h⟩)|h
 ·refine .inl (.inl (b p _ (fun e=>?_) h));rw[e,ha] at h;cases h
 ·refine .inl (.inr ⟨o,b p _ (fun e=>?_) h⟩);rw[e,ha] at h;cases h
 ·exact .inr h
theorem TF.same{K:PySem.W.Frag}{H H':Hp}(s:Zk H H'):TF K H H':=fun p xs h=>by
 rcases h with(h|⟨o,h⟩)|h
 ·exact .inl (.inl (s _ _ h))
 ·exact .inl (.inr ⟨o,s _ _ h⟩)
 ·exact .inr h
def Zgx(K:PySem.W.Frag)(C:Addr)(L:Nat)(l:List Str)(ok:List Nat->Prop):Sp:=fun vs H Q _=>∃(a dx:Addr)(T:Str)(n:Nat)(e:Ex)(r:List Nat),vs=[.ref a,.int (L:Int)]/\ZbX C H a dx T n/\n<=T.length/\T.length<=400/\rsT T n=tL l e++r/\wfE e/\dp e+(if l.contains (kw e)=true then 1 else 0)<L/\ok r /\
 ∀(p:Addr)(H':Hp),Za6 a H H'->ZbX C H' a dx T (n+(tL l e).length)->RepK K H' p e->Q (.ref p) H'
def ZdH(K:PySem.W.Frag)(C:Addr)(L:Nat):Sp:=Zgx K C L [] fE
def ZfN(K:PySem.W.Frag)(C:Addr)(L:Nat):Sp:=Zgx K C L ["or"] fT
def Zgf(K:PySem.W.Frag)(C:Addr)(L:Nat):Sp:=Zgx K C L ["turn","or"] fM
def ZfW(K:PySem.W.Frag)(C:Addr)(L:Nat):Sp:=Zgx K C L five fS
def inL(i:Ex):List Nat:=if ZbF i=true then [] else 40::(cs (tx i) ++ [41])
def ZhV(K:PySem.W.Frag)(C:Addr)(L:Nat):Sp:=fun vs H Q _=>∃(a dx:Addr)(T:Str)(n:Nat)(i:Ex)(r:List Nat),vs=[.ref a,.int (L:Int)]/\ZbX C H a dx T n/\n<=T.length/\T.length<=400/\rsT T n=inL i++r/\wfE i/\dp i+1<L/\fS r /\
 ∀(p:Addr)(H':Hp),Za6 a H H'->ZbX C H' a dx T (n+(inL i).length)->RepK K H' p i->Q (.ref p) H'
theorem Zav{T:Str}{n:Nat}{x r:List Nat}(h:rsT T n=x++r)(hn:n<=T.length):rsT T (n+x.length)=r/\n+x.length<=T.length:=by
 have hl:(cs T).length=T.length:=Array.length_toList;unfold rsT at h ⊢;have:=congrArg List.length h;rw[List.length_drop,List.length_append,hl] at this;refine⟨?_,by lia⟩;rw[<- List.drop_drop,h,List.drop_left]
variable{A_NIL:Addr}
set_option maxHeartbeats 1000000 in
theorem Zcs(L:Nat)(B:∀x∈Zbv,mg x=none)(c_NIL:mg "NIL" = some (.ref A_NIL)) (nilT:∀H,SqT K H A_NIL [.str "nil"]) (c_Source:SrC K C) (g_Source_skips:HasM P w K mg base C "skips" ["self","piece"] 2 (ZbP C)) (g_Source_take_expr:HasM P w K mg base C "take_expr" ["self","levels"] (5*L+4) (ZdH K C L)) (g_Source_must_skip:HasM P w K mg base C "must_skip" ["self","piece"] 3 (Ze4 C)) (F:Fun K "take_inner" "Source.take_inner" Z8 f fd):FnOk P w K mg base CX0 (5*L+5) f fd ["self","levels"] (ZhV K C (L+1)):=by
 refine F.ok Zbe (fun vs H Q E h=>?_) (fun cdv A outer s H vs Q E hr h=>?_)
 ·obtain⟨a,dx,T,n,i,r,rfl,_⟩:=h;rfl
 obtain⟨a,dx,T,n,i,r,rfl,ha,hn,hT,er,hw,hd,hf,q⟩:=h;refine⟨_,(Zc (Z2 (Zbu (Z1 (Zah g_Source_skips hr (pv 0) c_Source.cls (Za Zj Zd) (by lia)) (fun _=>rfl)))
   (Zf (Zr (Z9 (v:=.ref A_NIL) rfl c_NIL rfl)))
   Zq)
  (Zc (Zt (i:=2) Zbe.nd rfl (Or.inl rfl) (Zah g_Source_take_expr hr (pv 0) c_Source.cls (Za (ZK Zb6 (pv 1) Zh) Zd) (by lia)))
  (Zc (ZaH (Zah g_Source_must_skip hr (pv 0) c_Source.cls (Za Zj Zd) (by lia)))
  (Zf (Zr (pv 2)))))),?_⟩
 refine⟨_,rfl,a,dx,_,rfl,ha,rfl,a,dx,T,n,"(",rfl,ha,hn,(by decide),fun z=>?_,fun z H1 b1 h1=>?_⟩
 ·refine⟨_,rfl,Zcz ?_⟩;have hi:ZbF i=true:=by
   cases hc:ZbF i with
   | true=>rfl
   | false =>
    refine absurd ⟨cs (tx i) ++ [41]++r,?_⟩ z;rw[er];unfold inL;rw[hc,if_neg Bool.false_ne_true];simp[cs];rfl
  cases i with
  | nil=>exact q A_NIL H Za6.refl ha (.nil (nilT H))
  | _=>cases hi
 ·refine⟨_,rfl,ZbD ?_⟩;have hi:ZbF i=false:=by
   cases hc:ZbF i with
   | false=>rfl
   | true =>
    exfalso;unfold inL at er;rw[hc,if_pos rfl,List.nil_append] at er;obtain⟨y,z⟩:=z;rw[er] at z;exact(Zf5 hf (c:=40) (r':=y) z.symm).2.2 rfl
  have ei:inL i=40::(cs (tx i) ++ [41]):=by unfold inL;rw[hi,if_neg Bool.false_ne_true]
  have e1:rsT T n=[40]++(tL [] i++(41::r)):=by
   rw[er,ei];show _=[40]++(cs (tx i)++(41::r));simp
  obtain⟨e2,n2⟩:=Zav e1 hn;have h1:ZbX C H1 a dx T (n+1):=h1;refine⟨_,rfl,a,dx,_,rfl,h1,rfl,_,rfl,_,_,rfl,rfl,a,dx,T,n+1,i,41::r,?_,h1,n2,hT,e2,hw,?_,.inr ⟨41,r,rfl,by lia⟩,fun p H2 b2 h2 rp=>?_⟩
  ·show [V.ref a,V.int (((L+1:Nat):Int)-1)]=_;rw[show(((L+1:Nat):Int)-1)=(L:Int) by lia]
  ·show dp i+0<L;lia
  obtain⟨e3,n3⟩:=Zav e2 n2;refine⟨_,rfl,a,dx,_,rfl,h2,rfl,a,dx,T,_,")",rfl,h2,n3,(by decide),⟨r,e3.symm⟩,fun H3 b3 h3=>?_⟩;refine⟨_,rfl,q p H3 ((b1.trans b2).trans b3) ?_ (rp.mono (TF.bar b3 h2))⟩;have:n+(inL i).length=n+1+(tL [] i).length+(Str.ofString ")").length:=by
   rw[ei,List.length_cons,List.length_append];show n+((cs (tx i)).length+1+1)=n+1+(cs (tx i)).length+1;lia
  rw[this];exact h3
theorem Zkc{t:Str}{i:Ex}:cs (tx (.tag t i))=cs t++inL i:=by
 rw[tx];unfold inL
 split
 ·rw[List.append_nil]
 ·rw[ZaI,ZaI,ZaI];show cs t ++ [40]++cs (tx i) ++ [41]=_;simp
set_option maxHeartbeats 2000000 in
theorem Zb7(L:Nat)(B:∀x∈Zbv,mg x=none)(c_NIL:mg "NIL" = some (.ref A_NIL)) (nilT:∀H,SqT K H A_NIL [.str "nil"]) (c_Source:SrC K C) (g_Source_skips:HasM P w K mg base C "skips" ["self","piece"] 2 (ZbP C)) (g_Source_take_expr:HasM P w K mg base C "take_expr" ["self","levels"] (5*L+4) (ZdH K C L)) (g_Source_must_skip:HasM P w K mg base C "must_skip" ["self","piece"] 3 (Ze4 C)) (g_Source_take_letters:HasM P w K mg base C "take_letters" ["self","first","last"] 2 (ZcW C)) (g_Source_take_name:HasM P w K mg base C "take_name" ["self"] 3 (ZeX C)) (g_is_tag:Has P w K mg base "is_tag" ["text"] 1 Zgl) (g_Source_take_inner:HasM P w K mg base C "take_inner" ["self","levels"] (5*L+5) (ZhV K C (L+1))) (F:Fun K "take_single" "Source.take_single" Z5 f fd):FnOk P w K mg base CX0 (5*L+6) f fd ["self","levels"] (ZfW K C (L+1)):=by
 refine F.ok ZaL (fun vs H Q E h=>?_) (fun cdv A outer s H vs Q E hr h=>?_)
 ·obtain⟨a,dx,T,n,i,r,rfl,_⟩:=h;rfl
 obtain⟨a,dx,T,n,e,r,rfl,ha,hn,hT,er,hw,hd,hf,q⟩:=h;refine⟨_,(Zc (Z2 (Z1 (Zah g_Source_skips hr (pv 0) c_Source.cls (Za Zj Zd) (by lia)) (fun _=>rfl))
   (Zf (Zr (Z9 (v:=.ref A_NIL) rfl c_NIL rfl)))
   Zq)
  (Zc (Z2 (Z1 (Zah g_Source_skips hr (pv 0) c_Source.cls (Za Zj Zd) (by lia)) (fun _=>rfl))
   (Zc (Zt (i:=2) ZaL.nd rfl (Or.inl rfl) (Zah g_Source_take_expr hr (pv 0) c_Source.cls (Za (ZK Zb6 (pv 1) Zh) Zd) (by lia)))
    (Zc (ZaH (Zah g_Source_must_skip hr (pv 0) c_Source.cls (Za Zj Zd) (by lia)))
    (Zf (Zr (pv 2)))))
   Zq)
  (Zc (Zt (i:=3) ZaL.nd rfl (Or.inl rfl) (Zah g_Source_take_letters hr (pv 0) c_Source.cls (Za Zj (Za Zj Zd)) (by lia)))
  (Zc (Z2 (Zo ZaM (pv 3) Zj (ZG _))
   (Zf (Zr (ZM (Za Zj (Za (Zdv g_Source_take_name hr (pv 0) c_Source.cls (by lia)) Zd)))))
   Zq)
  (Zc (Z2 (Zbu (Z1 (ZQ g_is_tag hr rfl (Za (pv 3) Zd) (by lia)) (fun _=>rfl)))
   (Zf Zbs)
   Zq)
  (Zf (Zr (ZM (Za Zj (Za (pv 3) (Za (Zah g_Source_take_inner hr (pv 0) c_Source.cls (Za (pv 1) Zd) (by lia)) Zd))))))))))),?_⟩
 refine⟨_,rfl,a,dx,_,rfl,ha,rfl,a,dx,T,n,"{}",rfl,ha,hn,(by decide),fun z=>?_,fun z H1 b1 h1=>?_⟩;rotate_left
 ·have hi:ZbF e=true:=(Zg2 (r:=r) hw).mp (by rw[<- er];exact z);refine⟨_,rfl,Zcz ?_⟩;cases e with
  | nil=>exact q A_NIL H1 b1 h1 (.nil (nilT H1))
  | _=>cases hi
 have hi:ZbF e=false:=by
  cases hc:ZbF e with
  | false=>rfl
  | true=>exact absurd (by rw[er];exact(Zg2 (r:=r) hw).mpr hc) z
 refine⟨_,rfl,ZbD ?_⟩;refine⟨_,rfl,a,dx,_,rfl,ha,rfl,a,dx,T,n,"{",rfl,ha,hn,(by decide),fun z2=>?_,fun z2 H1 b1 h1=>?_⟩;rotate_left
 ·have hb:five.contains (kw e)=true:=(ZgF (r:=r) hw hi).mp (by rw[<- er];exact z2);refine⟨_,rfl,Zcz ?_⟩;have e1:rsT T n=[123]++(tL [] e++(125::r)):=by
   rw[er,Zis hb];show _=[123]++(cs (tx e)++(125::r));simp
  obtain⟨e2,n2⟩:=Zav e1 hn;have h1:ZbX C H1 a dx T (n+1):=h1;rw[if_pos hb] at hd;refine⟨_,rfl,a,dx,_,rfl,h1,rfl,_,rfl,_,_,rfl,rfl,a,dx,T,n+1,e,125::r,?_,h1,n2,hT,e2,hw,?_,.inr ⟨125,r,rfl,by lia⟩,fun p H2 b2 h2 rp=>?_⟩
  ·show [V.ref a,V.int (((L+1:Nat):Int)-1)]=_;rw[show(((L+1:Nat):Int)-1)=(L:Int) by lia]
  ·show dp e+0<L;lia
  obtain⟨e3,n3⟩:=Zav e2 n2;refine⟨_,rfl,a,dx,_,rfl,h2,rfl,a,dx,T,_,"}",rfl,h2,n3,(by decide),⟨r,e3.symm⟩,fun H3 b3 h3=>?_⟩;refine⟨_,rfl,q p H3 ((b1.trans b2).trans b3) ?_ (rp.mono (TF.bar b3 h2))⟩;have:n+(tL five e).length=n+1+(tL [] e).length+(Str.ofString "}").length:=by
   rw[Zis hb,List.length_cons,List.length_append];show n+((cs (tx e)).length+1+1)=n+1+(cs (tx e)).length+1;lia
  rw[this];exact h3
 have hb:five.contains (kw e)=false:=by
  cases hc:five.contains (kw e) with
  | false=>rfl
  | true=>exact absurd (by rw[er];exact(ZgF (r:=r) hw hi).mpr hc) z2
 refine⟨_,rfl,ZbD ?_⟩;rw[ZdI hb] at er q;refine⟨_,rfl,a,dx,_,rfl,ha,rfl,a,dx,T,n,97,122,rfl,ha,hn,(by lia),fun t0 H1 et b1 h1=>?_⟩;cases e with
 | nil=>cases hi
 | several b ps =>
  have hb:five.contains (ZdE b)=false:=hb;cases b <;> exact absurd hb (by decide)
 | rep m p =>
  exfalso
  revert hb
  show ¬ five.contains (Za5 m)=false;unfold Za5
  split
  ·decide
  ·split <;> decide
 | name m =>
  obtain⟨hu,h8⟩:=hw;have er:rsT T n=cs m++r:=er;obtain⟨c,y,ec⟩:=List.exists_cons_of_ne_nil hu.1;have hc:65<=c/\c<=90:=hu.2 c (by rw[ec];exact List.mem_cons_self ..);have e0:t0= "" := by
   apply ZhO;rw[et,er,ec,List.cons_append,List.takeWhile_cons,decide_eq_false (by lia : ¬ 97<=c)];rfl
  subst e0;have h1:ZbX C H1 a dx T n:=h1;refine⟨_,rfl,rfl,_,rfl,Zaz (fun _=>?_) (fun z=>absurd (decide_eq_true rfl) z)⟩;refine⟨_,rfl,a,dx,_,rfl,h1,rfl,a,dx,T,n,m,r,rfl,h1,hn,(by lia),er,hu,h8,fun c r' e=>(Zf5 hf e).2.1,fun H2 b2 h2=>?_⟩;refine⟨(by show(2:Nat)<=sizeLine;decide),fun p hp=>?_⟩;have s3:=Zk.new (o:=.tup [.str "name",.str m]) hp;have hml:(cs m).length=m.length:=Array.length_toList;refine q p _ ((b1.trans b2).trans (Za6.same s3)) ?_ (.name (SqT.of Zb));show ZbX C _ a dx T (n+(cs m).length);rw[hml];exact s3 _ _ h2
 | tag t i =>
  obtain⟨⟨hl,h8⟩,hwi⟩:=hw;rw[hb,if_neg Bool.false_ne_true] at hd;have hd:dp i+1+0<L+1:=hd;rw[Zkc,List.append_assoc] at er;have hml:(cs t).length=t.length:=Array.length_toList;have hne:cs t ≠ []:=hl.1;have e0:t0=t:=by
   apply ZhO;rw[et,er];refine Zj4 (fun c hc=>?_) fun c r' e=>?_
   ·have:=hl.2 c hc;rw[decide_eq_true this.1,decide_eq_true this.2];rfl
   ·have hn' : ¬ (97<=c/\c<=122):=by
     unfold inL at e
     split at e
     ·exact(Zf5 hf e).1
     ·injection e with e _;lia
    by_cases l1:97<=c
    ·rw[decide_eq_false (fun l2:c<=122=>hn' ⟨l1,l2⟩),Bool.and_false]
    ·rw[decide_eq_false l1,Bool.false_and]
  subst e0;obtain⟨e2,n2⟩:=Zav er hn;rw[hml] at e2 n2;refine⟨_,rfl,rfl,_,rfl,Zaz (fun z=>?_) (fun _=>?_)⟩
  ·exfalso;have z:V.str t0=V.str "" := of_decide_eq_true z;injection z with z;rw[z] at hne;exact hne rfl
  refine⟨_,rfl,t0,rfl,by lia,fun H2 s2=>⟨_,rfl,?_⟩⟩;rw[Zhq hl h8];refine ZbD ?_;have h2:ZbX C H2 a dx T (n+t0.length):=s2 _ _ h1;refine⟨_,rfl,_,rfl,a,dx,_,rfl,h2,rfl,_,rfl,a,dx,T,n+t0.length,i,r,rfl,h2,n2,hT,e2,hwi,by lia,hf,fun p H3 b3 h3 rp=>?_⟩;refine⟨(by show(3:Nat)<=sizeLine;decide),fun pp hp=>?_⟩;have s4:=Zk.new (o:=.tup [.str "tag",.str t0,.ref p]) hp;refine q pp _ (((b1.trans (Za6.same s2)).trans b3).trans (Za6.same s4)) ?_ (.tag (SqT.of Zb) (rp.mono (TF.same s4)));rw[Zkc,List.length_append,hml,<- Nat.add_assoc];exact s4 _ _ h3
def mks:List (Str×V):=[("many",.str "*"),("some",.str "+"),("maybe",.str "?")]
theorem ZiQ{i:Nat}{k:Str}{v:V}(h:mks[i]?= some (k,v)):i<3/\k=Za5 i/\v=.str (Zd3 i):=by
 match i,h with
 | 0,h=>cases h;exact⟨by decide,rfl,rfl⟩
 | 1,h=>cases h;exact⟨by decide,rfl,rfl⟩
 | 2,h=>cases h;exact⟨by decide,rfl,rfl⟩
 | i+3,h=>cases h
theorem Ze0{i:Nat}(h:i<3):∃c,cs (Zd3 i)=[c]/\(c=42\/c=43\/c=63)/\(Zd3 i).length=1:=by
 match i,h with
 | 0,_=>exact⟨42,rfl,.inl rfl,rfl⟩
 | 1,_=>exact⟨43,rfl,.inr (.inl rfl),rfl⟩
 | 2,_=>exact⟨63,rfl,.inr (.inr rfl),rfl⟩
theorem Zjt{i j:Nat}(h:i<3)(h':j<3)(e:cs (Zd3 i)=cs (Zd3 j)):i=j:=by
 match i,j,h,h' with
 | 0,0,_,_=>rfl
 | 1,1,_,_=>rfl
 | 2,2,_,_=>rfl
 | 0,1,_,_=>exact absurd e (by decide)
 | 0,2,_,_=>exact absurd e (by decide)
 | 1,0,_,_=>exact absurd e (by decide)
 | 1,2,_,_=>exact absurd e (by decide)
 | 2,0,_,_=>exact absurd e (by decide)
 | 2,1,_,_=>exact absurd e (by decide)
variable{A_MARKS:Addr}
set_option maxHeartbeats 2000000 in
theorem Zcb(L:Nat)(B:∀x∈Zbv,mg x=none)(c_MARKS:mg "MARKS" = some (.ref A_MARKS)) (marksD:KTab K A_MARKS mks) (marksS:(A_MARKS == sysModules)=false) (c_Source:SrC K C) (g_Source_take_single:HasM P w K mg base C "take_single" ["self","levels"] (5*L+6) (ZfW K C (L+1))) (g_Source_skips:HasM P w K mg base C "skips" ["self","piece"] 2 (ZbP C)) (F:Fun K "take_marked" "Source.take_marked" Z4 f fd):FnOk P w K mg base CX0 (5*L+7) f fd ["self","levels"] (Zgf K C (L+1)):=by
 refine F.ok Zap (fun vs H Q E h=>?_) (fun cdv A outer s H vs Q E hr h=>?_)
 ·obtain⟨a,dx,T,n,i,r,rfl,_⟩:=h;rfl
 obtain⟨a,dx,T,n,e,r,rfl,ha,hn,hT,er,hw,hd,hf,q⟩:=h;refine⟨_,(Zc (Zt (i:=2) Zap.nd rfl (Or.inl rfl) (Zah g_Source_take_single hr (pv 0) c_Source.cls (Za (pv 1) Zd) (by lia)))
  (Zc (Za7 PassesOwn.never rfl (Zja (Z9 (v:=.ref A_MARKS) rfl c_MARKS rfl)) (ZbH rfl (Zv (Zn (i:=3) Zap.nd rfl (Or.inl rfl)) (Zv (Zn (i:=4) Zap.nd rfl (Or.inl rfl)) ZaG)))
   (Zf (Z2 (Z1 (Zah g_Source_skips hr (pv 0) c_Source.cls (Za (pv 4) Zd) (by lia)) (fun _=>rfl))
     (Zf (Zr (ZM (Za (pv 3) (Za (pv 2) Zd)))))
     Zq)))
  (Zf (Zr (pv 2))))),?_⟩
 have key:(∃m p,e=.rep m p)\/(tL ["turn","or"] e=tL five e/\five.contains (kw e)=(["turn","or"]:List Str).contains (kw e)):=by
  cases e with
  | rep m p=>exact .inl ⟨m,p,rfl⟩
  | several b ps =>
   have h1:five.contains (ZdE b)=(["turn","or"]:List Str).contains (ZdE b):=by cases b <;> decide
   refine .inr ⟨?_,h1⟩;unfold tL brc;show cs (if(["turn","or"]:List Str).contains (ZdE b)=true then _ else _)=cs (if five.contains (ZdE b)=true then _ else _)
   rw[h1]
  | nil=>exact .inr ⟨rfl,rfl⟩
  | name _=>exact .inr ⟨rfl,rfl⟩
  | tag _ _=>exact .inr ⟨rfl,rfl⟩
 rcases key with⟨m,p0,rfl⟩|⟨ek,hk⟩
 ·obtain⟨m2,hwp⟩:=hw;have m3:m<3:=by lia
  have ho:(["turn","or"]:List Str).contains (kw (.rep m p0))=false:=by
   show(["turn","or"]:List Str).contains (Za5 m)=false;unfold Za5
   split
   ·decide
   ·split <;> decide
  have et:tL ["turn","or"] (.rep m p0)=tL five p0++cs (Zd3 m):=by
   rw[ZdI ho,tx,ZaI];rfl
  rw[et] at er q;rw[ho,if_neg Bool.false_ne_true] at hd;have hd:dp p0+1+0<L+1:=hd;rw[List.append_assoc] at er;obtain⟨c,ec,hc,lc⟩:=Ze0 m3;obtain⟨e2,n2⟩:=Zav er hn;refine⟨_,rfl,a,dx,_,rfl,ha,rfl,_,rfl,a,dx,T,n,p0,cs (Zd3 m)++r,rfl,ha,hn,hT,er,hwp,by split <;> lia,.inr ⟨c,r,by rw[ec];rfl,hc⟩,fun pp H1 b1 h1 rp=>?_⟩
  refine⟨A_MARKS,mks,rfl,marksD,marksS,Zfr (fun i σ H2=>∃v3 v4:Option V,σ =[some (.ref a),some (.int ((L+1:Nat):Int)),some (.ref pp),v3,v4]/\Zk H1 H2/\i<=m) ⟨none,none,rfl,Zk.refl _,Nat.zero_le _⟩ ?_ ?_⟩
  ·rintro i k v u σ H2 hg ⟨v3,v4,rfl,s2,him⟩ hu;obtain⟨i3,rfl,rfl⟩:=ZiQ hg;have s3:=Zk.new (o:=.tup [.str (Za5 i),.str (Zd3 i)]) hu;have s13:=s2.trans s3;have h3:ZbX C _ a dx T (n+(tL five p0).length):=s13 _ _ h1;refine⟨u,_,rfl,SqT.of Zb,rfl,_,_,rfl,_,_,rfl,rfl,?_⟩;refine⟨_,rfl,a,dx,_,rfl,h3,rfl,_,rfl,a,dx,T,_,Zd3 i,rfl,h3,n2,by rw[(Ze0 i3).choose_spec.2.2];decide,fun z=>⟨_,rfl,ZbD ⟨_,_,rfl,s13,?_⟩⟩,fun z H4 b4 h4=>⟨_,rfl,Zcz ?_⟩⟩
   ·by_cases h:i=m
    ·subst h;exact absurd ⟨r,e2.symm⟩ z
    ·lia
   ·have im:i=m:=by
     refine Zjt i3 m3 ?_;obtain⟨y,z⟩:=z;obtain⟨d,ed,_,_⟩:=Ze0 i3;rw[e2,ec,ed] at z;injection z with z _;rw[ed,ec,z]
    subst im;refine⟨_,rfl,_,rfl,(by show(2:Nat)<=sizeLine;decide),fun p5 hp5=>?_⟩;have s5:=Zk.new (o:=.tup [.str (Za5 i),.ref pp]) hp5;refine q p5 _ (((b1.trans (Za6.same s13)).trans b4).trans (Za6.same s5)) ?_ (.rep (SqT.of Zb) ((rp.mono ((TF.same s13).trans (TF.bar b4 h3))).mono (TF.same s5)));rw[List.length_append,ec,<- Nat.add_assoc];rw[lc] at h4;exact s5 _ _ h4
  ·rintro σ H2 ⟨v3,v4,rfl,s2,him⟩;have:mks.length<=m:=him;exact absurd this (by show ¬ 3<=m;lia)
 ·rw[ek] at er q;rw[<- hk] at hd;refine⟨_,rfl,a,dx,_,rfl,ha,rfl,_,rfl,a,dx,T,n,e,r,rfl,ha,hn,hT,er,hw,hd,.inl hf,fun pp H1 b1 h1 rp=>?_⟩;obtain⟨e2,n2⟩:=Zav er hn;refine⟨A_MARKS,mks,rfl,marksD,marksS,Zfr (fun i σ H2=>∃v3 v4:Option V,σ =[some (.ref a),some (.int ((L+1:Nat):Int)),some (.ref pp),v3,v4]/\Zk H1 H2) ⟨none,none,rfl,Zk.refl _⟩ ?_ ?_⟩
  ·rintro i k v u σ H2 hg ⟨v3,v4,rfl,s2⟩ hu;obtain⟨i3,rfl,rfl⟩:=ZiQ hg;have s3:=Zk.new (o:=.tup [.str (Za5 i),.str (Zd3 i)]) hu;have s13:=s2.trans s3;have h3:ZbX C _ a dx T (n+(tL five e).length):=s13 _ _ h1;obtain⟨d,ed,hdd,ld⟩:=Ze0 i3;refine⟨u,_,rfl,SqT.of Zb,rfl,_,_,rfl,_,_,rfl,rfl,?_⟩;refine⟨_,rfl,a,dx,_,rfl,h3,rfl,_,rfl,a,dx,T,_,Zd3 i,rfl,h3,n2,by rw[ld];decide,fun z=>⟨_,rfl,ZbD ⟨_,_,rfl,s13⟩⟩,fun z H4 b4 h4=>?_⟩;rw[e2,ed] at z;exact absurd z (Zku hf hdd)
  ·rintro σ H2 ⟨v3,v4,rfl,s2⟩;exact⟨_,rfl,q pp H2 (b1.trans (Za6.same s2)) (s2 _ _ h1) (rp.mono (TF.same s2))⟩
theorem RepKs.of{K:PySem.W.Frag}{H:Hp}:∀{ps:Exs}{vs:List V},Paired (fun(v:V)(e:Ex)=>∃p,v=.ref p/\RepK K H p e) vs (toL ps)->RepKs K H vs ps
 | .nil,_,h=>by cases h;exact .nil
 | .cons e r,_,h=>by
  cases h with
  | cons x t =>
   obtain⟨p,rfl,y⟩:=x;exact .cons y (RepKs.of t)
theorem PR.keep{K:PySem.W.Frag}{H H':Hp}(k:TF K H H'){vs:List V}{es:List Ex}(h:Paired (fun(v:V)(e:Ex)=>∃p,v=.ref p/\RepK K H p e) vs es):Paired (fun(v:V)(e:Ex)=>∃p,v=.ref p/\RepK K H' p e) vs es:=by
 induction h with
 | nil=>exact .nil
 | cons x t ih =>
  obtain⟨p,e,y⟩:=x;exact .cons ⟨p,e,y.mono k⟩ ih
theorem PR.len{K:PySem.W.Frag}{H:Hp}{vs:List V}{es:List Ex}(h:Paired (fun(v:V)(e:Ex)=>∃p,v=.ref p/\RepK K H p e) vs es):vs.length=es.length:=by
 induction h with
 | nil=>rfl
 | cons _ _ ih=>rw[List.length_cons,List.length_cons,ih]
theorem Zh6{l:List Str}:∀es:List Ex,es.length<=(es.flatMap fun p=>[32]++tL l p).length
 | []=>Nat.zero_le _
 | e::es=>by
  have:=Zh6 (l:=l) es;rw[List.flatMap_cons,List.length_append,List.length_append,List.length_cons];show _<=1+_+_;lia
theorem Za6.new{a pl:Addr}{H H1 H2:Hp}{o:HO}(b1:Za6 a H H1)(n1:H1 pl=none)(na:pl≠a)(b2:Za6 a H H2):Za6 a H (upd H2 pl o):=fun b u hb e=>by
 have:b≠pl:=fun z=>by
  have:=b1 b u hb e;rw[z,n1] at this;cases this
 rw[Zi this];exact b2 b u hb e
theorem TF.lst{K:PySem.W.Frag}{H:Hp}{pl:Addr}{vs ws:List V}(h:H pl=some (.lst vs)):TF K H (upd H pl (.lst ws)):=fun p xs k=>by
 rcases k with(k|⟨o,k⟩)|k
 ·refine .inl (.inl ?_);rw[Zi fun z=>by rw[z,h] at k;cases k];exact k
 ·refine .inl (.inr ⟨o,?_⟩);rw[Zi fun z=>by rw[z,h] at k;cases k];exact k
 ·exact .inr k
theorem Zid{T:Str}{x y:Nat}(hx:x<=T.length)(hy:y<=T.length)(e:rsT T x=rsT T y):x=y:=by
 have hl:(cs T).length=T.length:=Array.length_toList;have:=congrArg List.length e;unfold rsT at this;rw[List.length_drop,List.length_drop,hl] at this;lia
theorem PR.snoc{K:PySem.W.Frag}{H:Hp}{vs:List V}{es:List Ex}{p:Addr}{e:Ex}(h:Paired (fun(v:V)(e:Ex)=>∃p,v=.ref p/\RepK K H p e) vs es)(r:RepK K H p e):Paired (fun(v:V)(e:Ex)=>∃p,v=.ref p/\RepK K H p e) (vs ++ [.ref p]) (es ++ [e]):=by
 induction h with
 | nil=>exact .cons ⟨p,rfl,r⟩ .nil
 | cons x t ih=>exact .cons x ih
set_option maxHeartbeats 2000000 in
theorem ZcD(L:Nat)(B:∀x∈Zbv,mg x=none)(c_Source:SrC K C)(g_Source_take_marked:HasM P w K mg base C "take_marked" ["self","levels"] (5*L+7) (Zgf K C (L+1))) (g_Source_sees:HasM P w K mg base C "sees" ["self","piece"] 1 (ZgR C)) (g_Source_skips:HasM P w K mg base C "skips" ["self","piece"] 2 (ZbP C)) (F:Fun K "take_turn" "Source.take_turn" Zac f fd):FnOk P w K mg base CX0 (5*L+8) f fd ["self","levels"] (ZfN K C (L+1)):=by
 refine F.ok Zbo (fun vs H Q E h=>?_) (fun cdv A outer s H vs Q E hr h=>?_)
 ·obtain⟨a,dx,T,n,i,r,rfl,_⟩:=h;rfl
 obtain⟨a,dx,T,n,e,r,rfl,ha,hn,hT,er,hw,hd,hf,q⟩:=h;refine⟨_,(Zc (Zt (i:=2) Zbo.nd rfl (Or.inl rfl) (ZaA (Za (Zah g_Source_take_marked hr (pv 0) c_Source.cls (Za (pv 1) Zd) (by lia)) Zd)))
  (Zc (Zcl PassesOwn.never (PW.pt (ZgW (Zbu (Z1 (Zah g_Source_sees hr (pv 0) c_Source.cls (Za Zj Zd) (by lia)) (fun _=>rfl))) (ZeB (Z1 (Zah g_Source_skips hr (pv 0) c_Source.cls (Za Zj Zd) (by lia)) (fun _=>rfl)))))
   (Zf (ZaH (Zb0 PySem.F.plainAttrs_list PySem.F.slot_list_append PySem.F.type_list_append Za3 (pv 2) (Za (Zah g_Source_take_marked hr (pv 0) c_Source.cls (Za (pv 1) Zd) (by lia)) Zd)))))
  (Zf (Zr (Zdw (Zo ZaM (Zu ZD rfl (B "len" (by decide)) PySem.boot_len (Za (pv 2) Zd)) Zh (ZG _)) (ZP Z6 (pv 2) Zh (fun _ _=>rfl)) (ZM (Za Zj (Za (Zam ZbW rfl (B "tuple" (by decide)) ZcX (Za (pv 2) Zd)) Zd)))))))),?_⟩
 obtain⟨e1,es,et,hall,f1,f2⟩:∃(e1:Ex)(es:List Ex),tL ["or"] e=tL ["turn","or"] e1++(es.flatMap fun p=>[32]++tL ["turn","or"] p)/\(∀p∈e1::es,wfE p/\dp p+(if(["turn","or"]:List Str).contains (kw p)=true then 1 else 0)<L+1)/\(∀H' p,es=[]->RepK K H' p e1->RepK K H' p e)/\(∀H' p q' vs,es ≠ []->SqT K H' p [.str "turn",.ref q']->SqT K H' q' vs->Paired (fun(v:V)(e:Ex)=>∃p,v=.ref p/\RepK K H' p e) vs (e1::es)->RepK K H' p e):=by
  have plain:tL ["or"] e=tL ["turn","or"] e->(["or"]:List Str).contains (kw e)=(["turn","or"]:List Str).contains (kw e)->_:=fun h1 h2=>(⟨e,[],by rw[h1];simp,fun p hp=>by
    rw[List.mem_singleton.mp hp,<- h2];exact⟨hw,hd⟩,fun _ _ _ h=>h,fun _ _ _ _ h=>absurd rfl h⟩:∃(e1:Ex)(es:List Ex),tL ["or"] e=tL ["turn","or"] e1++(es.flatMap fun p=>[32]++tL ["turn","or"] p)/\(∀p∈e1::es,wfE p/\dp p+(if(["turn","or"]:List Str).contains (kw p)=true then 1 else 0)<L+1)/\(∀H' p,es=[]->RepK K H' p e1->RepK K H' p e)/\(∀H' p q' vs,es ≠ []->SqT K H' p [.str "turn",.ref q']->SqT K H' q' vs->Paired (fun(v:V)(e:Ex)=>∃p,v=.ref p/\RepK K H' p e) vs (e1::es)->RepK K H' p e))
  cases e with
  | several b ps =>
   cases b with
   | true =>
    cases ps with
    | nil=>exact absurd hw.1 (by show ¬ 2<=0;decide)
    | cons e1 es =>
     have ho:(["or"]:List Str).contains (kw (.several true (.cons e1 es)))=false:=by show(["or"]:List Str).contains "turn" = false;decide
     rw[ho,if_neg Bool.false_ne_true] at hd;have hd:dps (.cons e1 es)+1+0<L+1:=hd;refine⟨e1,toL es,?_,fun p hp=>⟨ZeV (ps:=.cons e1 es) hw.2 hp,?_⟩,fun _ _ z=>?_,fun H' p q' vs _ k1 k2 k3=>.several (b:=true) k1 k2 (RepKs.of (ps:=.cons e1 es) k3)⟩
     ·rw[ZdI ho,Zc4];rfl
     ·have:=(Zce (ps:=.cons e1 es) hp).1
      split <;> lia
     ·have h2:2<=cnt es+1:=hw.1;have:=ZcG es;rw[z] at this;have:0=cnt es:=this;lia
   | false=>exact plain rfl (by show(["or"]:List Str).contains "or" = (["turn","or"]:List Str).contains "or";decide)
  | rep m p =>
   have h1:(["or"]:List Str).contains (Za5 m)=(["turn","or"]:List Str).contains (Za5 m):=by
    unfold Za5
    split
    ·decide
    ·split <;> decide
   refine plain ?_ h1;unfold tL brc;show cs (if(["or"]:List Str).contains (Za5 m)=true then _ else _)=cs (if(["turn","or"]:List Str).contains (Za5 m)=true then _ else _)
   rw[h1]
  | nil=>exact plain rfl rfl
  | name _=>exact plain rfl rfl
  | tag _ _=>exact plain rfl rfl
 obtain⟨eEnd,nEnd⟩:=Zav er hn;rw[et,List.append_assoc] at er;have hwe:∀p∈es,wfE p:=fun p hp=>(hall p (List.mem_cons_of_mem _ hp)).1;obtain⟨w1,d1⟩:=hall e1 (List.mem_cons_self ..);refine⟨_,rfl,a,dx,_,rfl,ha,rfl,_,rfl,a,dx,T,n,e1,_,rfl,ha,hn,hT,er,w1,d1,ZhG hf hwe,fun pp H1 b1 h1 rp=>?_⟩;obtain⟨e2,n2⟩:=Zav er hn;refine⟨(by show(1:Nat)<=sizeLine;decide),fun pl hpl=>?_⟩;have npa:pl≠a:=fun z=>by rw[z,show H1 a=some _ from h1] at hpl;cases hpl
 have s2:=Zk.new (o:=.lst [V.ref pp]) hpl;have fin:∀(H2:Hp)(m2:Nat)(vs:List V),Za6 a H H2->ZbX C H2 a dx T m2->m2<=T.length->rsT T m2=r->H2 pl=some (.lst vs)->Paired (fun(v:V)(e:Ex)=>∃p,v=.ref p/\RepK K H2 p e) vs (e1::es)->ZkZ (tIf (Zjh (tOp rEq (tCB (fun xs H_1 Q=>∃p ys,xs=[V.ref p]/\(SqL K H_1 p ys\/SqT K H_1 p ys)/\Q (V.int (ys.length:Nat)) H_1) (Zb8 (Zhg 2) Zga)) (tC (V.int 1)))) (tOp (ZlN K) (Zhg 2) (tC (V.int 0))) (Zll (Zb8 (tC (V.str "turn")) (Zb8 (tCB (fun xs H_1 Q=>∃p ys,xs=[V.ref p]/\((SqL K H_1 p ys/\∀(l:Addr),H_1 l=none->Q (V.ref l) (upd H_1 l (HO.tup ys)))\/SqT K H_1 p ys/\Q (V.ref p) H_1)) (Zb8 (Zhg 2) Zga)) Zga)))) { nx:=fun _ H'=>Q .non H',rt:=Q } [some (.ref a),some (.int ((L+1:Nat):Int)),some (.ref pl)] H2:=fun H2 m2 vs b2 h2 hm2 er2 hv hP=>by
  have hlen:=PR.len hP;have em:m2=n+(tL ["or"] e).length:=Zid hm2 nEnd (er2.trans eEnd.symm);rw[em] at h2;refine⟨_,rfl,pl,_,rfl,.inl (SqL.of hv),rfl,_,rfl,Zaz (fun z=>?_) (fun z=>?_)⟩
  ·have z:V.int (vs.length:Int)=V.int 1:=of_decide_eq_true z;injection z with z;have he:es=[]:=by
    cases es with
    | nil=>rfl
    | cons x y=>rw[List.length_cons,List.length_cons] at hlen;lia
   cases hP with
   | cons x t =>
    obtain⟨p,rfl,y⟩:=x;exact⟨_,rfl,pl,_,0,_,rfl,rfl,SqL.of hv,at0,q p H2 b2 h2 (f1 H2 p he y)⟩
  ·have he:es ≠ []:=fun k=>by
    rw[k] at hlen;exact z (decide_eq_true (by rw[hlen];rfl))
   refine⟨_,rfl,pl,_,rfl,.inl ⟨SqL.of hv,fun l1 g1=>?_⟩⟩;have s3:=Zk.new (o:=.tup vs) g1;refine⟨(by show(2:Nat)<=sizeLine;decide),fun l2 g2=>?_⟩;have s4:=Zk.new (o:=.tup [.str "turn",.ref l1]) g2;exact q l2 _ (b2.trans (Za6.same (s3.trans s4))) ((s3.trans s4) _ _ h2) (f2 _ l2 l1 vs he (SqT.of Zb) (SqT.of (s4 _ _ Zb)) (PR.keep (TF.same (s3.trans s4)) hP))
 refine⟨fun m σ H2=>∃(dn td:List Ex)(vs:List V)(m2:Nat),m=td.length/\e1::es=dn++td /\ σ =[some (.ref a),some (.int ((L+1:Nat):Int)),some (.ref pl)]/\Za6 a H H2/\ZbX C H2 a dx T m2/\m2<=T.length/\rsT T m2=(td.flatMap fun p=>[32]++tL ["turn","or"] p)++r/\H2 pl=some (.lst vs)/\Paired (fun(v:V)(e:Ex)=>∃p,v=.ref p/\RepK K H2 p e) vs dn/\(∀p∈td,p∈es)/\vs.length+td.length<=1+es.length,⟨_,[e1],es,[.ref pp],_,rfl,rfl,rfl,b1.trans (Za6.same s2),s2 _ _ h1,n2,e2,Zb,.cons ⟨pp,rfl,rp.mono (TF.same s2)⟩ .nil,fun _ h=>h,by show 1+_<=_;lia⟩,?_⟩;rintro m σ H2 ⟨dn,td,vs,m2,rfl,hdt,rfl,b2,h2,hm2,er2,hv,hP,htd,hle⟩;refine⟨_,rfl,a,dx,_,rfl,h2,rfl,a,dx,T,m2," | ",rfl,h2,hm2,_,rfl,?_⟩;cases td with
 | nil =>
  have er2:rsT T m2=r:=er2;rw[List.append_nil] at hdt;have hP':=hP;rw[<- hdt] at hP';have fin':=fin H2 m2 vs b2 h2 hm2 er2 hv hP';rcases Zk5 hf with hb|hb
  ·have e:decide (cs (Str.ofString " | ") <+: rsT T m2)=true:=decide_eq_true (by rw[er2];exact hb);rw[e];exact ZbD (ZbD fin')
  ·by_cases hbar:cs (Str.ofString " | ") <+: rsT T m2
   ·rw[decide_eq_true hbar];exact ZbD (ZbD fin')
   ·rw[decide_eq_false hbar];refine Zcz ⟨_,rfl,a,dx,_,rfl,h2,rfl,a,dx,T,m2," ",rfl,h2,hm2,(by decide),fun _=>⟨_,rfl,ZbD fin'⟩,fun z=>absurd z (by rw[er2];exact hb)⟩
 | cons p td =>
  have hp0:=hall p (List.mem_cons_of_mem _ (htd p (List.mem_cons_self ..)));obtain⟨t1,t2⟩:=Ziv (p:=p) (ps:=td) (r:=r) hp0.1;rw[<- er2] at t1 t2;have t1' : ¬ cs (Str.ofString " | ") <+: rsT T m2:=t1;rw[decide_eq_false t1'];refine Zcz ⟨_,rfl,a,dx,_,rfl,h2,rfl,a,dx,T,m2," ",rfl,h2,hm2,(by decide),fun z=>absurd t2 z,fun _ H3 b3 h3=>⟨_,rfl,Zcz ?_⟩⟩;have h3:ZbX C H3 a dx T (m2+1):=h3;have hv3:H3 pl=some (.lst vs):=b3 pl _ npa hv;have er3:rsT T m2=[32]++(tL ["turn","or"] p++((td.flatMap fun p=>[32]++tL ["turn","or"] p)++r)):=by
   rw[er2,List.flatMap_cons];simp only[List.append_assoc]
  obtain⟨e4,n4⟩:=Zav er3 hm2;obtain⟨e5,n5⟩:=Zav e4 n4;have hwt:∀x∈td,wfE x:=fun x hx=>hwe x (htd x (List.mem_cons_of_mem _ hx));refine⟨fun σ' H'=>∃m',m'<(p::td).length/\∃(dn td:List Ex)(vs:List V)(m2:Nat),m'=td.length/\e1::es=dn++td /\ σ'=[some (.ref a),some (.int ((L+1:Nat):Int)),some (.ref pl)]/\Za6 a H H'/\ZbX C H' a dx T m2/\m2<=T.length/\rsT T m2=(td.flatMap fun p=>[32]++tL ["turn","or"] p)++r/\H' pl=some (.lst vs)/\Paired (fun(v:V)(e:Ex)=>∃p,v=.ref p/\RepK K H' p e) vs dn/\(∀p∈td,p∈es)/\vs.length+td.length<=1+es.length,fun _ _ h=>h,?_⟩;have esl:es.length<=1000:=by
   have h1:=Zh6 (l:=["turn","or"]) es;have h2:=congrArg List.length e2;unfold rsT at h2;rw[List.length_drop,show(cs T).length=T.length from Array.length_toList,List.length_append] at h2;lia
  refine⟨_,rfl,.inl ⟨rfl,_,SqL.of hv3⟩,_,rfl,a,dx,_,rfl,h3,rfl,_,rfl,a,dx,T,m2+1,p,_,rfl,h3,n4,hT,e4,hp0.1,hp0.2,ZhG hf hwt,fun p4 H4 b4 h4 rp4=>?_⟩;have hv4:H4 pl=some (.lst vs):=b4 pl _ npa hv3;refine⟨pl,vs,_,rfl,rfl,hv4,ZR (by rw[List.length_cons] at hle;lia),?_⟩;have b24:=(b2.trans b3).trans b4;refine⟨_,by rw[List.length_cons];exact Nat.lt_succ_self _,dn ++ [p],td,_,_,rfl,by rw[hdt];simp,rfl,Za6.new b1 hpl npa b24,?_,n5,e5,Zb,?_,fun x hx=>htd x (List.mem_cons_of_mem _ hx),by rw[List.length_append];rw[List.length_cons] at hle;show _+1+_<=_;lia⟩
  ·show upd H4 pl _ a=_;rw[Zi npa.symm];exact h4
  ·exact PR.snoc (PR.keep ((TF.bar (b3.trans b4) h2).trans (TF.lst hv4)) hP) (rp4.mono (TF.lst hv4))
theorem Zgv{l:List Str}:∀es:List Ex,es.length<=(es.flatMap fun p=>[32,124,32]++tL l p).length
 | []=>Nat.zero_le _
 | e::es=>by
  have:=Zgv (l:=l) es;rw[List.flatMap_cons,List.length_append,List.length_append,List.length_cons];show _<=3+_+_;lia
set_option maxHeartbeats 2000000 in
theorem ZcB(L:Nat)(B:∀x∈Zbv,mg x=none)(c_Source:SrC K C)(g_Source_take_turn:HasM P w K mg base C "take_turn" ["self","levels"] (5*L+8) (ZfN K C (L+1))) (g_Source_skips:HasM P w K mg base C "skips" ["self","piece"] 2 (ZbP C)) (F:Fun K "take_expr" "Source.take_expr" Zab f fd):FnOk P w K mg base CX0 (5*L+9) f fd ["self","levels"] (ZdH K C (L+1)):=by
 refine F.ok Zbm (fun vs H Q E h=>?_) (fun cdv A outer s H vs Q E hr h=>?_)
 ·obtain⟨a,dx,T,n,i,r,rfl,_⟩:=h;rfl
 obtain⟨a,dx,T,n,e,r,rfl,ha,hn,hT,er,hw,hd,hf,q⟩:=h;refine⟨_,(Zc (Z2 (Zo ZaM (pv 1) Zh (ZG _))
   (Zf Zbs)
   Zq)
  (Zc (Zt (i:=2) Zbm.nd rfl (Or.inl rfl) (ZaA (Za (Zah g_Source_take_turn hr (pv 0) c_Source.cls (Za (pv 1) Zd) (by lia)) Zd)))
  (Zc (Zcl PassesOwn.never (Z1 (Zah g_Source_skips hr (pv 0) c_Source.cls (Za Zj Zd) (by lia)) (fun _=>rfl))
   (Zf (ZaH (Zb0 PySem.F.plainAttrs_list PySem.F.slot_list_append PySem.F.type_list_append Za3 (pv 2) (Za (Zah g_Source_take_turn hr (pv 0) c_Source.cls (Za (pv 1) Zd) (by lia)) Zd)))))
  (Zf (Zr (Zdw (Zo ZaM (Zu ZD rfl (B "len" (by decide)) PySem.boot_len (Za (pv 2) Zd)) Zh (ZG _)) (ZP Z6 (pv 2) Zh (fun _ _=>rfl)) (ZM (Za Zj (Za (Zam ZbW rfl (B "tuple" (by decide)) ZcX (Za (pv 2) Zd)) Zd))))))))),?_⟩
 obtain⟨e1,es,et,hall,f1,f2⟩:∃(e1:Ex)(es:List Ex),tL [] e=tL ["or"] e1++(es.flatMap fun p=>[32,124,32]++tL ["or"] p)/\(∀p∈e1::es,wfE p/\dp p+(if(["or"]:List Str).contains (kw p)=true then 1 else 0)<L+1)/\(∀H' p,es=[]->RepK K H' p e1->RepK K H' p e)/\(∀H' p q' vs,es ≠ []->SqT K H' p [.str "or",.ref q']->SqT K H' q' vs->Paired (fun(v:V)(e:Ex)=>∃p,v=.ref p/\RepK K H' p e) vs (e1::es)->RepK K H' p e):=by
  have plain:tL [] e=tL ["or"] e->([]:List Str).contains (kw e)=(["or"]:List Str).contains (kw e)->_:=fun h1 h2=>(⟨e,[],by rw[h1];simp,fun p hp=>by
    rw[List.mem_singleton.mp hp,<- h2];exact⟨hw,hd⟩,fun _ _ _ h=>h,fun _ _ _ _ h=>absurd rfl h⟩:∃(e1:Ex)(es:List Ex),tL [] e=tL ["or"] e1++(es.flatMap fun p=>[32,124,32]++tL ["or"] p)/\(∀p∈e1::es,wfE p/\dp p+(if(["or"]:List Str).contains (kw p)=true then 1 else 0)<L+1)/\(∀H' p,es=[]->RepK K H' p e1->RepK K H' p e)/\(∀H' p q' vs,es ≠ []->SqT K H' p [.str "or",.ref q']->SqT K H' q' vs->Paired (fun(v:V)(e:Ex)=>∃p,v=.ref p/\RepK K H' p e) vs (e1::es)->RepK K H' p e))
  cases e with
  | several b ps =>
   cases b with
   | false =>
    cases ps with
    | nil=>exact absurd hw.1 (by show ¬ 2<=0;decide)
    | cons e1 es =>
     have ho:([]:List Str).contains (kw (.several false (.cons e1 es)))=false:=rfl;rw[ho,if_neg Bool.false_ne_true] at hd;have hd:dps (.cons e1 es)+1+0<L+1:=hd;refine⟨e1,toL es,?_,fun p hp=>⟨ZeV (ps:=.cons e1 es) hw.2 hp,?_⟩,fun _ _ z=>?_,fun H' p q' vs _ k1 k2 k3=>.several (b:=false) k1 k2 (RepKs.of (ps:=.cons e1 es) k3)⟩
     ·rw[ZdI ho,Zc4];rfl
     ·have:=(Zce (ps:=.cons e1 es) hp).1
      split <;> lia
     ·have h2:2<=cnt es+1:=hw.1;have:=ZcG es;rw[z] at this;have:0=cnt es:=this;lia
   | true=>exact plain rfl (by show([]:List Str).contains "turn" = (["or"]:List Str).contains "turn";decide)
  | rep m p =>
   have h1:([]:List Str).contains (Za5 m)=(["or"]:List Str).contains (Za5 m):=by
    unfold Za5
    split
    ·decide
    ·split <;> decide
   refine plain ?_ h1;unfold tL brc;show cs (if([]:List Str).contains (Za5 m)=true then _ else _)=cs (if(["or"]:List Str).contains (Za5 m)=true then _ else _)
   rw[h1]
  | nil=>exact plain rfl rfl
  | name _=>exact plain rfl rfl
  | tag _ _=>exact plain rfl rfl
 obtain⟨eEnd,nEnd⟩:=Zav er hn;rw[et,List.append_assoc] at er;have hwe:∀p∈es,wfE p:=fun p hp=>(hall p (List.mem_cons_of_mem _ hp)).1;obtain⟨w1,d1⟩:=hall e1 (List.mem_cons_self ..);refine⟨_,rfl,rfl,_,rfl,Zaz (fun z=>absurd (of_decide_eq_true z) fun z=>by injection z with z;lia) (fun _=>?_)⟩;refine⟨_,rfl,a,dx,_,rfl,ha,rfl,_,rfl,a,dx,T,n,e1,_,rfl,ha,hn,hT,er,w1,d1,Zls hf,fun pp H1 b1 h1 rp=>?_⟩;obtain⟨e2,n2⟩:=Zav er hn;refine⟨(by show(1:Nat)<=sizeLine;decide),fun pl hpl=>?_⟩;have npa:pl≠a:=fun z=>by rw[z,show H1 a=some _ from h1] at hpl;cases hpl
 have s2:=Zk.new (o:=.lst [V.ref pp]) hpl;have fin:∀(H2:Hp)(m2:Nat)(vs:List V),Za6 a H H2->ZbX C H2 a dx T m2->m2<=T.length->rsT T m2=r->H2 pl=some (.lst vs)->Paired (fun(v:V)(e:Ex)=>∃p,v=.ref p/\RepK K H2 p e) vs (e1::es)->ZkZ (tIf (Zjh (tOp rEq (tCB (fun xs H_1 Q=>∃p ys,xs=[V.ref p]/\(SqL K H_1 p ys\/SqT K H_1 p ys)/\Q (V.int (ys.length:Nat)) H_1) (Zb8 (Zhg 2) Zga)) (tC (V.int 1)))) (tOp (ZlN K) (Zhg 2) (tC (V.int 0))) (Zll (Zb8 (tC (V.str "or")) (Zb8 (tCB (fun xs H_1 Q=>∃p ys,xs=[V.ref p]/\((SqL K H_1 p ys/\∀(l:Addr),H_1 l=none->Q (V.ref l) (upd H_1 l (HO.tup ys)))\/SqT K H_1 p ys/\Q (V.ref p) H_1)) (Zb8 (Zhg 2) Zga)) Zga)))) { nx:=fun _ H'=>Q .non H',rt:=Q } [some (.ref a),some (.int ((L+1:Nat):Int)),some (.ref pl)] H2:=fun H2 m2 vs b2 h2 hm2 er2 hv hP=>by
  have hlen:=PR.len hP;have em:m2=n+(tL [] e).length:=Zid hm2 nEnd (er2.trans eEnd.symm);rw[em] at h2;refine⟨_,rfl,pl,_,rfl,.inl (SqL.of hv),rfl,_,rfl,Zaz (fun z=>?_) (fun z=>?_)⟩
  ·have z:V.int (vs.length:Int)=V.int 1:=of_decide_eq_true z;injection z with z;have he:es=[]:=by
    cases es with
    | nil=>rfl
    | cons x y=>rw[List.length_cons,List.length_cons] at hlen;lia
   cases hP with
   | cons x t =>
    obtain⟨p,rfl,y⟩:=x;exact⟨_,rfl,pl,_,0,_,rfl,rfl,SqL.of hv,at0,q p H2 b2 h2 (f1 H2 p he y)⟩
  ·have he:es ≠ []:=fun k=>by
    rw[k] at hlen;exact z (decide_eq_true (by rw[hlen];rfl))
   refine⟨_,rfl,pl,_,rfl,.inl ⟨SqL.of hv,fun l1 g1=>?_⟩⟩;have s3:=Zk.new (o:=.tup vs) g1;refine⟨(by show(2:Nat)<=sizeLine;decide),fun l2 g2=>?_⟩;have s4:=Zk.new (o:=.tup [.str "or",.ref l1]) g2;exact q l2 _ (b2.trans (Za6.same (s3.trans s4))) ((s3.trans s4) _ _ h2) (f2 _ l2 l1 vs he (SqT.of Zb) (SqT.of (s4 _ _ Zb)) (PR.keep (TF.same (s3.trans s4)) hP))
 refine⟨fun m σ H2=>∃(dn td:List Ex)(vs:List V)(m2:Nat),m=td.length/\e1::es=dn++td /\ σ =[some (.ref a),some (.int ((L+1:Nat):Int)),some (.ref pl)]/\Za6 a H H2/\ZbX C H2 a dx T m2/\m2<=T.length/\rsT T m2=(td.flatMap fun p=>[32,124,32]++tL ["or"] p)++r/\H2 pl=some (.lst vs)/\Paired (fun(v:V)(e:Ex)=>∃p,v=.ref p/\RepK K H2 p e) vs dn/\(∀p∈td,p∈es)/\vs.length+td.length<=1+es.length,⟨_,[e1],es,[.ref pp],_,rfl,rfl,rfl,b1.trans (Za6.same s2),s2 _ _ h1,n2,e2,Zb,.cons ⟨pp,rfl,rp.mono (TF.same s2)⟩ .nil,fun _ h=>h,by show 1+_<=_;lia⟩,?_⟩;rintro m σ H2 ⟨dn,td,vs,m2,rfl,hdt,rfl,b2,h2,hm2,er2,hv,hP,htd,hle⟩;cases td with
 | nil =>
  have er2:rsT T m2=r:=er2;rw[List.append_nil] at hdt;have hP':=hP;rw[<- hdt] at hP';have fin':=fin H2 m2 vs b2 h2 hm2 er2 hv hP';refine⟨_,rfl,a,dx,_,rfl,h2,rfl,a,dx,T,m2," | ",rfl,h2,hm2,(by decide),fun _=>⟨_,rfl,ZbD fin'⟩,fun z=>absurd z (by rw[er2];exact(ZjS hf).1)⟩
 | cons p td =>
  have hp0:=hall p (List.mem_cons_of_mem _ (htd p (List.mem_cons_self ..)));have t2:cs (Str.ofString " | ") <+: rsT T m2:=by
   rw[er2,List.flatMap_cons];exact⟨_,by simp only[List.append_assoc];rfl⟩
  refine⟨_,rfl,a,dx,_,rfl,h2,rfl,a,dx,T,m2," | ",rfl,h2,hm2,(by decide),fun z=>absurd t2 z,fun _ H3 b3 h3=>⟨_,rfl,Zcz ?_⟩⟩;have h3:ZbX C H3 a dx T (m2+3):=h3;have hv3:H3 pl=some (.lst vs):=b3 pl _ npa hv;have er3:rsT T m2=[32,124,32]++(tL ["or"] p++((td.flatMap fun p=>[32,124,32]++tL ["or"] p)++r)):=by
   rw[er2,List.flatMap_cons];simp only[List.append_assoc]
  obtain⟨e4,n4⟩:=Zav er3 hm2;obtain⟨e5,n5⟩:=Zav e4 n4;have hwt:∀x∈td,wfE x:=fun x hx=>hwe x (htd x (List.mem_cons_of_mem _ hx));refine⟨fun σ' H'=>∃m',m'<(p::td).length/\∃(dn td:List Ex)(vs:List V)(m2:Nat),m'=td.length/\e1::es=dn++td /\ σ'=[some (.ref a),some (.int ((L+1:Nat):Int)),some (.ref pl)]/\Za6 a H H'/\ZbX C H' a dx T m2/\m2<=T.length/\rsT T m2=(td.flatMap fun p=>[32,124,32]++tL ["or"] p)++r/\H' pl=some (.lst vs)/\Paired (fun(v:V)(e:Ex)=>∃p,v=.ref p/\RepK K H' p e) vs dn/\(∀p∈td,p∈es)/\vs.length+td.length<=1+es.length,fun _ _ h=>h,?_⟩;have esl:es.length<=1000:=by
   have h1:=Zgv (l:=["or"]) es;have h2:=congrArg List.length e2;unfold rsT at h2;rw[List.length_drop,show(cs T).length=T.length from Array.length_toList,List.length_append] at h2;lia
  refine⟨_,rfl,.inl ⟨rfl,_,SqL.of hv3⟩,_,rfl,a,dx,_,rfl,h3,rfl,_,rfl,a,dx,T,m2+3,p,_,rfl,h3,n4,hT,e4,hp0.1,hp0.2,Zls hf,fun p4 H4 b4 h4 rp4=>?_⟩;have hv4:H4 pl=some (.lst vs):=b4 pl _ npa hv3;refine⟨pl,vs,_,rfl,rfl,hv4,ZR (by rw[List.length_cons] at hle;lia),?_⟩;have b24:=(b2.trans b3).trans b4;refine⟨_,by rw[List.length_cons];exact Nat.lt_succ_self _,dn ++ [p],td,_,_,rfl,by rw[hdt];simp,rfl,Za6.new b1 hpl npa b24,?_,n5,e5,Zb,?_,fun x hx=>htd x (List.mem_cons_of_mem _ hx),by rw[List.length_append];rw[List.length_cons] at hle;show _+1+_<=_;lia⟩
  ·show upd H4 pl _ a=_;rw[Zi npa.symm];exact h4
  ·exact PR.snoc (PR.keep ((TF.bar (b3.trans b4) h2).trans (TF.lst hv4)) hP) (rp4.mono (TF.lst hv4))
def ZcJ(m:Str)(e:Ex):List Nat:=cs m++([32,61,32]++tL [] e)
def Zh3(K:PySem.W.Frag)(C:Addr):Sp:=fun vs H Q _=>∃(a dx:Addr)(T:Str)(n:Nat)(m:Str)(e:Ex)(r:List Nat),vs=[.ref a]/\ZbX C H a dx T n/\n<=T.length/\T.length<=400/\rsT T n=ZcJ m e++r/\Upr m/\m.length<=8/\wfE e/\dp e<12/\fE r /\
 ∀(p q:Addr)(H':Hp),Za6 a H H'->ZbX C H' a dx T (n+(ZcJ m e).length)->H' p=some (.tup [.str m,.ref q])->RepK K H' q e->Q (.ref p) H'
set_option maxHeartbeats 1000000 in
theorem Zff(B:∀x∈Zbv,mg x=none)(Cc1:∃t:Tok,mg "DEEPEST" = some (.int 12 t)) (c_Source:SrC K C) (g_Source_take_name:HasM P w K mg base C "take_name" ["self"] 3 (ZeX C)) (g_Source_must_skip:HasM P w K mg base C "must_skip" ["self","piece"] 3 (Ze4 C)) (g_Source_take_expr:HasM P w K mg base C "take_expr" ["self","levels"] 64 (ZdH K C 12)) (F:Fun K "take_pair" "take_pair" Zba f fd):FnOk P w K mg base CX0 65 f fd ["source"] (Zh3 K C):=by
 refine F.ok Zdk (fun vs H Q E h=>?_) (fun cdv A outer s H vs Q E hr h=>?_)
 ·obtain⟨a,dx,T,n,m,e,r,rfl,_⟩:=h;rfl
 obtain⟨a,dx,T,n,m,e,r,rfl,ha,hn,hT,er,hu,h8,hw,hd,hf,q⟩:=h;obtain⟨t1,c_DEEPEST⟩:=Cc1;have hml:(cs m).length=m.length:=Array.length_toList;refine⟨_,(Zc (Zt (i:=1) Zdk.nd rfl (Or.inl rfl) (Zdv g_Source_take_name hr (pv 0) c_Source.cls))
  (Zc (ZaH (Zah g_Source_must_skip hr (pv 0) c_Source.cls (Za Zj Zd)))
  (Zf (Zr (ZM (Za (pv 1) (Za (Zah g_Source_take_expr hr (pv 0) c_Source.cls (Za (Z9 (v:=.int 12) rfl c_DEEPEST ⟨_,rfl⟩) Zd)) Zd))))))),?_⟩
 have e1:rsT T n=cs m++([32,61,32]++(tL [] e++r)):=by
  rw[er];unfold ZcJ;simp only[List.append_assoc]
 obtain⟨e2,n2⟩:=Zav e1 hn;obtain⟨e3,n3⟩:=Zav e2 n2;rw[hml] at e2 n2 e3 n3;refine⟨_,rfl,a,dx,_,rfl,ha,rfl,a,dx,T,n,m,_,rfl,ha,hn,by lia,e1,hu,h8,fun c r' z=>by injection z with z _;lia,fun H1 b1 h1=>?_⟩;refine⟨_,rfl,a,dx,_,rfl,h1,rfl,a,dx,T,n+m.length," = ",rfl,h1,n2,(by decide),⟨_,e2.symm⟩,fun H2 b2 h2=>?_⟩;have h2:ZbX C H2 a dx T (n+m.length+3):=h2;refine⟨_,rfl,_,rfl,a,dx,_,rfl,h2,rfl,a,dx,T,_,e,r,rfl,h2,n3,hT,e3,hw,hd,hf,fun p H3 b3 h3 rp=>?_⟩;refine⟨(by show(2:Nat)<=sizeLine;decide),fun pp hp=>?_⟩;have s4:=Zk.new (o:=.tup [.str m,.ref p]) hp;refine q pp p _ (((b1.trans b2).trans b3).trans (Za6.same s4)) ?_ Zb (rp.mono (TF.same s4));have:n+(ZcJ m e).length=n+m.length+3+(tL [] e).length:=by
  unfold ZcJ;rw[List.length_append,List.length_append,hml];show n+(m.length+(3+_))=_;lia
 rw[this];exact s4 _ _ h3
theorem Zmo{A_NIL A_MARKS A_BRACED B1 B2 B3 B4 B5:Addr}{d0 d1 d2 d3 d4 d5:Option Addr}{n0 n1 n2 n3 n4 n5:Nat}{s0 s1 s2 s3 s4 s5 slM slB:Array (Option Value)}{eM eB:Nat}{hM0 hM1 hM2 hB0 hB1 hB2 hB3 hB4:Int}
  {a1 b1 b2 c1 e1 e2 e3 e4 e5 f1 f2 f3 f4 f5 g1 g2 g3 g4 g5 kM0 kM1 kM2 uM0 uM1 uM2 kB0 kB1 kB2 kB3 kB4:Tok}
  (y1:mg "NIL" = some (.ref A_NIL)) (y2:mg "MARKS" = some (.ref A_MARKS)) (y3:mg "BRACED" = some (.ref A_BRACED))
  (lM:K.lookup A_MARKS=some ⟨.type "dict",none,.dict #[{ hash:=hM0,key:=.str "many" kM0,val:=.str "*" uM0 },{ hash:=hM1,key:=.str "some" kM1,val:=.str "+" uM1 },{ hash:=hM2,key:=.str "maybe" kM2,val:=.str "?" uM2 }] eM,slM⟩)
  (lB:K.lookup A_BRACED=some ⟨.type "dict",none,.dict #[{ hash:=hB0,key:=.str "turn" kB0,val:=.ref B1 },{ hash:=hB1,key:=.str "or" kB1,val:=.ref B2 },{ hash:=hB2,key:=.str "many" kB2,val:=.ref B3 },{ hash:=hB3,key:=.str "some" kB3,val:=.ref B4 },{ hash:=hB4,key:=.str "maybe" kB4,val:=.ref B5 }] eB,slB⟩)
  (l0:K.lookup A_NIL=some ⟨.type "tuple",d0,.seq #[.str "nil" a1] n0,s0⟩) (l1:K.lookup B1=some ⟨.type "tuple",d1,.seq #[.str "turn" b1,.str "or" b2] n1,s1⟩) (l2:K.lookup B2=some ⟨.type "tuple",d2,.seq #[.str "or" c1] n2,s2⟩)
  (l3:K.lookup B3=some ⟨.type "tuple",d3,.seq #[.str "turn" e1,.str "or" e2,.str "many" e3,.str "some" e4,.str "maybe" e5] n3,s3⟩) (l4:K.lookup B4=some ⟨.type "tuple",d4,.seq #[.str "turn" f1,.str "or" f2,.str "many" f3,.str "some" f4,.str "maybe" f5] n4,s4⟩)
  (l5:K.lookup B5=some ⟨.type "tuple",d5,.seq #[.str "turn" g1,.str "or" g2,.str "many" g3,.str "some" g4,.str "maybe" g5] n5,s5⟩):Con20 K mg A_NIL A_MARKS A_BRACED where
 nil:=y1
 nilT:=fun H=>.inr ⟨_,_,_,l0,rfl,rfl,(by show 1<=sizeLine;decide),.cons ⟨_,rfl⟩ .nil⟩
 marks:=y2
 marksT:=⟨[("many",.str "*"),("some",.str "+"),("maybe",.str "?")],⟨_,_,_,lM,.cons rfl ⟨_,rfl⟩ (.cons rfl ⟨_,rfl⟩ (.cons rfl ⟨_,rfl⟩ .nil))⟩,fun m=>by
  unfold Za5 Zd3
  split
  ·rfl
  ·split <;> rfl⟩
 braced:=y3
 bracedT:=⟨[("turn",.ref B1),("or",.ref B2),("many",.ref B3),("some",.ref B4),("maybe",.ref B5)],⟨_,_,_,lB,.cons rfl rfl (.cons rfl rfl (.cons rfl rfl (.cons rfl rfl (.cons rfl rfl .nil))))⟩,fun ar l h=>by
  rcases h with⟨b,rfl,rfl⟩|⟨m,rfl,rfl⟩
  ·cases b with
   | true=>exact⟨B1,rfl,fun H=>.inr ⟨_,_,_,l1,rfl,rfl,(by show 2<=sizeLine;decide),.cons ⟨_,rfl⟩ (.cons ⟨_,rfl⟩ .nil)⟩⟩
   | false=>exact⟨B2,rfl,fun H=>.inr ⟨_,_,_,l2,rfl,rfl,(by show 1<=sizeLine;decide),.cons ⟨_,rfl⟩ .nil⟩⟩
  ·unfold Za5
   split
   ·exact⟨B3,rfl,fun H=>.inr ⟨_,_,_,l3,rfl,rfl,(by show 5<=sizeLine;decide),.cons ⟨_,rfl⟩ (.cons ⟨_,rfl⟩ (.cons ⟨_,rfl⟩ (.cons ⟨_,rfl⟩ (.cons ⟨_,rfl⟩ .nil))))⟩⟩
   ·split
    ·exact⟨B4,rfl,fun H=>.inr ⟨_,_,_,l4,rfl,rfl,(by show 5<=sizeLine;decide),.cons ⟨_,rfl⟩ (.cons ⟨_,rfl⟩ (.cons ⟨_,rfl⟩ (.cons ⟨_,rfl⟩ (.cons ⟨_,rfl⟩ .nil))))⟩⟩
    ·exact⟨B5,rfl,fun H=>.inr ⟨_,_,_,l5,rfl,rfl,(by show 5<=sizeLine;decide),.cons ⟨_,rfl⟩ (.cons ⟨_,rfl⟩ (.cons ⟨_,rfl⟩ (.cons ⟨_,rfl⟩ (.cons ⟨_,rfl⟩ .nil))))⟩⟩⟩
theorem RepK.top{K:PySem.W.Frag}{H:Hp}{p:Addr}{e:Ex}(h:RepK K H p e):∃r,SqT K H p (.str (kw e)::r)/\r.isEmpty=ZbF e:=by
 cases h with
 | nil h=>exact⟨_,h,rfl⟩
 | tag h _=>exact⟨_,h,rfl⟩
 | name h=>exact⟨_,h,rfl⟩
 | several h _ _=>exact⟨_,h,rfl⟩
 | rep h _=>exact⟨_,h,rfl⟩
theorem RepKs.length{K:PySem.W.Frag}{H:Hp}:∀{vs:List V}{ps:Exs},RepKs K H vs ps->vs.length=cnt ps
 | _,_,.nil=>rfl
 | _,_,.cons _ r=>by simp only[List.length_cons,cnt,RepKs.length r]
theorem RepKs.get{K:PySem.W.Frag}{H:Hp}:∀{vs:List V}{ps:Exs}{i:Nat}{x:V},RepKs K H vs ps->vs[i]?= some x->∃p e,x=.ref p/\(toL ps)[i]?= some e/\RepK K H p e
 | _,_,i,_,.nil,h=>by simp at h
 | _,_,0,_,.cons h _,e=>by cases e;exact⟨_,_,rfl,rfl,h⟩
 | _,_,i+1,x,.cons _ r,e=>RepKs.get (i:=i) (x:=x) r (by simpa using e)
def ptE:Ex->Exs
 | .nil=>.nil
 | .tag _ i=>.cons i .nil
 | .name _=>.nil
 | .several _ ps=>ps
 | .rep _ p=>.cons p .nil
def Zbj(K:PySem.W.Frag):Sp:=fun vs H Q _=>∃p e,vs=[.ref p]/\RepK K H p e/\∀r vs' H',Zk H H'->SqT K H' r vs'->RepKs K H' vs' (ptE e)->Q (.ref r) H'
def ZcC(K:PySem.W.Frag)(d:Nat):Sp:=fun vs H Q _=>∃p e,vs=[.ref p]/\RepK K H p e/\dp e<d/\sz e<=200/\w8 e/\∀H',Zk H H'->Q (.str (tx e)) H'
def Zf3(K:PySem.W.Frag)(d:Nat):Sp:=fun vs H Q _=>∃ar l p e,vs=[.str ar,.ref p]/\Aro ar l/\RepK K H p e/\dp e<d/\sz e<=200/\w8 e/\∀H',Zk H H'->Q (.str (brc l (kw e) (tx e))) H'
theorem Zf2(B:∀x∈Zbv,mg x=none)(F:Fun K "parts_of" "parts_of" Zbg f fd):FnOk P w K mg base CX0 1 f fd ["expr"] (Zbj K):=by
 refine F.ok ZfL (fun vs H Q E h=>?_) (fun cdv A outer s H vs Q E hr h=>?_)
 ·obtain⟨p,e,rfl,_⟩:=h;rfl
 obtain⟨p,e,rfl,hR,q⟩:=h;refine⟨_,(Zc (Z2 (Zo ZbB (ZP ZX (pv 0) Zh (fun _ _=>rfl)) (ZM (Za Zj (Za Zj Zd))) (by with_unfolding_all rfl))
   (Zf (Zr (ZM Zd)))
   Zq)
  (Zc (Z2 (Zo ZaM (ZP ZX (pv 0) Zh (fun _ _=>rfl)) Zj (ZG _))
   (Zf (Zr (ZM (Za (ZP ZX (pv 0) Zh (fun _ _=>rfl)) Zd))))
   Zq)
  (Zc (Z2 (Zo ZbB (ZP ZX (pv 0) Zh (fun _ _=>rfl)) (ZM (Za Zj (Za Zj Zd))) (by with_unfolding_all rfl))
   (Zf (Zr (ZP ZX (pv 0) Zh (fun _ _=>rfl))))
   Zq)
  (Zf (Zr (ZM (Za (ZP ZX (pv 0) Zh (fun _ _=>rfl)) Zd))))))),?_⟩
 cases hR with
 | nil h =>
  refine⟨_,rfl,p,_,0,_,rfl,rfl,h,rfl,(by show 2<=sizeLine;decide),fun t ht=>⟨t,_,rfl,.inr (SqT.of Zb),rfl,rfl,_,rfl,Zaz (fun _=>?_) (fun z=>absurd (by decide) z)⟩⟩;have s1:Zk H (upd H t (.tup [.str "nil",.str "name"])):=Zk.new ht;exact⟨(by show 0<=sizeLine;decide),fun t2 ht2=>q t2 _ _ (s1.upd_new (s1.free ht2)) (SqT.of Zb) .nil⟩
 | name h =>
  refine⟨_,rfl,p,_,0,_,rfl,rfl,h,rfl,(by show 2<=sizeLine;decide),fun t ht=>⟨t,_,rfl,.inr (SqT.of Zb),rfl,rfl,_,rfl,Zaz (fun _=>?_) (fun z=>absurd (by decide) z)⟩⟩;have s1:Zk H (upd H t (.tup [.str "nil",.str "name"])):=Zk.new ht;exact⟨(by show 0<=sizeLine;decide),fun t2 ht2=>q t2 _ _ (s1.upd_new (s1.free ht2)) (SqT.of Zb) .nil⟩
 | @tag _ qa tg i h1 r =>
  refine⟨_,rfl,p,_,0,_,rfl,rfl,h1,rfl,(by show 2<=sizeLine;decide),fun t ht=>⟨t,_,rfl,.inr (SqT.of Zb),rfl,rfl,_,rfl,Zaz (fun z=>absurd z (by decide)) (fun _=>?_)⟩⟩;have s1:Zk H (upd H t (.tup [.str "nil",.str "name"])):=Zk.new ht;have h1':=TF.same (K:=K) s1 _ _ h1;refine⟨_,rfl,p,_,0,_,rfl,rfl,h1',rfl,rfl,_,rfl,Zaz (fun _=>?_) (fun z=>absurd (by decide) z)⟩;refine⟨_,rfl,p,_,2,_,rfl,rfl,h1',rfl,(by show 1<=sizeLine;decide),fun t3 ht3=>?_⟩;have s3:=s1.upd_new (o:=.tup [.ref qa]) (s1.free ht3);exact q t3 _ _ s3 (SqT.of Zb) (.cons (r.mono (TF.same s3)) .nil)
 | @several _ qa b vs _ h1 h2 r =>
  refine⟨_,rfl,p,_,0,_,rfl,rfl,h1,rfl,(by show 2<=sizeLine;decide),fun t ht=>⟨t,_,rfl,.inr (SqT.of Zb),rfl,rfl,_,rfl,Zaz (fun z=>absurd z ?_) (fun _=>?_)⟩⟩
  ·cases b <;> decide
  have s1:Zk H (upd H t (.tup [.str "nil",.str "name"])):=Zk.new ht;have h1':=TF.same (K:=K) s1 _ _ h1;refine⟨_,rfl,p,_,0,_,rfl,rfl,h1',rfl,rfl,_,rfl,Zaz (fun z=>absurd z ?_) (fun _=>?_)⟩
  ·cases b <;> decide
  refine⟨_,rfl,p,_,0,_,rfl,rfl,h1',rfl,(by show 2<=sizeLine;decide),fun t2 ht2=>⟨t2,_,rfl,.inr (SqT.of Zb),rfl,rfl,_,rfl,Zaz (fun _=>?_) (fun z=>absurd ?_ z)⟩⟩
  ·have s2:=s1.upd_new (o:=.tup [.str "turn",.str "or"]) (s1.free ht2);exact⟨_,rfl,p,_,1,_,rfl,rfl,(TF.same s2 _ _ h1),rfl,q qa vs _ s2 (TF.same s2 _ _ h2) (r.mono (TF.same s2))⟩
  ·cases b <;> decide
 | @rep _ qa m e h1 r =>
  have hm:Za5 m= "many" \/ Za5 m= "some" \/ Za5 m= "maybe" := by unfold Za5;split;exact .inl rfl;split;exact .inr (.inl rfl);exact .inr (.inr rfl)
  refine⟨_,rfl,p,_,0,_,rfl,rfl,h1,rfl,(by show 2<=sizeLine;decide),fun t ht=>⟨t,_,rfl,.inr (SqT.of Zb),rfl,rfl,_,rfl,Zaz (fun z=>absurd z ?_) (fun _=>?_)⟩⟩
  ·rcases hm with z|z|z <;> rw[z] <;> decide
  have s1:Zk H (upd H t (.tup [.str "nil",.str "name"])):=Zk.new ht;have h1':=TF.same (K:=K) s1 _ _ h1;refine⟨_,rfl,p,_,0,_,rfl,rfl,h1',rfl,rfl,_,rfl,Zaz (fun z=>absurd z ?_) (fun _=>?_)⟩
  ·rcases hm with z|z|z <;> rw[z] <;> decide
  refine⟨_,rfl,p,_,0,_,rfl,rfl,h1',rfl,(by show 2<=sizeLine;decide),fun t2 ht2=>⟨t2,_,rfl,.inr (SqT.of Zb),rfl,rfl,_,rfl,Zaz (fun z=>absurd z ?_) (fun _=>?_)⟩⟩
  ·rcases hm with z|z|z <;> rw[z] <;> decide
  have s2:=s1.upd_new (o:=.tup [.str "turn",.str "or"]) (s1.free ht2);refine⟨_,rfl,p,_,1,_,rfl,rfl,(TF.same s2 _ _ h1),rfl,(by show 1<=sizeLine;decide),fun t3 ht3=>?_⟩;have s3:=s2.upd_new (o:=.tup [.ref qa]) (s2.free ht3);exact q t3 _ _ s3 (SqT.of Zb) (.cons (r.mono (TF.same s3)) .nil)
theorem ZcZ(d:Nat)(A_NIL A_MARKS A_BRACED:Addr)(B:∀x∈Zbv,mg x=none)(C:Con20 K mg A_NIL A_MARKS A_BRACED)(g_shown_expr:Has P w K mg base "shown_expr" ["expr"] (2*d+1) (ZcC K d)) (F:Fun K "shown_part" "shown_part" Za1 f fd):FnOk P w K mg base CX0 (2*d+2) f fd ["around","part"] (Zf3 K d):=by
 refine F.ok ZcQ (fun vs H Q E h=>?_) (fun cdv A outer s H vs Q E hr h=>?_)
 ·obtain⟨ar,l,p,e,rfl,_⟩:=h;rfl
 obtain⟨ar,l,p,e,rfl,ha,hR,hd,hs,hw,q⟩:=h;have c_BRACED:=C.braced;have hl:=Zbw e hw;refine⟨_,(Zc (Zt (i:=2) ZcQ.nd rfl (Or.inl rfl) (ZQ g_shown_expr hr rfl (Za (pv 1) Zd) (by lia)))
  (Zf (Zr (Zdw (Zo ZbB (ZP ZX (pv 1) Zh (fun _ _=>rfl)) (Ziq (Z9 (v:=.ref A_BRACED) rfl c_BRACED rfl) (pv 0) (fun _ _=>rfl)) (by with_unfolding_all rfl)) (ZK ZL (ZK ZL Zj (pv 2)) Zj) (pv 2))))),?_⟩
 refine⟨_,rfl,p,e,rfl,hR,hd,hs,hw,fun H1 s1=>?_⟩;obtain⟨r,ht,_⟩:=(hR.mono (TF.same s1)).top;obtain⟨D,hK,hD⟩:=C.bracedT;obtain⟨Cb,hCb,hCt⟩:=hD ar l ha;refine⟨_,rfl,p,_,0,.str (kw e),rfl,rfl,ht,at0,_,rfl,A_BRACED,D,ar,_,rfl,rfl,hK,hCb,Cb,_,rfl,.inr (hCt H1),rfl,?_,_,rfl,?_⟩
 ·rcases ha with⟨b,rfl,rfl⟩|⟨m,rfl,rfl⟩
  ·cases b <;> rfl
  ·rfl
 have e1:(if false=true then !inV (V.str (kw e)) (l.map V.str) else inV (V.str (kw e)) (l.map V.str))=l.contains (kw e):=ZbA _ _
 rw[e1];have q':=q H1 s1;unfold brc at q';by_cases hc:l.contains (kw e)=true
 ·rw[if_pos hc] at q';refine Zaz (fun _=>?_) (fun z=>absurd hc z);refine⟨_,rfl,_,_,rfl,rfl,Zx (by show 1+_<=_;lia),_,_,rfl,rfl,Zx (by rw[Zy];show 1+_+1<=_;lia),q'⟩
 ·rw[if_neg hc] at q';exact Zaz (fun z=>absurd z hc) (fun _=>⟨_,rfl,q'⟩)
set_option maxHeartbeats 4000000 in
theorem Zez(d:Nat)(A_NIL A_MARKS A_BRACED:Addr)(B:∀x∈Zbv,mg x=none)(C:Con20 K mg A_NIL A_MARKS A_BRACED)(g_shown_expr:Has P w K mg base "shown_expr" ["expr"] (2*d+1) (ZcC K d)) (g_parts_of:Has P w K mg base "parts_of" ["expr"] 1 (Zbj K)) (g_shown_part:Has P w K mg base "shown_part" ["around","part"] (2*d+2) (Zf3 K d))
  (F:Fun K "shown_expr" "shown_expr" ZaY f fd):FnOk P w K mg base CX0 (2*d+3) f fd ["expr"] (ZcC K (d+1)):=by
 refine F.ok ZcO (fun vs H Q E h=>?_) (fun cdv A outer s H vs Q E hr h=>?_)
 ·obtain⟨p,e,rfl,_⟩:=h;rfl
 obtain⟨p,e,rfl,hR,hd,hs,hw,q⟩:=h;have hu:=Zd2 hr;have c_NIL:=C.nil;have c_MARKS:=C.marks;have hlen:=Zbw e hw;refine⟨_,(Zc (Z2 (Zo (ZiU hu) (pv 0) (Z9 (v:=.ref A_NIL) rfl c_NIL rfl) (ZG _))
   (Zf (Zr Zj))
   Zq)
  (Zc (Z2 (Zo ZaM (ZP ZX (pv 0) Zh (fun _ _=>rfl)) Zj (ZG _))
   (Zf (Zr (ZP ZX (pv 0) Zh (fun _ _=>rfl))))
   Zq)
  (Zc (Z2 (Zo ZaM (ZP ZX (pv 0) Zh (fun _ _=>rfl)) Zj (ZG _))
   (Zf (Zr (Zdw (Zo (ZiU hu) (ZP ZX (pv 0) Zh (fun _ _=>rfl)) (Z9 (v:=.ref A_NIL) rfl c_NIL rfl) (ZG _)) (ZP ZX (pv 0) Zh (fun _ _=>rfl)) (ZK ZL (ZK ZL (ZK ZL (ZP ZX (pv 0) Zh (fun _ _=>rfl)) Zj) (ZQ g_shown_expr hr rfl (Za (ZP ZX (pv 0) Zh (fun _ _=>rfl)) Zd) (by lia))) Zj))))
   Zq)
  (Zc (ZbR (cl:=[(Str.ofString "expr",s.heap.objs.size+1)]) (n0:=1) ZcO.nd rfl (Or.inl rfl) ["part"] [("expr",0)] (Zdl (ZQ g_parts_of hr rfl (Za (pv 0) Zd) (by lia))) (fun _ _ _ _=>(Zn (i:=0) (show List.Nodup (["part","expr"]:List Str) by decide) rfl (Or.inl rfl))) (fun _ _ _ _=>(ZQ g_shown_part hr rfl (Za (ZP (Zkm (K:=K) rfl) (pv 1) Zh (fun _ _=>rfl)) (Za (pv 0) Zd)) (by lia))) rfl rfl (by decide) rfl (by decide) (Zcv (by(repeat' first|exact List.forall_mem_nil _|refine List.forall_mem_cons.mpr ⟨?_,?_⟩) <;> rfl)) (Zbz (by(repeat' first|exact List.forall_mem_nil _|refine List.forall_mem_cons.mpr ⟨?_,?_⟩) <;> first|(intro h;exact⟨_,rfl⟩)|(intro h;exact absurd h (by decide)))) (fun _=>by(repeat' first|exact List.forall_mem_nil _|refine List.forall_mem_cons.mpr ⟨?_,?_⟩) <;> exact⟨rfl,rfl,Or.inl rfl⟩) (fun _=>rfl) rfl)
  (Zc (Z2 (Zo ZaM (ZP ZX (pv 0) Zh (fun _ _=>rfl)) Zj (ZG _))
   (Zf (Zr (Zb0 PySem.F.plainAttrs_str PySem.F.slot_str_join PySem.F.type_str_join ZdA Zj (Za (pv 1) Zd))))
   Zq)
  (Zc (Z2 (Zo ZaM (ZP ZX (pv 0) Zh (fun _ _=>rfl)) Zj (ZG _))
   (Zf (Zr (Zb0 PySem.F.plainAttrs_str PySem.F.slot_str_join PySem.F.type_str_join ZdA Zj (Za (pv 1) Zd))))
   Zq)
  (Zf (Zr (ZK ZL (ZP Z6 (pv 1) Zh (fun _ _=>rfl)) (Ziq (Z9 (v:=.ref A_MARKS) rfl c_MARKS rfl) (ZP ZX (pv 0) Zh (fun _ _=>rfl)) (fun _ _=>rfl))))))))))),?_⟩
 obtain⟨r,ht,hre⟩:=hR.top;refine⟨_,rfl,p,A_NIL,kw e,r,"nil",rfl,rfl,ht,C.nilT H,?_⟩;rw[hre,ZhQ];refine⟨_,rfl,?_⟩;cases hR with
 | nil h=>exact Zcz (q H (Zk.refl H))
 | name h =>
  refine ZbD ⟨_,rfl,p,_,0,_,rfl,rfl,h,rfl,rfl,_,rfl,Zaz (fun _=>?_) (fun z=>absurd (by decide) z)⟩;exact⟨_,rfl,p,_,1,_,rfl,rfl,h,rfl,q H (Zk.refl H)⟩
 | @tag _ q0 tg i h hi =>
  refine ZbD ⟨_,rfl,p,_,0,_,rfl,rfl,h,rfl,rfl,_,rfl,Zaz (fun z=>absurd z (by decide)) (fun _=>?_)⟩;refine⟨_,rfl,p,_,0,_,rfl,rfl,h,rfl,rfl,_,rfl,Zaz (fun _=>?_) (fun z=>absurd (by decide) z)⟩;obtain⟨r',ht',hre'⟩:=hi.top;refine⟨_,rfl,p,_,2,.ref q0,rfl,rfl,h,rfl,q0,A_NIL,kw i,r',"nil",rfl,rfl,ht',C.nilT H,?_⟩;rw[hre',ZhQ];refine⟨_,rfl,?_⟩;rw[tx] at q;have h8:tg.length<=8:=hw.1;have hli:=Zbw i hw.2;have hsi:sz i+1<=200:=hs;by_cases hn:ZbF i=true
  ·rw[if_pos hn] at q;exact Zaz (fun _=>⟨_,rfl,p,_,1,_,rfl,rfl,h,rfl,q H (Zk.refl H)⟩) (fun z=>absurd hn z)
  ·rw[if_neg hn] at q;refine Zaz (fun z=>absurd z hn) (fun _=>?_);have hdi:dp i+1<d+1:=hd;refine⟨_,rfl,p,_,1,_,rfl,rfl,h,rfl,_,_,rfl,rfl,Zx (by show tg.length+1<=_;lia),?_⟩;refine⟨_,rfl,p,_,2,_,rfl,rfl,h,rfl,q0,i,rfl,hi,by lia,by lia,hw.2,fun H1 s1=>?_⟩;exact⟨_,_,rfl,rfl,Zx (by rw[Zy];show tg.length+1+_<=_;lia),_,_,rfl,rfl,Zx (by rw[Zy,Zy];show tg.length+1+_+1<=_;lia),q H1 s1⟩
 | @several _ q0 b vs ps h1 h2 hr0 =>
  have hps:szs ps+1<=200:=hs;have hds:dps ps+1<d+1:=hd;have hl2:=ZeE (Zb3 b) ps hw;refine ZbD ⟨_,rfl,p,_,0,_,rfl,rfl,h1,rfl,rfl,_,rfl,Zaz (fun z=>absurd z (by cases b <;> decide)) (fun _=>?_)⟩
  refine⟨_,rfl,p,_,0,_,rfl,rfl,h1,rfl,rfl,_,rfl,Zaz (fun z=>absurd z (by cases b <;> decide)) (fun _=>?_)⟩
  refine⟨_,rfl,p,.several b ps,rfl,.several h1 h2 hr0,fun ra vs' H1 s1 e1 hr1=>?_⟩;have hr1:RepKs K H1 vs' ps:=hr1;refine⟨ra,rfl,⟨vs',e1⟩,fun pl hpl=>ZcR (K:=K) (a:=ra) (p:=pl) (xs:=vs') (fun i ys σ H2=>∃v0:Option V,σ =[v0,some (.ref p)]/\Zk H1 H2/\H2 pl=some (.lst ys)/\ys=((txs (Zb3 b) ps).take i).map V.str)
   ⟨none,rfl,Zk.new hpl,Zb,rfl⟩ ?_ ?_ ?_⟩
  ·rintro i ys σ H2 _ ⟨v0,_,sm,hp2,_⟩;exact⟨(TF.same sm _ _ e1),hp2⟩
  ·rintro i ys x σ H2 hi hx ⟨v0,rfl,sm,hp2,rfl⟩;obtain⟨pa,ea,rfl,hea,hra⟩:=hr1.get hx;obtain⟨m1,m2,m3⟩:=Zce (List.mem_of_getElem? hea);have hra2:=hra.mono (TF.same sm);have s12:=s1.trans sm;refine⟨_,rfl,p,_,0,_,rfl,rfl,(TF.same s12 _ _ h1),rfl,_,rfl,ZdE b,Zb3 b,pa,ea,rfl,.inl ⟨b,rfl,rfl⟩,hra2,by lia,by lia,m3 hw,fun H3 s3=>⟨s3 _ _ hp2,ZR (by rw[List.length_map,List.length_take];have:=ZdW (Zb3 b) ps;have:=ZgE ps;lia),CW.next hi ⟨_,rfl,(sm.trans s3).upd_new hpl,Zb,?_⟩⟩⟩
   have hti:(txs (Zb3 b) ps)[i]?= some (brc (Zb3 b) (kw ea) (tx ea)):=by rw[ZeA,List.getElem?_map,hea];rfl
   obtain⟨hil,hie⟩:=List.getElem?_eq_some_iff.mp hti;rw[List.take_succ_eq_append_getElem hil,hie,List.map_append];rfl
  ·rintro ys σ H2 ⟨v0,rfl,sm,hp2,rfl⟩;have hcv:vs'.length=(txs (Zb3 b) ps).length:=by rw[hr1.length,ZdW]
   rw[hcv,List.take_length] at hp2;have s12:=s1.trans sm;have hx1:=TF.same (K:=K) s12 _ _ h1;rw[tx] at q;cases b with
   | true =>
    refine⟨_,rfl,p,_,0,_,rfl,rfl,hx1,rfl,rfl,_,rfl,Zaz (fun _=>?_) (fun z=>absurd (by decide) z)⟩;refine⟨rfl,_,rfl," ",pl,txs (Zb3 true) ps,rfl,rfl,SqL.of hp2,?_,q H2 s12⟩;show _+_*1<=_;lia
   | false =>
    refine⟨_,rfl,p,_,0,_,rfl,rfl,hx1,rfl,rfl,_,rfl,Zaz (fun z=>absurd z (by decide)) (fun _=>?_)⟩;refine⟨_,rfl,p,_,0,_,rfl,rfl,hx1,rfl,rfl,_,rfl,Zaz (fun _=>?_) (fun z=>absurd (by decide) z)⟩;refine⟨rfl,_,rfl," | ",pl,txs (Zb3 false) ps,rfl,rfl,SqL.of hp2,?_,q H2 s12⟩;show _+_*3<=_;lia
 | @rep _ q0 m pe h1 hr0 =>
  have hps:sz pe+1<=200:=hs;have hds:dp pe+1<d+1:=hd;have hlp:=Zbw pe hw;have hbl:=ZeL five (kw pe) (tx pe);have hm:Za5 m= "many" \/ Za5 m= "some" \/ Za5 m= "maybe" := by unfold Za5;split;exact .inl rfl;split;exact .inr (.inl rfl);exact .inr (.inr rfl)
  refine ZbD ⟨_,rfl,p,_,0,_,rfl,rfl,h1,rfl,rfl,_,rfl,Zaz (fun z=>absurd z (by rcases hm with y|y|y <;> rw[y] <;> decide)) (fun _=>?_)⟩
  refine⟨_,rfl,p,_,0,_,rfl,rfl,h1,rfl,rfl,_,rfl,Zaz (fun z=>absurd z (by rcases hm with y|y|y <;> rw[y] <;> decide)) (fun _=>?_)⟩
  refine⟨_,rfl,p,.rep m pe,rfl,.rep h1 hr0,fun ra vs' H1 s1 e1 hr1=>?_⟩;have hr1:RepKs K H1 vs' (.cons pe .nil):=hr1;have hcn:vs'.length=1:=by rw[hr1.length];rfl
  refine⟨ra,rfl,⟨vs',e1⟩,fun pl hpl=>ZcR (K:=K) (a:=ra) (p:=pl) (xs:=vs') (fun i ys σ H2=>∃v0:Option V,σ =[v0,some (.ref p)]/\Zk H1 H2/\H2 pl=some (.lst ys)/\ys=((txs five (.cons pe .nil)).take i).map V.str)
   ⟨none,rfl,Zk.new hpl,Zb,rfl⟩ ?_ ?_ ?_⟩
  ·rintro i ys σ H2 _ ⟨v0,_,sm,hp2,_⟩;exact⟨(TF.same sm _ _ e1),hp2⟩
  ·rintro i ys x σ H2 hi hx ⟨v0,rfl,sm,hp2,rfl⟩;obtain⟨pa,ea,rfl,hea,hra⟩:=hr1.get hx;obtain⟨m1,m2,m3⟩:=Zce (List.mem_of_getElem? hea);have m1':dp ea<=max (dp pe) 0:=m1;have m2':sz ea<=sz pe+0:=m2;have m1'':dp ea<=dp pe:=by rw[Nat.max_eq_left (Nat.zero_le _)] at m1';exact m1'
   have hra2:=hra.mono (TF.same sm);have s12:=s1.trans sm;refine⟨_,rfl,p,_,0,_,rfl,rfl,(TF.same s12 _ _ h1),rfl,_,rfl,Za5 m,five,pa,ea,rfl,.inr ⟨m,rfl,rfl⟩,hra2,by lia,by lia,m3 ⟨hw,trivial⟩,fun H3 s3=>⟨s3 _ _ hp2,ZR (by rw[List.length_map,List.length_take];lia),CW.next hi ⟨_,rfl,(sm.trans s3).upd_new hpl,Zb,?_⟩⟩⟩
   have hti:(txs five (.cons pe .nil))[i]?= some (brc five (kw ea) (tx ea)):=by rw[ZeA,List.getElem?_map,hea];rfl
   obtain⟨hil,hie⟩:=List.getElem?_eq_some_iff.mp hti;rw[List.take_succ_eq_append_getElem hil,hie,List.map_append];rfl
  ·rintro ys σ H2 ⟨v0,rfl,sm,hp2,rfl⟩;rw[hcn] at hp2;have hp3:H2 pl=some (.lst [.str (brc five (kw pe) (tx pe))]):=hp2;have s12:=s1.trans sm;have hx1:=TF.same (K:=K) s12 _ _ h1;rw[tx] at q;refine⟨_,rfl,p,_,0,_,rfl,rfl,hx1,rfl,rfl,_,rfl,Zaz (fun z=>absurd z (by rcases hm with y|y|y <;> rw[y] <;> decide)) (fun _=>?_)⟩
   refine⟨_,rfl,p,_,0,_,rfl,rfl,hx1,rfl,rfl,_,rfl,Zaz (fun z=>absurd z (by rcases hm with y|y|y <;> rw[y] <;> decide)) (fun _=>?_)⟩
   obtain⟨D,hK,hD⟩:=C.marksT;have h3:(Zd3 m).length=1:=by unfold Zd3;split;rfl;split <;> rfl
   exact⟨_,rfl,pl,_,0,_,rfl,rfl,SqL.of hp3,rfl,_,rfl,p,_,0,_,rfl,rfl,hx1,rfl,A_MARKS,D,Za5 m,_,rfl,rfl,hK,hD m,_,_,rfl,rfl,Zx (by rw[h3];lia),q H2 s12⟩
mutual
def nm(b:Bool):Ex->List Str
 | .nil=>[]
 | .tag _ i=>if b=true then nm b i else []
 | .name n=>[n]
 | .several _ ps=>nms b ps
 | .rep _ p=>nm b p
def nms(b:Bool):Exs->List Str
 | .nil=>[]
 | .cons e r=>nm b e++nms b r
end
theorem Zc0(b:Bool):∀ps:Exs,nms b ps=(toL ps).flatMap (nm b)
 | .nil=>rfl
 | .cons e r=>by rw[nms,Zc0 b r,toL,List.flatMap_cons]
mutual
theorem ZdC(b:Bool):∀e:Ex,(nm b e).length<=sz e
 | .nil=>Nat.zero_le _
 | .tag _ i=>by
  have:=ZdC b i;rw[nm,sz]
  split
  ·lia
  ·exact Nat.zero_le _
 | .name _=>Nat.le_refl _
 | .several _ ps=>by
  have:=Zgm b ps;rw[nm,sz];lia
 | .rep _ p=>by
  have:=ZdC b p;rw[nm,sz];lia
theorem Zgm(b:Bool):∀ps:Exs,(nms b ps).length<=szs ps
 | .nil=>Nat.zero_le _
 | .cons e r=>by
  have h1:=ZdC b e;have h2:=Zgm b r;rw[nms,szs,List.length_append];lia
end
theorem Zbt{α β : Type}(f : α -> List β):∀(l:List α)(i:Nat),((l.take i).flatMap f).length<=(l.flatMap f).length
 | [],i=>by rw[List.take_nil];exact Nat.le_refl _
 | a::l,0=>Nat.zero_le _
 | a::l,i+1=>by
  have:=Zbt f l i;rw[List.take_succ_cons,List.flatMap_cons,List.flatMap_cons,List.length_append,List.length_append];lia
def Zjf(K:PySem.W.Frag)(d:Nat):Sp:=fun vs H Q _=>∃p e,vs=[.ref p]/\RepK K H p e/\dp e<d/\sz e<=200/\∀(n:Int) H',Zk H H'->n<=dp e+1->Q (.int n) H'
def ZjQ(K:PySem.W.Frag)(b:Bool)(d:Nat):Sp:=fun vs H Q _=>∃p e,vs=[.ref p]/\RepK K H p e/\dp e<d/\sz e<=200/\∀l H',Zk H H'->H l=none->H' l=some (.lst ((nm b e).map V.str))->Q (.ref l) H'
theorem ZiN:∀{e x:Ex},x∈toL (ptE e)->dp x<dp e/\sz x<sz e
 | .nil,_,h=>nomatch h
 | .tag _ i,x,h=>by
  rw[List.mem_singleton.mp h];show dp i<dp i+1/\sz i<sz i+1;lia
 | .name _,_,h=>nomatch h
 | .several _ ps,x,h=>by
  obtain⟨h1,h2,_⟩:=Zce (ps:=ps) h;show dp x<dps ps+1/\sz x<szs ps+1;lia
 | .rep _ p,x,h=>by
  rw[List.mem_singleton.mp h];show dp p<dp p+1/\sz p<sz p+1;lia
theorem Zkp:∀e:Ex,szs (ptE e)<=sz e
 | .nil=>Nat.zero_le _
 | .tag _ i=>by show sz i+0<=sz i+1;lia
 | .name _=>Nat.zero_le _
 | .several _ ps=>by show szs ps<=szs ps+1;lia
 | .rep _ p=>by show sz p+0<=sz p+1;lia
set_option maxHeartbeats 1000000 in
theorem Zgb(d:Nat)(B:∀x∈Zbv,mg x=none)(g_parts_of:Has P w K mg base "parts_of" ["expr"] 1 (Zbj K)) (g_depth_of:Has P w K mg base "depth_of" ["expr"] (d+1) (Zjf K d)) (F:Fun K "depth_of" "depth_of" Zbh f fd):FnOk P w K mg base CX0 (d+2) f fd ["expr"] (Zjf K (d+1)):=by
 refine F.ok Zf7 (fun vs H Q E h=>?_) (fun cdv A outer s H vs Q E hr h=>?_)
 ·obtain⟨p,e,rfl,_⟩:=h;rfl
 obtain⟨p,e,rfl,hR,hd,hs,q⟩:=h;have hu:=Zd2 hr;refine⟨_,(Zf (Zr (ZK Zca Zh (Zjq hu rfl rfl (B "max" (by decide)) (Za (ZbS (cl:=[]) ["part"] [] (Zdl (ZQ g_parts_of hr rfl (Za (pv 0) Zd) (by lia))) (fun _ _ _ _=>(Zn (i:=0) nd1 rfl (Or.inl rfl))) (fun _ _ _ _=>(ZQ g_depth_of hr rfl (Za (pv 0) Zd) (by lia))) rfl rfl (by decide) rfl (by decide) (fun _ _ h=>nomatch h) (Zc1 (by decide)) (fun _ _ h=>nomatch h) (fun _=>rfl)) Zd) Zh)))),?_⟩
 have hsz:=Zkp e;refine⟨_,rfl,p,e,rfl,hR,fun ra vs' H1 s1 e1 hr1=>?_⟩;have hvl:=hr1.length;have hcl:=ZgE (ptE e);refine⟨ra,rfl,⟨vs',e1⟩,fun pl hpl=>ZcR (K:=K) (a:=ra) (p:=pl) (xs:=vs') (fun i ys σ H2=>∃(v0:Option V)(ns:List Int),σ =[v0]/\Zk H1 H2/\H2 pl=some (.lst ys)/\ys=ns.map V.int/\ns.length=i/\∀n∈ns,n<=(dp e:Int))
  ⟨none,[],rfl,Zk.new hpl,Zb,rfl,rfl,fun _ h=>nomatch h⟩ ?_ ?_ ?_⟩
 ·rintro i ys σ H2 _ ⟨v0,ns,_,sm,hp2,_⟩;exact⟨(TF.same sm _ _ e1),hp2⟩
 ·rintro i ys x σ H2 hi hx ⟨v0,ns,rfl,sm,hp2,rfl,hnl,hn⟩;obtain⟨pa,ea,rfl,hea,hra⟩:=hr1.get hx;obtain⟨m1,m2⟩:=ZiN (List.mem_of_getElem? hea);refine⟨_,rfl,pa,ea,rfl,hra.mono (TF.same sm),by lia,by lia,fun n H3 s3 hn3=>⟨s3 _ _ hp2,ZR (by rw[List.length_map,hnl];lia),CW.next hi ⟨_,ns ++ [n],rfl,(sm.trans s3).upd_new hpl,Zb,by simp,by simp[hnl],fun x hx=>?_⟩⟩⟩
  rcases List.mem_append.mp hx with hx|hx
  ·exact hn x hx
  ·rw[List.mem_singleton.mp hx];lia
 rintro ys σ H2 ⟨v0,ns,_,sm,hp2,rfl,_,hn⟩;have s2:=s1.trans sm;refine⟨pl,ns,rfl,SqL.of hp2,fun p3 hp3=>⟨fun o=>SqL.of (by rw[Zi (Zm hp2 hp3)];exact hp2),fun _=>?_,fun M hM _=>?_⟩⟩
 ·exact⟨_,_,rfl,rfl,q _ _ (s2.trans (Zk.new hp3)) (by show(1:Int)+0<=_;lia)⟩
 ·have:=hn M hM;exact⟨_,_,rfl,rfl,q _ _ (s2.trans (Zk.new hp3)) (by lia)⟩
theorem Zgt(b:Bool):∀e:Ex,kw e ≠ "name" -> (b=true\/kw e ≠ "tag")->nm b e=(toL (ptE e)).flatMap (nm b)
 | .nil,_,_=>rfl
 | .tag t i,_,h=>by
  have hb:b=true:=h.resolve_right fun z=>z rfl;rw[nm,if_pos hb];show _=nm b i ++ [];rw[List.append_nil]
 | .name _,h,_=>absurd rfl h
 | .several _ ps,_,_=>by rw[nm];exact Zc0 b ps
 | .rep _ p,_,_=>by
  rw[nm];show _=nm b p ++ [];rw[List.append_nil]
theorem Zc5{b:Bool}{es:List Ex}{i:Nat}{e:Ex}(h:es[i]?= some e):((es.take i).flatMap (nm b)).map V.str++(nm b e).map V.str=((es.take (i+1)).flatMap (nm b)).map V.str:=by
 obtain⟨hi,he⟩:=List.getElem?_eq_some_iff.mp h;rw[List.take_succ_eq_append_getElem hi,List.flatMap_append,List.map_append,he];simp
theorem RepK.name_of{K:PySem.W.Frag}{H:Hp}{p:Addr}{e:Ex}(h:RepK K H p e)(hk:kw e= "name"):∃n,e=.name n/\SqT K H p [.str "name",.str n]:=by
 cases h with
 | nil h=>exact absurd hk (by decide)
 | tag h _=>exact absurd hk (by show ¬ (Str.ofString "tag" = Str.ofString "name");decide)
 | name h=>exact⟨_,rfl,h⟩
 | @several _ _ b _ _ h _ _=>exact absurd hk (by show ¬ ZdE b=_;cases b <;> decide)
 | @rep _ _ m _ h _=>exact absurd hk (by show ¬ Za5 m=_;unfold Za5;split;decide;split <;> decide)
set_option maxHeartbeats 1000000 in
theorem Zge(d:Nat)(B:∀x∈Zbv,mg x=none)(g_parts_of:Has P w K mg base "parts_of" ["expr"] 1 (Zbj K)) (g_names_in:Has P w K mg base "names_in" ["expr"] (d+1) (ZjQ K true d)) (F:Fun K "names_in" "names_in" Zbi f fd):FnOk P w K mg base CX0 (d+2) f fd ["expr"] (ZjQ K true (d+1)):=by
 refine F.ok ZcE (fun vs H Q E h=>?_) (fun cdv A outer s H vs Q E hr h=>?_)
 ·obtain⟨p,e,rfl,_⟩:=h;rfl
 obtain⟨p,e,rfl,hR,hd,hs,q⟩:=h;refine⟨_,(Zc (Z2 (Zo ZaM (ZP ZX (pv 0) Zh (fun _ _=>rfl)) Zj (ZG _))
   (Zf (Zr (ZaA (Za (ZP ZX (pv 0) Zh (fun _ _=>rfl)) Zd))))
   Zq)
  (Zc (Zt (i:=1) ZcE.nd rfl (Or.inl rfl) (ZaA Zd))
  (Zc (Za7 PassesOwn.never rfl (Zdl (ZQ g_parts_of hr rfl (Za (pv 0) Zd) (by lia))) (Zn (i:=2) ZcE.nd rfl (Or.inl rfl))
   (Zf (ZaH (Zb0 PySem.F.plainAttrs_list PySem.F.slot_list_extend PySem.F.type_list_extend Ze5 (pv 1) (Za (ZQ g_names_in hr rfl (Za (pv 2) Zd) (by lia)) Zd)))))
  (Zf (Zr (pv 1)))))),?_⟩
 obtain⟨r,ht,_⟩:=hR.top;refine⟨_,rfl,p,_,0,_,rfl,rfl,ht,at0,rfl,_,rfl,Zaz (fun z=>?_) (fun z=>?_)⟩
 ·have z:V.str (kw e)=V.str "name" := of_decide_eq_true z;injection z with z;obtain⟨n,rfl,hn⟩:=hR.name_of z;exact⟨_,rfl,p,_,1,_,rfl,rfl,hn,rfl,(by show 1<=sizeLine;decide),fun l hl=>q l _ (Zk.new hl) hl Zb⟩
 have hk:kw e ≠ "name" := fun k=>z (decide_eq_true (by rw[k]));refine⟨(by show 0<=sizeLine;decide),fun fl hfl=>?_⟩;have s0:Zk H (upd H fl (.lst [])):=Zk.new hfl;refine⟨_,rfl,p,e,rfl,hR.mono (TF.same s0),fun ra vs' H1 s1 e1 hr1=>?_⟩;have hvl:=hr1.length;have hcl:=ZcG (ptE e);have hfm:=Zgt true e hk (.inl rfl);have hnl:=ZdC true e;have h1:H1 fl=some (.lst []):=s1 _ _ Zb;have s01:=s0.trans s1;refine⟨ra,rfl,⟨vs',e1⟩,ZeG (K:=K) (a:=ra) (xs:=vs') (fun i σ H2=>∃(v2:Option V),σ =[some (.ref p),some (.ref fl),v2]/\Zk H H2/\TF K H1 H2/\H2 fl=some (.lst ((((toL (ptE e)).take i).flatMap (nm true)).map V.str)))
  ⟨none,rfl,s01,TF.refl,h1⟩ ?_ ?_ ?_⟩
 ·rintro i σ H2 _ ⟨v2,_,sm,tf,hp2⟩;exact tf _ _ e1
 ·rintro i x σ H2 hx ⟨v2,rfl,sm,tf,hp2⟩;obtain⟨pa,ea,rfl,hea,hra⟩:=hr1.get hx;obtain⟨m1,m2⟩:=ZiN (List.mem_of_getElem? hea);refine⟨_,rfl,.inl ⟨rfl,_,SqL.of hp2⟩,_,rfl,pa,ea,rfl,hra.mono tf,by lia,by lia,fun l3 H3 s3 f3 e3=>?_⟩;have n3:l3≠fl:=fun z=>by rw[z,hp2] at f3;cases f3
  refine⟨fl,l3,_,_,rfl,rfl,s3 _ _ hp2,e3,?_,?_⟩
  ·have:=Zbt (nm true) (toL (ptE e)) (i+1);have h9:=congrArg List.length (Zc5 (b:=true) hea);rw[List.length_append] at h9;rw[h9,List.length_map];rw[<- hfm] at this;exact Zx (by lia)
  ·refine⟨_,rfl,?_,?_,?_⟩
   ·intro b o hb;have:b≠fl:=fun z=>by rw[z,hfl] at hb;cases hb
    rw[Zi this];exact s3 _ _ (sm _ _ hb)
   ·exact(tf.trans (TF.same s3)).trans (TF.lst (s3 _ _ hp2))
   ·rw[Zb,Zc5 hea]
 rintro σ H2 ⟨v2,rfl,sm,tf,hp2⟩;rw[hvl,<- hcl,List.take_length,<- hfm] at hp2;exact⟨_,rfl,q fl H2 sm hfl hp2⟩
set_option maxHeartbeats 1000000 in
theorem Zdt(d:Nat)(B:∀x∈Zbv,mg x=none)(g_parts_of:Has P w K mg base "parts_of" ["expr"] 1 (Zbj K)) (g_names_outside:Has P w K mg base "names_outside" ["expr"] (d+1) (ZjQ K false d)) (F:Fun K "names_outside" "names_outside" Zax f fd):FnOk P w K mg base CX0 (d+2) f fd ["expr"] (ZjQ K false (d+1)):=by
 refine F.ok Zbd (fun vs H Q E h=>?_) (fun cdv A outer s H vs Q E hr h=>?_)
 ·obtain⟨p,e,rfl,_⟩:=h;rfl
 obtain⟨p,e,rfl,hR,hd,hs,q⟩:=h;refine⟨_,(Zc (Z2 (Zo ZaM (ZP ZX (pv 0) Zh (fun _ _=>rfl)) Zj (ZG _))
   (Zf (Zr (ZaA (Za (ZP ZX (pv 0) Zh (fun _ _=>rfl)) Zd))))
   Zq)
  (Zc (Z2 (Zo ZaM (ZP ZX (pv 0) Zh (fun _ _=>rfl)) Zj (ZG _))
   (Zf (Zr (ZaA Zd)))
   Zq)
  (Zc (Zt (i:=1) Zbd.nd rfl (Or.inl rfl) (ZaA Zd))
  (Zc (Za7 PassesOwn.never rfl (Zdl (ZQ g_parts_of hr rfl (Za (pv 0) Zd) (by lia))) (Zn (i:=2) Zbd.nd rfl (Or.inl rfl))
   (Zf (ZaH (Zb0 PySem.F.plainAttrs_list PySem.F.slot_list_extend PySem.F.type_list_extend Ze5 (pv 1) (Za (ZQ g_names_outside hr rfl (Za (pv 2) Zd) (by lia)) Zd)))))
  (Zf (Zr (pv 1))))))),?_⟩
 obtain⟨r,ht,_⟩:=hR.top;refine⟨_,rfl,p,_,0,_,rfl,rfl,ht,at0,rfl,_,rfl,Zaz (fun z=>?_) (fun z=>?_)⟩
 ·have z:V.str (kw e)=V.str "name" := of_decide_eq_true z;injection z with z;obtain⟨n,rfl,hn⟩:=hR.name_of z;exact⟨_,rfl,p,_,1,_,rfl,rfl,hn,rfl,(by show 1<=sizeLine;decide),fun l hl=>q l _ (Zk.new hl) hl Zb⟩
 have hk:kw e ≠ "name" := fun k=>z (decide_eq_true (by rw[k]));refine⟨_,rfl,p,_,0,_,rfl,rfl,ht,at0,rfl,_,rfl,Zaz (fun z=>?_) (fun z=>?_)⟩
 ·have z:V.str (kw e)=V.str "tag" := of_decide_eq_true z;injection z with z;refine⟨(by show 0<=sizeLine;decide),fun l hl=>q l _ (Zk.new hl) hl ?_⟩;have:nm false e=[]:=by
   cases e with
   | tag t i=>rfl
   | nil=>rfl
   | name n=>exact absurd rfl hk
   | several b ps=>exact absurd z (by show ¬ ZdE b=_;cases b <;> decide)
   | rep m p=>exact absurd z (by show ¬ Za5 m=_;unfold Za5;split;decide;split <;> decide)
  rw[Zb,this];rfl
 have hk2:kw e ≠ "tag" := fun k=>z (decide_eq_true (by rw[k]));refine⟨(by show 0<=sizeLine;decide),fun fl hfl=>?_⟩;have s0:Zk H (upd H fl (.lst [])):=Zk.new hfl;refine⟨_,rfl,p,e,rfl,hR.mono (TF.same s0),fun ra vs' H1 s1 e1 hr1=>?_⟩;have hvl:=hr1.length;have hcl:=ZcG (ptE e);have hfm:=Zgt false e hk (.inr hk2);have hnl:=ZdC false e;have h1:H1 fl=some (.lst []):=s1 _ _ Zb;have s01:=s0.trans s1;refine⟨ra,rfl,⟨vs',e1⟩,ZeG (K:=K) (a:=ra) (xs:=vs') (fun i σ H2=>∃(v2:Option V),σ =[some (.ref p),some (.ref fl),v2]/\Zk H H2/\TF K H1 H2/\H2 fl=some (.lst ((((toL (ptE e)).take i).flatMap (nm false)).map V.str)))
  ⟨none,rfl,s01,TF.refl,h1⟩ ?_ ?_ ?_⟩
 ·rintro i σ H2 _ ⟨v2,_,sm,tf,hp2⟩;exact tf _ _ e1
 ·rintro i x σ H2 hx ⟨v2,rfl,sm,tf,hp2⟩;obtain⟨pa,ea,rfl,hea,hra⟩:=hr1.get hx;obtain⟨m1,m2⟩:=ZiN (List.mem_of_getElem? hea);refine⟨_,rfl,.inl ⟨rfl,_,SqL.of hp2⟩,_,rfl,pa,ea,rfl,hra.mono tf,by lia,by lia,fun l3 H3 s3 f3 e3=>?_⟩;refine⟨fl,l3,_,_,rfl,rfl,s3 _ _ hp2,e3,?_,?_⟩
  ·have:=Zbt (nm false) (toL (ptE e)) (i+1);have h9:=congrArg List.length (Zc5 (b:=false) hea);rw[List.length_append] at h9;rw[h9,List.length_map];rw[<- hfm] at this;exact Zx (by lia)
  ·refine⟨_,rfl,?_,?_,?_⟩
   ·intro b o hb;have:b≠fl:=fun z=>by rw[z,hfl] at hb;cases hb
    rw[Zi this];exact s3 _ _ (sm _ _ hb)
   ·exact(tf.trans (TF.same s3)).trans (TF.lst (s3 _ _ hp2))
   ·rw[Zb,Zc5 hea]
 rintro σ H2 ⟨v2,rfl,sm,tf,hp2⟩;rw[hvl,<- hcl,List.take_length,<- hfm] at hp2;exact⟨_,rfl,q fl H2 sm hfl hp2⟩
theorem ZlS{X:Cx}{tg l:Expr}{tl:TE}(hl:PE X l tl):PI X tg l (fun σ H R=>Zki X.K tl σ H R\/Zmq X.K tl σ H R):=by
 intro pins s σ H R I h;rcases h with h|h
 ·exact ZaS hl pins s σ H R I h
 ·exact Zdl hl pins s σ H R I h
def BkP(K:PySem.W.Frag)(H:Hp)(v:V)(x:Str×Ex):Prop := ∃p q,v=.ref p/\H p=some (.tup [.str x.1,.ref q])/\RepK K H q x.2
def BkR(K:PySem.W.Frag)(H:Hp)(vs:List V)(bk:List (Str×Ex)):Prop:=Paired (BkP K H) vs bk
theorem BkP.keep{K:PySem.W.Frag}{H H':Hp}(k:TK H H')(t:TF K H H'){v:V}{x:Str×Ex}(h:BkP K H v x):BkP K H' v x:=by
 obtain⟨p,q,e,h1,h2⟩:=h;exact⟨p,q,e,k _ _ h1,h2.mono t⟩
theorem BkR.keep{K:PySem.W.Frag}{H H':Hp}(k:TK H H')(t:TF K H H'){vs:List V}{bk:List (Str×Ex)}(h:BkR K H vs bk):BkR K H' vs bk:=Paired.mapP h fun _ _ z=>z.keep k t
theorem BkR.same{K:PySem.W.Frag}{H H':Hp}(s:Zk H H'){vs:List V}{bk:List (Str×Ex)}(h:BkR K H vs bk):BkR K H' vs bk:=h.keep s.tk (TF.same s)
theorem Z7{α β : Type}{F : α -> β -> Prop}:∀{l₁ : List α}{l₂ : List β}{i:Nat}{a : α},Paired F l₁ l₂ -> l₁[i]?= some a->∃b,l₂[i]?= some b/\F a b
 | _,_,i,_,.nil,h=>by simp at h
 | _,_,0,_,.cons h _,e=>by cases e;exact⟨_,rfl,h⟩
 | _,_,i+1,a,.cons _ r,e=>by
  obtain⟨b,h1,h2⟩:=Z7 (i:=i) (a:=a) r (by simpa using e);exact⟨b,by simpa using h1,h2⟩
def prT(x:Str×Ex):Str:=x.1 ++ " = " ++ tx x.2
def bkT(bk:List (Str×Ex)):Str:=Txt.join "; " (bk.map prT)
theorem ZjR(x:Str×Ex):cs (prT x)=ZcJ x.1 x.2:=by
 unfold prT ZcJ;rw[ZaI,ZaI,List.append_assoc];rfl
theorem ZjN(x:Str×Ex)(bk:List (Str×Ex)):cs (bkT (x::bk))=ZcJ x.1 x.2++bk.flatMap fun y=>[59,32]++ZcJ y.1 y.2:=by
 unfold bkT;rw[List.map_cons,Zie,Zgg,List.flatMap_map,ZjR]
 congr 1
 refine congrArg (fun f=>List.flatMap f bk) (funext fun y=>?_);rw[ZjR];rfl
def Bk1(x:Str×Ex):Prop:=x.1.length<=8/\dp x.2<13/\sz x.2<=200/\w8 x.2
theorem ZfQ{x:Str×Ex}(h:Bk1 x):(prT x).length<=4020:=by
 have:=Zbw x.2 h.2.2.2;have h1:=h.1;have h2:=h.2.2.1;unfold prT;rw[Zy,Zy];show _+3+_<=_;lia
theorem Zf8:∀{bk:List (Str×Ex)},(∀x∈bk,Bk1 x)->((bk.map prT).map (·.length)).sum<=4020*bk.length
 | [],_=>Nat.le_refl _
 | x::bk,h=>by
  have h1:=ZfQ (h x (List.mem_cons_self ..));have h2:=Zf8 (bk:=bk) fun y hy=>h y (List.mem_cons_of_mem _ hy);simp only[List.map_cons,List.sum_cons,List.length_cons];lia
def ZfX(K:PySem.W.Frag):Sp:=fun vs H Q _=>∃p ws bk,vs=[.ref p]/\(SqL K H p ws\/SqT K H p ws)/\BkR K H ws bk/\bk.length<=100/\(∀x∈bk,Bk1 x)/\∀H',Zk H H'->Q (.str (bkT bk)) H'
set_option maxHeartbeats 1000000 in
theorem Zjx(B:∀x∈Zbv,mg x=none)(g_shown_expr:Has P w K mg base "shown_expr" ["expr"] 27 (ZcC K 13)) (F:Fun K "shown" "shown" Zc7 f fd):FnOk P w K mg base CX0 28 f fd ["book"] (ZfX K):=by
 refine F.ok ZjJ (fun vs H Q E h=>?_) (fun cdv A outer s H vs Q E hr h=>?_)
 ·obtain⟨p,ws,bk,rfl,_⟩:=h;rfl
 obtain⟨p,ws,bk,rfl,hS,hB,hl,h1,q⟩:=h;refine⟨_,(Zf (Zr (Zb0 PySem.F.plainAttrs_str PySem.F.slot_str_join PySem.F.type_str_join ZdA Zj (Za (ZbS (cl:=[]) ["name","expr"] [] (K24.ZlS (pv 0)) (fun _ _ _ _=>(Zdj (K:=K) (n:=2) rfl rfl (Zv (Zn (i:=0) (show List.Nodup (["name","expr"]:List Str) by decide) rfl (Or.inl rfl)) (Zv (Zn (i:=1) (show List.Nodup (["name","expr"]:List Str) by decide) rfl (Or.inl rfl)) ZaG)))) (fun _ _ _ _=>(ZK ZL (ZK ZL (pv 0) Zj) (ZQ g_shown_expr hr rfl (Za (pv 1) Zd)))) rfl rfl (by decide) rfl (by decide) (fun _ _ h=>nomatch h) (Zc1 (by decide)) (fun _ _ h=>nomatch h) (fun _=>rfl)) Zd)))),?_⟩
 have hlen:ws.length=bk.length:=Paired.length hB;have hsum:=Zf8 h1;refine⟨rfl,?_⟩;rcases hS with hS|hS
 ·refine .inl ⟨_,rfl,p,rfl,⟨ws,hS⟩,fun pl hpl=>ZbJ (K:=K) (a:=p) (p:=pl) (xs:=ws) (fun i ys σ H2=>∃v0 v1:Option V,σ =[v0,v1]/\Zk H H2/\H2 pl=some (.lst ys)/\ys=((bk.map prT).take i).map V.str)
   ⟨none,none,rfl,Zk.new hpl,Zb,rfl⟩ ?_ ?_ ?_⟩
  ·rintro i ys σ H2 _ ⟨v0,v1,_,sm,hp2,_⟩;exact⟨sm.seq hS,hp2⟩
  ·rintro i ys x σ H2 hi hx ⟨v0,v1,rfl,sm,hp2,rfl⟩;obtain⟨x,hx1,pp,qq,rfl,e1,e2⟩:=Z7 hB hx;obtain⟨b1,b2,b3,b4⟩:=h1 x (List.mem_of_getElem? hx1);have htl:=Zbw x.2 b4;refine⟨pp,_,rfl,SqT.of (sm _ _ e1),rfl,_,_,rfl,_,_,rfl,rfl,?_⟩;refine⟨_,rfl,_,_,rfl,rfl,Zx (by show _+3<=_;lia),?_⟩;refine⟨_,rfl,qq,x.2,rfl,e2.mono (TF.same sm),b2,b3,b4,fun H3 s3=>?_⟩;refine⟨_,_,rfl,rfl,?_,s3 _ _ hp2,ZR (by rw[List.length_map,List.length_take,List.length_map];lia),CW.next hi ⟨_,_,rfl,(sm.trans s3).upd_new hpl,Zb,?_⟩⟩
   ·have:(x.1 ++ " = " ++ tx x.2).length<=4020:=ZfQ (h1 x (List.mem_of_getElem? hx1));rw[Zy] at this;exact Nat.le_trans this (by decide)
   ·obtain⟨hi1,hi2⟩:=List.getElem?_eq_some_iff.mp hx1;rw[List.take_succ_eq_append_getElem (by rw[List.length_map];exact hi1),List.map_append,List.getElem_map,hi2];rfl
  ·rintro ys σ H2 ⟨v0,v1,_,sm,hp2,rfl⟩;rw[hlen,show bk.length=(bk.map prT).length by rw[List.length_map],List.take_length] at hp2;refine⟨"; ",pl,bk.map prT,rfl,rfl,SqL.of hp2,?_,q H2 sm⟩;rw[List.length_map];show _+_*2<=_;lia
 ·refine .inr ⟨_,rfl,p,rfl,⟨ws,hS⟩,fun pl hpl=>ZcR (K:=K) (a:=p) (p:=pl) (xs:=ws) (fun i ys σ H2=>∃v0 v1:Option V,σ =[v0,v1]/\Zk H H2/\H2 pl=some (.lst ys)/\ys=((bk.map prT).take i).map V.str)
   ⟨none,none,rfl,Zk.new hpl,Zb,rfl⟩ ?_ ?_ ?_⟩
  ·rintro i ys σ H2 _ ⟨v0,v1,_,sm,hp2,_⟩;exact⟨TF.same sm _ _ hS,hp2⟩
  ·rintro i ys x σ H2 hi hx ⟨v0,v1,rfl,sm,hp2,rfl⟩;obtain⟨x,hx1,pp,qq,rfl,e1,e2⟩:=Z7 hB hx;obtain⟨b1,b2,b3,b4⟩:=h1 x (List.mem_of_getElem? hx1);have htl:=Zbw x.2 b4;refine⟨pp,_,rfl,SqT.of (sm _ _ e1),rfl,_,_,rfl,_,_,rfl,rfl,?_⟩;refine⟨_,rfl,_,_,rfl,rfl,Zx (by show _+3<=_;lia),?_⟩;refine⟨_,rfl,qq,x.2,rfl,e2.mono (TF.same sm),b2,b3,b4,fun H3 s3=>?_⟩;refine⟨_,_,rfl,rfl,?_,s3 _ _ hp2,ZR (by rw[List.length_map,List.length_take,List.length_map];lia),CW.next hi ⟨_,_,rfl,(sm.trans s3).upd_new hpl,Zb,?_⟩⟩
   ·have:(x.1 ++ " = " ++ tx x.2).length<=4020:=ZfQ (h1 x (List.mem_of_getElem? hx1));rw[Zy] at this;exact Nat.le_trans this (by decide)
   ·obtain⟨hi1,hi2⟩:=List.getElem?_eq_some_iff.mp hx1;rw[List.take_succ_eq_append_getElem (by rw[List.length_map];exact hi1),List.map_append,List.getElem_map,hi2];rfl
  ·rintro ys σ H2 ⟨v0,v1,_,sm,hp2,rfl⟩;rw[hlen,show bk.length=(bk.map prT).length by rw[List.length_map],List.take_length] at hp2;refine⟨"; ",pl,bk.map prT,rfl,rfl,SqL.of hp2,?_,q H2 sm⟩;rw[List.length_map];show _+_*2<=_;lia
theorem Zfl{ns:List Str}{k:Str}:Zct (ns.map fun n=>((Sum.inr n:Key),V.bl true)) (.inr k)=none↔k∉ns:=by
 induction ns with
 | nil=>exact⟨fun _ h=>(nomatch h),fun _=>rfl⟩
 | cons a r ih =>
  rw[List.map_cons];by_cases e:a=k
  ·rw[ZaR (by rw[e])];exact⟨fun h=>(nomatch h),fun h=>absurd (by rw[e];exact List.mem_cons_self ..) h⟩
  ·rw[ZaO (fun z=>e (Sum.inr.inj z)),ih,List.mem_cons];exact⟨fun h z=>z.elim (fun z=>e z.symm) h,fun h z=>h (.inr z)⟩
theorem putAll_has{bk:List (Str×Ex)}{f:Str×Ex->V}{k:Str}(h:k∈bk.map (·.1)){kvs:List (Key×V)}(e:kvs.map (·.1)=bk.map fun x=>(Sum.inr x.1:Key)):(Zct (putAll kvs) (.inr k)).isSome=true:=by
 unfold putAll;rw[ZbM,Bool.or_eq_true];refine .inr (List.any_eq_true.mpr ?_);obtain⟨x,hx,rfl⟩:=List.mem_map.mp h;have:(Sum.inr x.1:Key)∈kvs.map (·.1):=by rw[e];exact List.mem_map.mpr ⟨x,hx,rfl⟩
 obtain⟨kv,h1,h2⟩:=List.mem_map.mp this;exact⟨kv,h1,decide_eq_true h2⟩
theorem BkR.kvs{K:PySem.W.Frag}{H:Hp}:∀{ws:List V}{bk:List (Str×Ex)},BkR K H ws bk->∃kvs:List (Key×V),kvs.map (·.1)=(bk.map fun x=>(Sum.inr x.1:Key))/\Paired (fun(y:V)(kv:Key×V)=>∃t,y=.ref t/\H t=some (.tup [kV kv.1,kv.2])) ws kvs
 | _,_,.nil=>⟨[],rfl,.nil⟩
 | _,_,.cons (b:=x) h r=>by
  obtain⟨kvs,h1,h2⟩:=BkR.kvs r;obtain⟨p,q,rfl,e1,_⟩:=h;exact⟨(.inr x.1,.ref q)::kvs,by rw[List.map_cons,h1];rfl,.cons ⟨p,rfl,e1⟩ h2⟩
theorem Zbf(l:List Str):(l.map V.str).all Zea=true:=by
 induction l with
 | nil=>rfl
 | cons x l ih=>rw[List.map_cons,List.all_cons,ih];rfl
theorem ZiJ{X:Cx}{K:PySem.W.Frag}(h:X.K=K)(hc:X.calm=true):Zbq X (.builtin "any") (fun xs H Q=>∃(p:Addr)(bs:List Bool),xs=[.ref p]/\SqL K H p (bs.map V.bl)/\Q (.bl (bs.any id)) H):=by
 subst h;exact ZgK hc
theorem Zg3{X:Cx}{K:PySem.W.Frag}{tg l:Expr}{tl:TE}(h:X.K=K)(hl:PE X l tl):PI X tg l (Zki K tl):=by
 subst h;exact ZaS hl
def ZhP(us:Str->List Str)(ns:List Str):List Str:=ns.filter fun n=>(us n).any fun m=>ns.contains m
def UsR(H:Hp)(d:Addr)(ns:List Str)(us:Str->List Str):Prop := ∃kvs:List (Key×V),H d=some (.dK kvs)/\∀n∈ns,∃b,Zct kvs (.inr n)=some (.ref b)/\H b=some (.lst ((us n).map V.str))/\(us n).length<=1000
theorem UsR.same{H H':Hp}{d:Addr}{ns:List Str}{us:Str->List Str}(s:Zk H H')(h:UsR H d ns us):UsR H' d ns us:=by
 obtain⟨kvs,h1,h2⟩:=h;refine⟨kvs,s _ _ h1,fun n hn=>?_⟩;obtain⟨b,e1,e2,e3⟩:=h2 n hn;exact⟨b,e1,s _ _ e2,e3⟩
theorem UsR.less{H:Hp}{d:Addr}{ns ms:List Str}{us:Str->List Str}(k:∀n∈ms,n∈ns)(h:UsR H d ns us):UsR H d ms us:=by
 obtain⟨kvs,h1,h2⟩:=h;exact⟨kvs,h1,fun n hn=>h2 n (k n hn)⟩
def ZkS(K:PySem.W.Frag):Sp:=fun vs H Q _=>∃d l ns us,vs=[.ref d,.ref l]/\UsR H d ns us/\SqL K H l (ns.map V.str)/\ns.length<=100/\∀l' H',Zk H H'->H' l'=some (.lst ((ZhP us ns).map V.str))->Q (.ref l') H'
theorem ZbV{α : Type}{g : α -> Bool}{l:List α}{i:Nat}{a : α}(h:l[i]?= some a):(l.take (i+1)).filter g=(l.take i).filter g++(if g a=true then [a] else []):=by
 obtain⟨hi,he⟩:=List.getElem?_eq_some_iff.mp h;rw[List.take_succ_eq_append_getElem hi,List.filter_append,he]
 congr 1
 rw[List.filter_cons,List.filter_nil]
set_option maxHeartbeats 2000000 in
theorem Zdd(B:∀x∈Zbv,mg x=none)(F:Fun K "ring_or_before" "ring_or_before" Zag f fd):FnOk P w K mg base CX0 1 f fd ["uses","names"] (ZkS K):=by
 refine F.ok Zde (fun vs H Q E h=>?_) (fun cdv A outer s H vs Q E hr h=>?_)
 ·obtain⟨d,l,ns,us,rfl,_⟩:=h;rfl
 obtain⟨d,l,ns,us,rfl,hU,hS,hn,q⟩:=h;have hu1:(A.deeper (PyProof.Rows.envOfC (Str.ofString "ring_or_before") (Zg Zag) s.heap.objs.size f cdv)).units+1<cLine:=by have:=hr.un;lia
 refine⟨_,(Zf (Zr (Zci (cl:=_) ["name"] [("uses",0),("names",1)] (ZaS (pv 1)) (fun _ _ _ _=>(Zn (i:=0) (show List.Nodup (["name","uses","names"]:List Str) by decide) rfl (Or.inl rfl))) (fun _ _ _ _=>(ZhC (K:=K) rfl (Zu (K24.ZiJ (K:=K) rfl rfl) rfl (B "any" (by decide)) Zj9 (Za (ZbS (cl:=_) ["used"] [("names",2)] (K24.Zg3 (K:=K) rfl (Zet hu1 (pv 1) (pv 0) (fun _ _=>rfl))) (fun _ _ _ _=>(Zn (i:=0) (show List.Nodup (["used","names"]:List Str) by decide) rfl (Or.inl rfl))) (fun _ _ _ _=>(Zcx (Zdi (K:=K) rfl) (pv 0) (pv 1) (by with_unfolding_all rfl))) rfl rfl (by decide) rfl (by decide) (Zcv (by(repeat' first|exact List.forall_mem_nil _|refine List.forall_mem_cons.mpr ⟨?_,?_⟩) <;> rfl)) (Zbz (by(repeat' first|exact List.forall_mem_nil _|refine List.forall_mem_cons.mpr ⟨?_,?_⟩) <;> first|(intro h;exact⟨_,rfl⟩)|(intro h;exact absurd h (by decide)))) (fun _=>by(repeat' first|exact List.forall_mem_nil _|refine List.forall_mem_cons.mpr ⟨?_,?_⟩) <;> exact⟨rfl,rfl,Or.inl rfl⟩) (fun _=>rfl)) Zd)) (fun _=>rfl))) (fun _ _ _ _=>(pv 0)) rfl rfl (by decide) rfl (by decide) (Zcv (by(repeat' first|exact List.forall_mem_nil _|refine List.forall_mem_cons.mpr ⟨?_,?_⟩) <;> rfl)) (Zbz (by(repeat' first|exact List.forall_mem_nil _|refine List.forall_mem_cons.mpr ⟨?_,?_⟩) <;> first|(intro h;exact⟨_,rfl⟩)|(intro h;exact absurd h (by decide)))) (fun _=>by(repeat' first|exact List.forall_mem_nil _|refine List.forall_mem_cons.mpr ⟨?_,?_⟩) <;> exact⟨rfl,rfl,Or.inl rfl⟩) (fun _=>rfl)))),?_⟩
 refine⟨_,rfl,l,rfl,⟨_,hS⟩,fun pl hpl=>Zcm (K:=K) (a:=l) (p:=pl) (xs:=ns.map V.str) (fun i ys σ H2=>∃v0:Option V,σ =[v0,some (.ref d),some (.ref l)]/\Zk H H2/\H2 pl=some (.lst ys)/\ys=((ns.take i).filter fun n=>(us n).any fun m=>ns.contains m).map V.str)
  ⟨none,rfl,Zk.new hpl,Zb,rfl⟩ ?_ ?_ ?_⟩
 ·rintro i ys σ H2 _ ⟨v0,_,sm,hp2,_⟩;exact⟨sm.seq hS,hp2⟩
 ·rintro i ys x σ H2 hi hx ⟨v0,rfl,sm,hp2,rfl⟩;rw[List.getElem?_map] at hx;obtain⟨n,hx1,rfl⟩:=Option.map_eq_some_iff.mp hx;obtain⟨kvs,h1,h2⟩:=hU.same sm;obtain⟨b,e1,e2,e3⟩:=h2 n (List.mem_of_getElem? hx1);refine⟨_,rfl,_,rfl,d,.ref b,rfl,by rw[<- e1];exact ZfF.k (k:=.inr n) h1,b,rfl,⟨_,SqL.of e2⟩,fun p2 hp2n=>ZbJ (K:=K) (a:=b) (p:=p2) (xs:=(us n).map V.str) (fun j ys σ H3=>∃v0:Option V,σ =[v0,some (.ref l)]/\Zk H2 H3/\H3 p2=some (.lst ys)/\ys=(((us n).take j).map fun m=>ns.contains m).map V.bl)
   ⟨none,rfl,Zk.new hp2n,Zb,rfl⟩ ?_ ?_ ?_⟩
  ·rintro j ys σ H3 _ ⟨v0,_,sm3,hp3,_⟩;exact⟨SqL.of (sm3 _ _ e2),hp3⟩
  ·rintro j ys x σ H3 hj hx ⟨v0,rfl,sm3,hp3,rfl⟩;rw[List.getElem?_map] at hx;obtain⟨m,hm1,rfl⟩:=Option.map_eq_some_iff.mp hx;refine⟨_,rfl,_,rfl,l,_,rfl,.inl ((sm.trans sm3).seq hS),rfl,Zbf ns,hp3,ZR (by rw[List.length_map,List.length_map,List.length_take];lia),CW.next hj ⟨_,rfl,sm3.upd_new hp2n,Zb,?_⟩⟩
   obtain⟨hm2,hm3⟩:=List.getElem?_eq_some_iff.mp hm1;rw[List.take_succ_eq_append_getElem hm2,hm3,List.map_append,List.map_append];show _ ++ [V.bl (inV (.str m) (ns.map V.str))]=_;rw[ZbA];rfl
  ·rintro ys σ H3 ⟨v0,_,sm3,hp3,rfl⟩;rw[List.length_map,List.take_length] at hp3;refine⟨p2,_,rfl,SqL.of hp3,_,rfl,?_⟩;have eb:((us n).map fun m=>ns.contains m).any id=(us n).any fun m=>ns.contains m:=by rw[List.any_map];rfl
   rw[eb];have fx:=ZbV (g:=fun n=>(us n).any fun m=>ns.contains m) hx1;refine Zaz (fun z=>?_) (fun z=>?_)
   ·rw[if_pos z] at fx;refine⟨_,rfl,sm3 _ _ hp2,ZR ?_,CW.next hi ⟨_,rfl,(sm.trans sm3).upd_new hpl,Zb,?_⟩⟩
    ·rw[List.length_map];have:=List.length_filter_le (fun n=>(us n).any fun m=>ns.contains m) (ns.take i);rw[List.length_take] at this;lia
    ·rw[fx,List.map_append];rfl
   ·rw[if_neg z,List.append_nil] at fx;exact CW.next hi ⟨_,rfl,sm.trans sm3,sm3 _ _ hp2,by rw[fx]⟩
 ·rintro ys σ H2 ⟨v0,_,sm,hp2,rfl⟩;rw[List.length_map,List.take_length] at hp2;exact q pl H2 sm hp2
theorem Zfn:∀(kvs m:List (Key×V)),((m++kvs).map (·.1)).Nodup->kvs.foldl (fun m kv=>putK m kv.1 kv.2) m=m++kvs
 | [],m,_=>(List.append_nil m).symm
 | kv::kvs,m,h=>by
  have h1:Zct m kv.1=none:=by
   rw[<- Option.not_isSome_iff_eq_none,<- ZbU,List.any_eq_true];rintro⟨x,hx,e⟩;have e':=of_decide_eq_true e;rw[List.map_append,List.nodup_append] at h;exact h.2.2 x.1 (List.mem_map.mpr ⟨x,hx,rfl⟩) kv.1 (by rw[List.map_cons];exact List.mem_cons_self ..) e'
  rw[List.foldl_cons,ZeY _ h1,Zfn kvs (m ++ [(kv.1,kv.2)]) (by rw[List.append_assoc];exact h),List.append_assoc];rfl
def usB(bk:List (Str×Ex))(n:Str):List Str:=((bk.find? fun x=>decide (x.1=n)).map fun x=>nm false x.2).getD []
theorem Zfu:∀{bk:List (Str×Ex)}{x:Str×Ex},(bk.map (·.1)).Nodup->x∈bk->usB bk x.1=nm false x.2
 | a::bk,x,hn,hx=>by
  rw[List.map_cons,List.nodup_cons] at hn;unfold usB;rw[List.find?_cons];by_cases e:a.1=x.1
  ·rw[decide_eq_true e];rcases List.mem_cons.mp hx with rfl|hx
   ·rfl
   ·exact absurd (List.mem_map.mpr ⟨x,hx,e.symm⟩) hn.1
  ·rw[decide_eq_false e];rcases List.mem_cons.mp hx with rfl|hx
   ·exact absurd rfl e
   ·exact Zfu hn.2 hx
def KvU(pl:Addr)(H:Hp)(kv:Key×V)(x:Str×Ex):Prop:=kv.1=.inr x.1/\∃b,b≠pl/\kv.2=.ref b/\H b=some (.lst ((nm false x.2).map V.str))
theorem Zgp{pl:Addr}{H:Hp}:∀{kvs:List (Key×V)}{bk:List (Str×Ex)}{x:Str×Ex},Paired (KvU pl H) kvs bk->(bk.map (·.1)).Nodup->x∈bk->∃b,Zct kvs (.inr x.1)=some (.ref b)/\H b=some (.lst ((nm false x.2).map V.str))
 | _,_,_,.nil,_,h=>nomatch h
 | _,_,x,.cons (b:=y) h r,hn,hx=>by
  rw[List.map_cons,List.nodup_cons] at hn;obtain⟨h1,b,_,h2,h3⟩:=h;rcases List.mem_cons.mp hx with rfl|hx
  ·exact⟨b,by rw[ZaR h1,h2],h3⟩
  ·obtain⟨c,h4,h5⟩:=Zgp r hn.2 hx;refine⟨c,?_,h5⟩;rw[ZaO,h4];rw[h1];intro z;exact hn.1 (List.mem_map.mpr ⟨x,hx,(Sum.inr.inj z).symm⟩)
theorem ZeK{pl:Addr}{H:Hp}:∀{kvs:List (Key×V)}{bk:List (Str×Ex)},Paired (KvU pl H) kvs bk->kvs.map (·.1)=(bk.map (·.1)).map fun n=>(Sum.inr n:Key)
 | _,_,.nil=>rfl
 | _,_,.cons h r=>by
  rw[List.map_cons,List.map_cons,List.map_cons,ZeK r,h.1]
theorem ZlX{a:Addr}{H H0 H':Hp}(s:Zk H H0)(ha:H a=none)(b:Za6 a H0 H'):Zk H H':=fun x o h=>b x o (fun z=>by rw[z,ha] at h;cases h) (s x o h)
theorem TK.bar{a C dx:Addr}{fs:List (Str×V)}{H H':Hp}(b:Za6 a H H')(ha:H a=some (.ins C dx fs)):TK H H':=fun p xs h=>b p _ (fun z=>by rw[z,ha] at h;cases h) h
theorem BkR.snoc{K:PySem.W.Frag}{H:Hp}{vs:List V}{bk:List (Str×Ex)}{v:V}{x:Str×Ex}(h:BkR K H vs bk)(k:BkP K H v x):BkR K H (vs ++ [v]) (bk ++ [x]):=Paired.app h (.cons k .nil)
def Bk2(x:Str×Ex):Prop:=Upr x.1/\wfE x.2/\dp x.2<12
def Zf0(K:PySem.W.Frag):Sp:=fun vs H Q _=>∃T bk,vs=[.str T]/\T=bkT bk/\T.length<=400/\1<=bk.length/\bk.length<=8/\(∀x∈bk,Bk1 x/\Bk2 x)/\∀l o ws H',Zk H H'->H' l=some (.frz o (.tup ws))->o.dict=none->BkR K H' ws bk->Q (.ref l) H'
theorem ZhZ(td:List (Str×Ex)):fE (td.flatMap fun y=>[59,32]++ZcJ y.1 y.2):=by
 cases td with
 | nil=>exact .inl rfl
 | cons x r=>exact .inr ⟨59,_,rfl,.inl rfl⟩
def RdW(K:PySem.W.Frag)(C a dx pl:Addr)(T:Str)(bk:List (Str×Ex))(H0:Hp)(m:Nat)(σ : St)(H2:Hp):Prop := ∃(dn td:List (Str×Ex))(vs:List V)(m2:Nat),m=td.length/\bk=dn++td /\ σ =[some (.str T),some (.ref a),some (.ref pl)]/\Za6 a H0 H2/\ZbX C H2 a dx T m2/\m2<=T.length/\rsT T m2=(td.flatMap fun y=>[59,32]++ZcJ y.1 y.2)/\H2 pl=some (.lst vs)/\BkR K H2 vs dn
set_option maxHeartbeats 2000000 in
theorem ZeC(B:∀x∈Zbv,mg x=none)(Cc1:∃t:Tok,mg "MOST_SIGNS" = some (.int 400 t)) (Cc2:∃t:Tok,mg "MOST_PAIRS" = some (.int 8 t)) (Cc3:∃t:Tok,mg "DEEPEST" = some (.int 12 t)) (c_Source:SrC K C) (g_Source:HasC P w K mg base C "Source" ["self","text"] 1 (Zgh C)) (g_take_pair:Has P w K mg base "take_pair" ["source"] 65 (Zh3 K C)) (g_Source_skips:HasM P w K mg base C "skips" ["self","piece"] 2 (ZbP C)) (g_shown:Has P w K mg base "shown" ["book"] 28 (ZfX K)) (g_Source_at_end:HasM P w K mg base C "at_end" ["self"] 1 (ZgZ C)) (g_depth_of:Has P w K mg base "depth_of" ["expr"] 14 (Zjf K 13)) (F:Fun K "read_pairs" "read_pairs" Za2 f fd):FnOk P w K mg base CX0 66 f fd ["text"] (Zf0 K):=by
 refine F.ok ZbQ (fun vs H Q E h=>?_) (fun cdv A outer s H vs Q E hr h=>?_)
 ·obtain⟨T,bk,rfl,_⟩:=h;rfl
 obtain⟨T,bk,rfl,eT,hT,hb1,hb8,hbk,q⟩:=h;obtain⟨t1,c_MOST_SIGNS⟩:=Cc1;obtain⟨t2,c_MOST_PAIRS⟩:=Cc2;obtain⟨t3,c_DEEPEST⟩:=Cc3;refine⟨_,(Zc (Z2 (Zo Zhk (Zu Za0 rfl (B "len" (by decide)) PySem.boot_len (Za (pv 0) Zd)) (Z9 (v:=.int 400) rfl c_MOST_SIGNS ⟨_,rfl⟩) (ZG _))
   (Zf Zbs)
   Zq)
  (Zc (Zt (i:=1) ZbQ.nd rfl (Or.inl rfl) (Zko g_Source hr rfl (Za (pv 0) Zd)))
  (Zc (Zt (i:=2) ZbQ.nd rfl (Or.inl rfl) (ZaA (Za (ZQ g_take_pair hr rfl (Za (pv 1) Zd)) Zd)))
  (Zc (Zcl PassesOwn.never (Z1 (Zah g_Source_skips hr (pv 1) c_Source.cls (Za Zj Zd)) (fun _=>rfl))
   (Zf (ZaH (Zb0 PySem.F.plainAttrs_list PySem.F.slot_list_append PySem.F.type_list_append Za3 (pv 2) (Za (ZQ g_take_pair hr rfl (Za (pv 1) Zd)) Zd)))))
  (Zc (Z2 (PW.pt (ZeU (Zbu (Z1 (Zdv g_Source_at_end hr (pv 1) c_Source.cls) (fun _=>rfl))) (Zdy (Zo Zi9 (ZQ g_shown hr rfl (Za (pv 2) Zd)) (pv 0) (ZG _)))))
   (Zf Zbs)
   Zq)
  (Zc (Z2 (Zo Zhk (Zu ZD rfl (B "len" (by decide)) PySem.boot_len (Za (pv 2) Zd)) (Z9 (v:=.int 8) rfl c_MOST_PAIRS ⟨_,rfl⟩) (ZG _))
   (Zf Zbs)
   Zq)
  (Zc (Z2 (Z1 (Zu (ZgK rfl) rfl (B "any" (by decide)) Zj9 (Za (ZbS (cl:=[]) ["name","expr"] [] (ZaS (pv 2)) (fun _ _ _ _=>(Zdj (K:=K) (n:=2) rfl rfl (Zv (Zn (i:=0) (show List.Nodup (["name","expr"]:List Str) by decide) rfl (Or.inl rfl)) (Zv (Zn (i:=1) (show List.Nodup (["name","expr"]:List Str) by decide) rfl (Or.inl rfl)) ZaG)))) (fun _ _ _ _=>(Zcx Zhk (ZQ g_depth_of hr rfl (Za (pv 1) Zd)) (Z9 (v:=.int 12) rfl c_DEEPEST ⟨_,rfl⟩) (ZG _))) rfl rfl (by decide) rfl (by decide) (fun _ _ h=>nomatch h) (Zc1 (by decide)) (fun _ _ h=>nomatch h) (fun _=>rfl)) Zd)) (fun _=>rfl))
   (Zf Zbs)
   Zq)
  (Zf (Zr (Zam Zd9 rfl (B "tuple" (by decide)) ZcX (Za (pv 2) Zd))))))))))),?_⟩
 obtain⟨x0,r0,rfl⟩:∃x r,bk=x::r:=by
  cases bk with
  | nil=>exact absurd hb1 (by decide)
  | cons x r=>exact⟨x,r,rfl⟩
 have hk1:∀x∈x0::r0,Bk1 x:=fun x hx=>(hbk x hx).1;have ecs:rsT T 0=ZcJ x0.1 x0.2++r0.flatMap fun y=>[59,32]++ZcJ y.1 y.2:=by
  show cs T=_;rw[eT,ZjN]
 refine⟨_,rfl,T,rfl,Zx (by lia),_,_,rfl,rfl,_,rfl,Zaz (fun z=>absurd (of_decide_eq_true z) (by lia)) (fun _=>?_)⟩;refine⟨_,rfl,fun a dx ha hdx hne=>⟨a,dx,T,rfl,Zb,fun H1 b1 h1=>⟨rfl,?_⟩⟩⟩;have s0:Zk H (upd (upd H dx (.own a)) a (.ins C dx [])):=making ha hdx hne;generalize upd (upd H dx (.own a)) a (.ins C dx [])=H0 at s0 b1 ⊢;obtain⟨⟨c1,c2,c3,c4⟩,c5,c6,c7⟩:=hbk x0 (List.mem_cons_self ..);obtain⟨e2,n2⟩:=Zav ecs (Nat.zero_le _);refine⟨_,rfl,a,dx,T,0,x0.1,x0.2,_,rfl,h1,Nat.zero_le _,hT,ecs,c5,c1,c6,c7,ZhZ r0,fun pp qq H2 b2 h2 ep rp=>⟨(by show(1:Nat)<=sizeLine;decide),fun pl hpl=>?_⟩⟩;have npa:pl≠a:=fun z=>by rw[z,show H2 a=some _ from h2] at hpl;cases hpl
 have s3:Zk H2 (upd H2 pl (.lst [.ref pp])):=Zk.new hpl;have b02:=b1.trans b2;refine⟨RdW K C a dx pl T (x0::r0) H0,⟨_,[x0],r0,[.ref pp],_,rfl,rfl,rfl,b02.trans (Za6.same s3),s3 _ _ h2,n2,e2,Zb,.cons ⟨pp,qq,rfl,s3 _ _ ep,rp.mono (TF.same s3)⟩ .nil⟩,?_⟩;rintro m σ H3 ⟨dn,td,vs,m2,rfl,hdt,rfl,b3,h3,hm2,er3,hv,hB⟩;refine⟨_,rfl,a,dx,_,rfl,h3,rfl,a,dx,T,m2,"; ",rfl,h3,hm2,(by decide),fun z=>?_,fun z H4 b4 h4=>?_⟩
 ·have htd:td=[]:=by
   cases td with
   | nil=>rfl
   | cons x r=>exact absurd ⟨_,by rw[er3];rfl⟩ z
  subst htd;rw[List.append_nil] at hdt;subst hdt;refine⟨_,rfl,ZbD ?_⟩;have hend:m2=T.length:=by
   have:=congrArg List.length er3;unfold rsT at this;rw[List.length_drop,show(cs T).length=T.length from Array.length_toList] at this;have:T.length-m2=0:=this;lia
  refine⟨_,rfl,a,dx,_,rfl,h3,rfl,a,dx,T,m2,rfl,h3,by lia,_,rfl,?_⟩;rw[decide_eq_true hend];refine ZbD ?_;refine⟨_,rfl,pl,vs,x0::r0,rfl,.inl (SqL.of hv),hB,by lia,hk1,fun H4 s4=>?_⟩;refine⟨_,rfl,rfl,_,rfl,Zaz (fun z=>absurd z (by rw[eT];simp)) (fun _=>?_)⟩;have hvl:vs.length=(x0::r0).length:=Paired.length hB;refine⟨_,rfl,pl,_,rfl,.inl (SqL.of (s4 _ _ hv)),_,_,rfl,rfl,_,rfl,Zaz (fun z=>absurd (of_decide_eq_true z) (by lia)) (fun _=>?_)⟩;refine⟨_,rfl,pl,rfl,⟨vs,SqL.of (s4 _ _ hv)⟩,fun p5 hp5=>ZbJ (K:=K) (a:=pl) (p:=p5) (xs:=vs) (fun i ys σ H5=>∃v0 v1:Option V,σ =[v0,v1]/\Zk H4 H5/\H5 p5=some (.lst ys)/\ys=(List.replicate i false).map V.bl)
   ⟨none,none,rfl,Zk.new hp5,Zb,rfl⟩ ?_ ?_ ?_⟩
  ·rintro i ys σ H5 _ ⟨v0,v1,_,sm,hp5',_⟩;exact⟨SqL.of (sm _ _ (s4 _ _ hv)),hp5'⟩
  ·rintro i ys x σ H5 hi hx ⟨v0,v1,rfl,sm,hp5',rfl⟩;obtain⟨x,hx1,p6,q6,rfl,e1,e2⟩:=Z7 hB hx;obtain⟨⟨b1,b2,b3,b4⟩,_,_,b7⟩:=hbk x (List.mem_of_getElem? hx1);have s5:=s4.trans sm;refine⟨p6,_,rfl,SqT.of (s5 _ _ e1),rfl,_,_,rfl,_,_,rfl,rfl,?_⟩;refine⟨_,rfl,q6,x.2,rfl,e2.mono (TF.same s5),b2,b3,fun n H6 s6 hn=>?_⟩;refine⟨_,_,rfl,rfl,s6 _ _ hp5',ZR (by rw[List.length_map,List.length_replicate];lia),CW.next hi ⟨_,_,rfl,(sm.trans s6).upd_new hp5,Zb,?_⟩⟩
   rw[List.replicate_succ',List.map_append];have:decide (n > 12)=false:=decide_eq_false (by lia);show _ ++ [V.bl (decide (n > 12))]=_;rw[this];rfl
  ·rintro ys σ H5 ⟨v0,v1,_,sm,hp5',rfl⟩;refine⟨p5,_,rfl,SqL.of hp5',_,rfl,?_⟩;have:(List.replicate vs.length false).any id=false:=by
    rw[List.any_eq_false];intro x hx;rw[(List.mem_replicate.mp hx).2]
    decide
   rw[this];refine ZbD ?_;have s5:=s4.trans sm;refine⟨_,rfl,pl,vs,rfl,SqL.of (s5 _ _ hv),fun l o hl ho1 ho2=>?_⟩;have s6:Zk H5 (upd H5 l (.frz o (.tup vs))):=Zk.new hl;exact q l o vs _ ((ZlX s0 ha b3).trans (s5.trans s6)) Zb ho2 (hB.same (s5.trans s6))
 ·refine⟨_,rfl,Zcz ⟨fun σ' H'=>∃m',m'<td.length/\RdW K C a dx pl T (x0::r0) H0 m' σ' H',fun _ _ h=>h,?_⟩⟩;cases td with
  | nil =>
   obtain⟨y,z⟩:=z;rw[er3] at z;exact nomatch z
  | cons x td =>
   have h4:ZbX C H4 a dx T (m2+2):=h4;have hxm:x∈x0::r0:=by rw[hdt];exact List.mem_append.mpr (.inr (List.mem_cons_self ..))
   have er4:rsT T m2=[59,32]++(ZcJ x.1 x.2++td.flatMap fun y=>[59,32]++ZcJ y.1 y.2):=by
    rw[er3,List.flatMap_cons,List.append_assoc]
   obtain⟨e5,n5⟩:=Zav er4 hm2;obtain⟨e6,n6⟩:=Zav e5 n5;obtain⟨⟨c1,c2,c3,c4⟩,c5,c6,c7⟩:=hbk x hxm;have hv4:H4 pl=some (.lst vs):=b4 pl _ npa hv;have hvl:vs.length=dn.length:=Paired.length hB;have hdl:=congrArg List.length hdt;rw[List.length_append] at hdl;refine⟨_,rfl,.inl ⟨rfl,_,SqL.of hv4⟩,_,rfl,a,dx,T,m2+2,x.1,x.2,_,rfl,h4,n5,hT,e5,c5,c1,c6,c7,ZhZ td,fun p7 q7 H7 b7 h7 ep7 rp7=>?_⟩;have hv7:H7 pl=some (.lst vs):=b7 pl _ npa hv4;refine⟨pl,vs,_,rfl,rfl,hv7,ZR (by lia),?_⟩;have b47:=b4.trans b7;refine⟨_,by rw[List.length_cons];exact Nat.lt_succ_self _,dn ++ [x],td,_,_,rfl,by rw[hdt];simp,rfl,Za6.new b02 hpl npa (b3.trans b47),?_,n6,e6,Zb,?_⟩
   ·show upd H7 pl _ a=_;rw[Zi npa.symm];exact h7
   ·have tk:=TK.lst (o:=.lst (vs ++ [.ref p7])) hv7;have tf:=TF.lst (K:=K) (ws:=vs ++ [.ref p7]) hv7;exact BkR.snoc (hB.keep ((TK.bar b47 h3).trans tk) ((TF.bar b47 h3).trans tf)) ⟨p7,q7,rfl,tk _ _ ep7,rp7.mono tf⟩
theorem SqL.off{K:PySem.W.Frag}{H:Hp}{a b:Addr}{xs:List V}{o:HO}(h:SqL K H a xs)(n:a≠b\/∀H',SqL K H' a xs):SqL K (upd H b o) a xs:=by
 rcases n with n|n;rotate_left
 ·exact n _
 rcases h with(h|⟨o',h⟩)|h
 ·exact .inl (.inl (by rw[Zi n];exact h))
 ·exact .inl (.inr ⟨o',by rw[Zi n];exact h⟩)
 ·exact .inr h
structure St20(K:PySem.W.Frag)(H:Hp)(a:Addr)(ns:List Int)(st:Addr)(i lf:Int):Prop where
 scr:SqL K H a (ns.map V.int)
 l63:ns.length<=63
 ne:a≠st\/∀H',SqL K H' a (ns.map V.int)
 at_:H st=some (.lst [.int i,.int lf])
 i0 : -1<=i
 l0:0<=lf
def But(st:Addr)(H H':Hp):Prop := ∀b o,b≠st->H b=some o->H' b=some o
theorem But.trans{st:Addr}{H H1 H2:Hp}(x:But st H H1)(y:But st H1 H2):But st H H2:=fun b o n h=>y b o n (x b o n h)
theorem But.same{st:Addr}{H H1:Hp}(x:Zk H H1):But st H H1:=fun b o _ h=>x b o h
theorem But.up{st:Addr}{H:Hp}{o:HO}:But st H (upd H st o):=fun b o' n h=>by rw[Zi n];exact h
theorem But.tk{st:Addr}{H H':Hp}{xs:List V}(x:But st H H')(h:H st=some (.lst xs)):TK H H':=fun a ys e=>x a _ (fun z=>by rw[z,h] at e;cases e) e
theorem But.seq{K:PySem.W.Frag}{st a:Addr}{H H':Hp}{xs:List V}(x:But st H H')(n:a≠st\/∀H',SqL K H' a xs)(h:SqL K H a xs):SqL K H' a xs:=by
 rcases n with n|n;rotate_left
 ·exact n _
 rcases h with(h|⟨o',h⟩)|h
 ·exact .inl (.inl (x _ _ n h))
 ·exact .inl (.inr ⟨o',x _ _ n h⟩)
 ·exact .inr h
theorem St20.to{K:PySem.W.Frag}{H H':Hp}{a st:Addr}{ns:List Int}{i lf i' lf':Int}(s:St20 K H a ns st i lf)(x:But st H H')(h:H' st=some (.lst [.int i',.int lf']))(h0 : -1<=i')(h1:0<=lf'):St20 K H' a ns st i' lf':=⟨x.seq s.ne s.scr,s.l63,s.ne,h,h0,h1⟩
def ZgY(K:PySem.W.Frag):Sp:=fun vs H Q _=>∃(a:Addr)(ns:List Int)(st:Addr)(i lf:Int),vs=[.ref a,.ref st]/\St20 K H a ns st i lf/\∀v:Int,Q (.int v) (upd H st (.lst [.int (i+1),.int lf]))
def ZdL(H:Hp)(r p:Addr)(e:Ex):Prop:=H r=some (.tup [.ref p,.str (tx e)])/\RepE H p e/\w8 e
theorem Zi5(B:∀x∈Zbv,mg x=none)(F:Fun K "_law_next" "_law_next" Zcq f fd):FnOk P w K mg base CX0 1 f fd ["_law_script","_law_state"] (ZgY K):=by
 refine F.ok Zh0 (fun vs H Q E h=>?_) (fun cdv A outer s H vs Q E hr h=>?_)
 ·obtain⟨a,ns,st,i,lf,rfl,_⟩:=h;rfl
 obtain⟨a,ns,st,i,lf,rfl,hS,q⟩:=h;refine⟨_,(Zc (ZbY (ZK Zca (ZP Z6 (pv 1) Zh (fun _ _=>rfl)) Zh) (Zeb (pv 1) Zh set_list))
  (Zc (Z2 (Zo ZhJ (ZP Z6 (pv 1) Zh (fun _ _=>rfl)) (Zu ZD rfl (B "len" (by decide)) PySem.boot_len (Za (pv 0) Zd)) (ZG _))
   (Zf (Zr (ZP Z6 (pv 0) (ZP Z6 (pv 1) Zh (fun _ _=>rfl)) (fun _ _=>rfl))))
   Zq)
  (Zf (Zr Zh)))),?_⟩
 refine⟨_,rfl,st,_,0,_,rfl,rfl,SqL.of hS.at_,rfl,_,_,rfl,rfl,_,rfl,st,_,0,0,rfl,rfl,hS.at_,rfl,?_⟩;have e1:(upd H st (.lst ([V.int i,.int lf].set 0 (.int (i+1))))) st=some (.lst [.int (i+1),.int lf]):=Zb;have hs1:=SqL.off (o:=.lst ([V.int i,.int lf].set 0 (.int (i+1)))) hS.scr hS.ne;refine⟨_,rfl,st,_,0,_,rfl,rfl,SqL.of e1,rfl,_,rfl,a,_,rfl,.inl hs1,_,_,rfl,rfl,_,rfl,Zaz (fun z=>?_) (fun _=>?_)⟩
 ·have z':=of_decide_eq_true z;rw[List.length_map] at z';obtain⟨v,hv⟩:=ZkJ (ns:=ns) (k:=i+1) (by have:=hS.i0;lia) z';exact⟨_,rfl,_,rfl,st,_,0,_,rfl,rfl,SqL.of e1,rfl,a,_,i+1,_,rfl,rfl,hs1,hv,q v⟩
 ·exact q 0
theorem Zjr{L:Str}{k:Int}(h:L.cps.toList.length=26)(h0:0<=k)(h1:k<26):∃c,atI L.cps.toList k=some c:=by
 obtain⟨n,rfl⟩:=Int.eq_ofNat_of_zero_le h0;have hn:n<L.cps.toList.length:=by lia
 exact⟨_,Zbc (List.getElem?_eq_getElem hn)⟩
theorem Zkq{α : Type}{xs:List α}{i:Int}{v : α}(h:atI xs i=some v):v∈xs:=by
 unfold atI at h;obtain⟨j,_,h⟩:=Option.bind_eq_some_iff.mp h;exact List.mem_of_getElem? h
def Zlz:Sp:=fun vs H Q _=>∃(c:Int)(L:Str),vs=[.int c,.str L]/\L.cps.toList.length=26/\∀t:Str,1<=t.length->t.length<=8->(∀x∈cs t,x∈cs L)->Q (.str t) H
set_option maxHeartbeats 1000000 in
theorem ZiC(B:∀x∈Zbv,mg x=none)(F:Fun K "_law_word" "_law_word" Zcn f fd):FnOk P w K mg base CX0 1 f fd ["_law_cell","_law_letters"] Zlz:=by
 refine F.ok Zb9 (fun vs H Q E h=>?_) (fun cdv A outer s H vs Q E hr h=>?_)
 ·obtain⟨c,L,rfl,_⟩:=h;rfl
 obtain⟨c,L,rfl,hL,q⟩:=h;have hL2:L.length=26:=by rw[<- hL,Array.length_toList];rfl
 refine⟨_,(Zc (Zt (i:=2) Zb9.nd rfl (Or.inl rfl) Zj)
  (Zc (Za7 PassesOwn.never rfl (ZaU rfl (B "range" (by decide)) (Za (ZK Zca Zh (ZK Za9 (pv 0) Zh)) Zd)) (Zn (i:=3) Zb9.nd rfl (Or.inl rfl))
   (Zc (Zt (i:=4) Zb9.nd rfl (Or.inl rfl) (ZK Zca (ZK ZhF (ZK Zbk (ZK Zbk (pv 0) Zh) (ZK Zca (pv 3) Zh)) Zh) (ZK ZhF Zh (pv 3))))
    (Zf (Zt (i:=2) Zb9.nd rfl (Or.inl rfl) (ZK ZL (pv 2) (ZP ZgN (pv 1) (ZK Za9 (ZK Za9 (pv 4) Zh) Zh) (fun _ _=>rfl)))))))
  (Zf (Zr (pv 2))))),?_⟩
 have e1:=Int.emod_nonneg c (by decide:(8:Int)≠0);have e2:=Int.emod_lt_of_pos c (by decide:(0:Int)<8);refine⟨_,rfl,_,_,rfl,rfl,(by show(0:Int)<8;decide),_,_,rfl,rfl,_,rfl,by lia,by lia,ZbE (lo:=0) (n:=(1+c % 8).toNat) (fun i σ H1=>∃(t:Str)(v6 v7:Option V),σ =[some (.int c),some (.str L),some (.str t),v6,v7]/\H1=H/\t.length=i/\∀x∈cs t,x∈cs L)
  ⟨"",none,none,rfl,rfl,rfl,fun x h=>nomatch h⟩ ?_ ?_⟩
 ·rintro i σ H1 hi ⟨t,v6,v7,rfl,rfl,hl,hx⟩;refine⟨_,rfl,_,_,rfl,rfl,⟨by decide,by decide⟩,_,rfl,_,_,rfl,rfl,_,_,rfl,rfl,⟨by lia,by lia⟩,_,_,rfl,rfl,.inr ⟨by decide,by decide⟩,_,rfl,_,_,rfl,rfl,.inl ⟨by decide,by decide⟩,_,_,rfl,rfl,?_⟩;obtain⟨ch,hch⟩:=Zjr (L:=L) (k:=(c / 8 / (0+(i:Int)+1)*48271+31*(0+(i:Int))) % 65537 % 26) hL (Int.emod_nonneg _ (by decide)) (Int.emod_lt_of_pos _ (by decide));refine⟨_,rfl,_,rfl,_,rfl,_,_,rfl,rfl,(by show(0:Int)<65537;decide),_,_,rfl,rfl,(by show(0:Int)<26;decide),_,_,ch,rfl,rfl,Zx (by lia),hch,_,_,rfl,rfl,?_,?_⟩
  ·show t.length+1<=sizeLine;exact Zx (by lia)
  ·refine⟨t++⟨#[ch]⟩,_,_,rfl,rfl,?_,fun x hm=>?_⟩
   ·rw[Zy,hl];rfl
   ·rw[ZaI] at hm;rcases List.mem_append.mp hm with hm|hm
    ·exact hx x hm
    ·have:x=ch:=List.mem_singleton.mp hm;rw[this];exact Zkq hch
 ·rintro σ H1 ⟨t,v6,v7,rfl,rfl,hl,hx⟩;exact⟨_,rfl,q t (by lia) (by lia) hx⟩
def bx(e:Ex):Nat:=(tx e).length+(if five.contains (kw e)=true then 2 else 0)
theorem ZjU{l:List Str}(hl:∀x∈l,x∈five)(e:Ex):(brc l (kw e) (tx e)).length<=bx e:=by
 unfold brc bx
 split
 ·rename_i h
  have:five.contains (kw e)=true:=List.contains_iff_mem.mpr (hl _ (List.contains_iff_mem.mp h));rw[if_pos this,Zy,Zy];show 1+_+1<=_;lia
 ·lia
def Wl(ot al:List Str)(e:Ex):Prop:=wfE e/\(∀n∈nm false e,n∈ot)/\∀n∈nm true e,n∈al
def NmR(H:Hp)(nh:Addr)(ot al:List Str):Prop:=(∃x y,H nh=some (.tup [.ref x,.ref y])/\H x=some (.lst (ot.map V.str))/\H y=some (.lst (al.map V.str)))/\(∀n∈ot,n∈al)/\(∀n∈al,Upr n/\n.length<=8)/\al.length<=8/\ot.length<=8
theorem ZhI{ns:List Str}{i lf:Int}:some (HO.lst (ns.map V.str))≠some (HO.lst [.int i,.int lf]):=by
 intro z;injection z with z;injection z with z;cases ns with
 | nil=>cases z
 | cons a r=>injection z with z _;cases z
theorem NmR.but{H H':Hp}{st nh:Addr}{ot al:List Str}{i lf:Int}(b:But st H H')(h:H st=some (.lst [.int i,.int lf]))(n:NmR H nh ot al):NmR H' nh ot al:=by
 obtain⟨⟨x,y,h1,h2,h3⟩,r⟩:=n;refine⟨⟨x,y,b _ _ (fun z=>?_) h1,b _ _ (fun z=>?_) h2,b _ _ (fun z=>?_) h3⟩,r⟩
 ·rw[z,h] at h1;cases h1
 ·rw[z,h] at h2;exact ZhI h2.symm
 ·rw[z,h] at h3;exact ZhI h3.symm
theorem ZjY:(Str.ofString "abcdefghijklmnopqrstuvwxyz").cps.toList.length=26:=by decide
theorem ZhW{t:Str}(h1:1<=t.length)(h:∀x∈cs t,x∈cs "abcdefghijklmnopqrstuvwxyz"):Zmd t:=by
 refine⟨fun z=>?_,fun c hc=>?_⟩
 ·have:t.length=0:=by
   have:=congrArg List.length z;rw[Array.length_toList] at this;exact this
  lia
 ·have:=h c hc;have k:∀x∈cs (Str.ofString "abcdefghijklmnopqrstuvwxyz"),97<=x/\x<=122:=by decide
  exact k c this
theorem Zh8{ns:List Str}{k:Int}(h0:0<=k)(h1:k<(ns.length:Int)):∃n,atI (ns.map V.str) k=some (.str n)/\n∈ns:=by
 obtain⟨j,rfl⟩:=Int.eq_ofNat_of_zero_le h0;have hj:j<ns.length:=by lia
 exact⟨ns[j],Zbc (by rw[List.getElem?_map,List.getElem?_eq_getElem hj];rfl),List.getElem_mem hj⟩
def ofL:List Ex->Exs
 | []=>.nil
 | e::r=>.cons e (ofL r)
def szL(es:List Ex):Nat:=(es.map sz).sum
theorem Zit:∀es:List Ex,szs (ofL es)=szL es
 | []=>rfl
 | e::r=>by rw[ofL,szs,Zit r];unfold szL;rw[List.map_cons,List.sum_cons]
theorem Zj6{n:Int}:∀es:List Ex,0<=n->(∀e∈es,(dp e:Int)<=n)->(dps (ofL es):Int)<=n
 | [],h,_=>h
 | e::r,h,k=>by
  have h1:=k e (List.mem_cons_self ..);have h2:=Zj6 r h fun x hx=>k x (List.mem_cons_of_mem _ hx);show((max (dp e) (dps (ofL r)):Nat):Int)<=n;lia
theorem Zj2:∀es:List Ex,(∀e∈es,w8 e)->w8s (ofL es)
 | [],_=>trivial
 | e::r,k=>⟨k e (List.mem_cons_self ..),Zj2 r fun x hx=>k x (List.mem_cons_of_mem _ hx)⟩
theorem Ze3(l:List Str):∀es:List Ex,txs l (ofL es)=es.map fun e=>brc l (kw e) (tx e)
 | []=>rfl
 | e::r=>by rw[ofL,txs,Ze3 l r];rfl
theorem ZdL.tk{H H':Hp}{r p:Addr}{e:Ex}(k:TK H H')(h:ZdL H r p e):ZdL H' r p e:=⟨k _ _ h.1,h.2.1.mono k,h.2.2⟩
def Prs(H:Hp)(rs:List Addr)(qs:List Addr)(es:List Ex):Prop:=rs.length=es.length/\qs.length=es.length/\∀(i:Nat) r q e,rs[i]?= some r->qs[i]?= some q->es[i]?= some e->ZdL H r q e
theorem Prs.tk{H H':Hp}{rs qs:List Addr}{es:List Ex}(k:TK H H')(h:Prs H rs qs es):Prs H' rs qs es:=⟨h.1,h.2.1,fun i r q e a b c=>(h.2.2 i r q e a b c).tk k⟩
theorem Zco{α : Type}{l:List α}{a x : α}{i:Nat}(h:(l ++ [a])[i]?= some x):(i<l.length/\l[i]?= some x)\/(i=l.length/\x=a):=by
 by_cases e:i<l.length
 ·rw[List.getElem?_append_left e] at h;exact .inl ⟨e,h⟩
 ·rw[List.getElem?_append_right (by lia)] at h;obtain⟨h1,h2⟩:=List.getElem?_eq_some_iff.mp h;have:i-l.length=0:=by simpa using h1
  refine .inr ⟨by lia,?_⟩;rw[<- h2];simp[this]
theorem Prs.snoc{H:Hp}{rs qs:List Addr}{es:List Ex}{r q:Addr}{e:Ex}(h:Prs H rs qs es)(k:ZdL H r q e):Prs H (rs ++ [r]) (qs ++ [q]) (es ++ [e]):=by
 refine⟨by simp[h.1],by simp[h.2.1],fun i r' q' e' a b c=>?_⟩;rcases Zco a with⟨ia,a⟩|⟨ia,rfl⟩
 ·rcases Zco b with⟨ib,b⟩|⟨ib,_⟩
  ·rcases Zco c with⟨ic,c⟩|⟨ic,_⟩
   ·exact h.2.2 i _ _ _ a b c
   ·have:=h.1;lia
  ·have:=h.1;have:=h.2.1;lia
 ·rcases Zco b with⟨ib,b⟩|⟨ib,rfl⟩
  ·have:=h.1;have:=h.2.1;lia
  ·rcases Zco c with⟨ic,c⟩|⟨ic,rfl⟩
   ·have:=h.1;lia
   ·exact k
theorem ZkN{es:List Ex}{e:Ex}(h:e∈es):sz e<=szL es:=by
 induction es with
 | nil=>cases h
 | cons a r ih =>
  unfold szL;rw[List.map_cons,List.sum_cons];rcases List.mem_cons.mp h with rfl|h
  ·lia
  ·have:sz e<=(r.map sz).sum:=ih h;lia
def bxL(es:List Ex):Nat:=(es.map bx).sum
theorem ZgV:∀es:List Ex,toL (ofL es)=es
 | []=>rfl
 | e::r=>by rw[ofL,toL,ZgV r]
theorem ZhS:∀{es:List Ex},(∀e∈es,wfE e)->ZlF (ofL es)
 | [],_=>trivial
 | e::r,k=>⟨k e (List.mem_cons_self ..),ZhS fun x hx=>k x (List.mem_cons_of_mem _ hx)⟩
theorem Zl1{ot al:List Str}{es:List Ex}(b:Bool)(h2:2<=es.length)(h:∀e∈es,Wl ot al e):Wl ot al (.several b (ofL es)):=by
 refine⟨⟨by rw[<- ZcG,ZgV];exact h2,ZhS fun e he=>(h e he).1⟩,fun n hn=>?_,fun n hn=>?_⟩
 ·rw[nm,Zc0,ZgV] at hn;obtain⟨e,he,hx⟩:=List.mem_flatMap.mp hn;exact(h e he).2.1 n hx
 ·rw[nm,Zc0,ZgV] at hn;obtain⟨e,he,hx⟩:=List.mem_flatMap.mp hn;exact(h e he).2.2 n hx
theorem Zh2{l:List Str}(hl:∀x∈l,x∈five):∀es:List Ex,((es.map fun e=>brc l (kw e) (tx e)).map (·.length)).sum<=bxL es
 | []=>Nat.le_refl _
 | e::r=>by
  have h1:=ZjU hl e;have h2:=Zh2 hl r;unfold bxL at h2 ⊢;simp only[List.map_cons,List.sum_cons];lia
theorem Zla(b:Bool)(es:List Ex):bx (.several b (ofL es))<=bxL es+es.length*3+2:=by
 have h1:=Zh2 (l:=Zb3 b) (by cases b <;> decide) es
 have h2:=Zdb (ZfI b) (txs (Zb3 b) (ofL es));have h3:(ZfI b).length<=3:=by cases b <;> decide
 rw[Ze3,List.length_map] at h2;have h4:es.length*(ZfI b).length<=es.length*3:=Nat.mul_le_mul_left _ h3;have h5:tx (.several b (ofL es))=Txt.join (ZfI b) (es.map fun e=>brc (Zb3 b) (kw e) (tx e)):=by rw[tx,Ze3]
 unfold bx;rw[h5]
 split <;> lia
def ZcH(C:Addr):Sp:=fun vs H Q _=>∃(y:Addr)(n:Str),vs=[.ref y,.str n]/\n.length<=1000/\H y=some (.ext (Zc3 y (.ref C) none)) /\
 ∀dx,H dx=none->dx≠y->Q .non (upd (upd H dx (.xd [("name",.str n)])) y (.ext (Zc3 y (.ref C) (some dx))))
theorem Zb2(B:∀x∈Zbv,mg x=none)(xc:XC K mg X_GroveError X_NoBook X_TwiceNamed X_NoName X_Ring)(F:Fun K "__init__" "TwiceNamed.__init__" ZZ f fd):FnOk P w K mg base CX0 1 f fd ["self","name"] (ZcH X_TwiceNamed):=by
 refine F.ok ZbZ (fun vs H Q E h=>?_) (fun cdv A outer s H vs Q E hr h=>?_)
 ·obtain⟨y,n,rfl,_⟩:=h;rfl
 obtain⟨y,n,rfl,hn,hy,q⟩:=h;refine⟨_,(Zc (ZaH (ZeP xc.bas rfl xc.n_GroveError (Za (pv 0) (Za (ZdD (Zc9 (ZlB (pv 1)) (Zc9 Zj ZhT))) Zd))))
  (Zf (ZfT (pv 0) (pv 1) rfl))),?_⟩
 have h1:(Str.empty++n).length<=sizeLine:=by rw[Zy];exact Zx (by show 0+n.length<=_;lia)
 have h2:(Str.empty++n++Str.ofString " has two pairs").length<=sizeLine:=by rw[Zy,Zy];exact Zx (by show 0+n.length+14<=_;lia)
 refine⟨_,rfl,_,rfl,.inl ⟨n,rfl,Zx (by lia),_,rfl,h1,_,rfl,h2,h2,?_⟩⟩;refine⟨y,X_TwiceNamed,X_GroveError,none,_,rfl,hy,xc.top_TwiceNamed,?_⟩;exact⟨_,rfl,_,rfl,y,X_TwiceNamed,X_GroveError,rfl,hy,xc.top_TwiceNamed,xc.f_TwiceNamed_name,fun dx h1 h2=>q dx h1 h2⟩
theorem ZcP(B:∀x∈Zbv,mg x=none)(xc:XC K mg X_GroveError X_NoBook X_TwiceNamed X_NoName X_Ring)(F:Fun K "__init__" "NoName.__init__" Zaj f fd):FnOk P w K mg base CX0 1 f fd ["self","name"] (ZcH X_NoName):=by
 refine F.ok ZcV (fun vs H Q E h=>?_) (fun cdv A outer s H vs Q E hr h=>?_)
 ·obtain⟨y,n,rfl,_⟩:=h;rfl
 obtain⟨y,n,rfl,hn,hy,q⟩:=h;refine⟨_,(Zc (ZaH (ZeP xc.bas rfl xc.n_GroveError (Za (pv 0) (Za (ZdD (Zc9 Zj (Zc9 (ZlB (pv 1)) ZhT))) Zd))))
  (Zf (ZfT (pv 0) (pv 1) rfl))),?_⟩
 have h2:(Str.empty++Str.ofString "nothing is named " ++ n).length<=sizeLine:=by rw[Zy,Zy];exact Zx (by show 0+17+n.length<=_;lia)
 refine⟨_,rfl,_,rfl,by decide,_,rfl,.inl ⟨n,rfl,Zx (by lia),_,rfl,h2,h2,?_⟩⟩;refine⟨y,X_NoName,X_GroveError,none,_,rfl,hy,xc.top_NoName,?_⟩;exact⟨_,rfl,_,rfl,y,X_NoName,X_GroveError,rfl,hy,xc.top_NoName,xc.f_NoName_name,fun dx h1 h2=>q dx h1 h2⟩
theorem Zef:∀ns:List Str,PyData.shownAll (ns.map PyData.str)=ns.map reprText
 | []=>rfl
 | n::ns=>by rw[List.map_cons,List.map_cons,<- Zef ns];rfl
theorem ZgT:∀{ns:List Str},(∀n∈ns,Upr n/\n.length<=8)->((ns.map reprText).map (·.length)).sum<=100*ns.length
 | [],_=>Nat.le_refl _
 | n::ns,h=>by
  have h1:=h n (List.mem_cons_self ..);have lr:=PySem.StrLaws.reprText_len n (fun c hc=>Nat.lt_of_le_of_lt (h1.1.2 c hc).2 (by decide));have h2:=ZgT (ns:=ns) fun x hx=>h x (List.mem_cons_of_mem _ hx);have h3:=h1.2;simp only[List.map_cons,List.sum_cons,List.length_cons];lia
theorem ZjH{ns:List Str}(h8:ns.length<=8)(h:∀n∈ns,Upr n/\n.length<=8):(PyData.list (ns.map PyData.str)).shown.length<=1000:=by
 rw[PyData.shown_list,Zef,Zy,Zy];have h1:=ZgT h;have h2:=PySem.StrLaws.join_length_le ", " (ns.map reprText);rw[List.length_map] at h2;have h3:ns.length*(Str.ofString ", ").length=ns.length*2:=rfl;show 1+_+1<=1000;lia
theorem Ze7(l:List Str):(PyData.list (l.map PyData.str)).hasDict=false:=by
 induction l with
 | nil=>rfl
 | cons a r ih=>simp_all [PyData.hasDict,PyData.hasDictAll]
theorem ZeM(l:List Str):(PyData.list (l.map PyData.str)).showable=true:=by
 induction l with
 | nil=>rfl
 | cons a r ih=>simp_all [PyData.showable,PyData.showableAll]
theorem Zhl(l:List Str):(PyData.list (l.map PyData.str)).depth<=190:=by
 induction l with
 | nil=>decide
 | cons a r ih=>simp_all [PyData.depth,PyData.depthAll]
theorem ZiY{K:PySem.W.Frag}{H:Hp}:∀ns:List Str,DpAll K H (ns.map V.str) (ns.map PyData.str)
 | []=>.nil
 | n::ns=>.cons (.str n) (ZiY ns)
def Zey(K:PySem.W.Frag)(C:Addr):Sp:=fun vs H Q _=>∃(y l:Addr)(ns:List Str),vs=[.ref y,.ref l]/\H l=some (.lst (ns.map V.str))/\ns.length<=8/\(∀n∈ns,Upr n/\n.length<=8)/\H y=some (.ext (Zc3 y (.ref C) none)) /\
 ∀l2 dx,H l2=none->(upd H l2 (.lst (ns.map V.str))) dx=none->dx≠y->Q .non (upd (upd (upd H l2 (.lst (ns.map V.str))) dx (.xd [("names",.ref l2)])) y (.ext (Zc3 y (.ref C) (some dx))))
theorem Zdq(B:∀x∈Zbv,mg x=none)(xc:XC K mg X_GroveError X_NoBook X_TwiceNamed X_NoName X_Ring)(F:Fun K "__init__" "Ring.__init__" Zas f fd):FnOk P w K mg base CX0 1 f fd ["self","names"] (Zey K X_Ring):=by
 refine F.ok Zdn (fun vs H Q E h=>?_) (fun cdv A outer s H vs Q E hr h=>?_)
 ·obtain⟨y,l,ns,rfl,_⟩:=h;rfl
 obtain⟨y,l,ns,rfl,hl,hn8,hns,hy,q⟩:=h;have hu:=Zd2 hr;have hgd:=hr.gd;refine⟨_,(Zc (ZaH (ZeP xc.bas rfl xc.n_GroveError (Za (pv 0) (Za (ZdD (Zc9 Zj (Zc9 (Zky hgd hu (pv 1)) ZhT))) Zd))))
  (Zf (ZfT (pv 0) (Zam Zbx rfl (B "list" (by decide)) Zc6 (Za (pv 1) Zd)) rfl))),?_⟩
 have hsh:(PyData.list (ns.map PyData.str)).shown.length<=1000:=ZjH hn8 hns;have h2:(Str.empty++Str.ofString "these names go in a ring: " ++ (PyData.list (ns.map PyData.str)).shown).length<=sizeLine:=by rw[Zy,Zy];exact Zx (by show 0+26+_<=_;lia)
 refine⟨_,rfl,_,rfl,by decide,_,rfl,l,_,rfl,.lst (SqL.of hl) (ZiY ns),ZeM ns,Ze7 ns,Zhl ns,Zx (by lia),_,rfl,h2,h2,?_⟩;refine⟨y,X_Ring,X_GroveError,none,_,rfl,hy,xc.top_Ring,?_⟩;refine⟨_,rfl,l,_,rfl,.inl (SqL.of hl),fun l2 hl2=>?_⟩;have ny:y≠l2:=Zm hy hl2;exact⟨_,rfl,y,X_Ring,X_GroveError,rfl,by rw[Zi ny];exact hy,xc.top_Ring,xc.f_Ring_names,fun dx h1 h2=>q l2 dx hl2 h1 h2⟩
theorem Zi2{H H1:Hp}{y dx:Addr}{o1 o2 o3 o4:HO}(s:Zk H H1)(h1:H1 y=none)(h2:upd H1 y o1 dx=none):Zk H (upd (upd (upd (upd H1 y o1) dx o2) y o3) y o4):=by
 obtain⟨_,h3⟩:=Za4 h2;exact(((s.upd_new (s.free h1)).upd_new (s.free h3)).upd_new (s.free h1)).upd_new (s.free h1)
theorem Zec{C:Addr}{H H1:Hp}{E:XK}{n:Str}(sm:Zk H H1)(hn:n.length<=1000)
  (q2:∀(dx:Addr)(H':Hp),Zk H H'->H dx=none->H' dx=some (.xd [("name",.str n)])->E (.ref C) (some dx) H') :
  ([V.str n].length<=1000)/\∀y,H1 y=none->ZcH C [.ref y,.str n] (upd H1 y (.ext (Zc3 y (.ref C) none)))
   (fun v H2=>v=.non/\∃d,H2 y=some (.ext (Zc3 y (.ref C) d))/\E (.ref C) d (upd H2 y (.ext (XO y (.ref C) d)))) E0:=by
 refine⟨(by show 1<=1000;decide),fun y hy=>⟨y,n,rfl,hn,Zb,fun dx hdx hne=>⟨rfl,some dx,Zb,?_⟩⟩⟩;refine q2 dx _ (Zi2 sm hy hdx) ?_ ?_
 ·obtain⟨_,h3⟩:=Za4 hdx;exact sm.free h3
 ·rw[Zi hne,Zi hne,Zb]
mutual
theorem Zjd(b:Bool):∀{e:Ex}{n:Str},w8 e->n∈nm b e->n.length<=8
 | .nil,_,_,h=>nomatch h
 | .tag _ i,n,hw,h=>by
  rw[nm] at h
  split at h
  ·exact Zjd b (e:=i) hw.2 h
  ·exact nomatch h
 | .name m,n,hw,h=>by
  rw[List.mem_singleton.mp h];exact hw
 | .several _ ps,n,hw,h=>ZjZ b (ps:=ps) hw (by rw[nm] at h;exact h)
 | .rep _ p,n,hw,h=>Zjd b (e:=p) hw (by rw[nm] at h;exact h)
theorem ZjZ(b:Bool):∀{ps:Exs}{n:Str},w8s ps->n∈nms b ps->n.length<=8
 | .nil,_,_,h=>nomatch h
 | .cons e r,n,hw,h=>by
  rw[nms] at h;rcases List.mem_append.mp h with h|h
  ·exact Zjd b (e:=e) hw.1 h
  ·exact ZjZ b (ps:=r) hw.2 h
end
def twI(ns:List Str):List Str->Option Str
 | []=>none
 | n::r=>if n∈ns then some n else twI (ns ++ [n]) r
def Zin(K:PySem.W.Frag)(C:Addr):Sp:=fun vs H Q E=>∃p ws bk,vs=[.ref p]/\SqT K H p ws/\BkR K H ws bk/\bk.length<=100/\(∀x∈bk,x.1.length<=8)/\(twI [] (bk.map (·.1))=none->∀H',Zk H H'->Q .non H') /\
 ∀n,twI [] (bk.map (·.1))=some n->∀(dx:Addr)(H':Hp),Zk H H'->H dx=none->H' dx=some (.xd [("name",.str n)])->E (.ref C) (some dx) H'
theorem ZbN{α : Type}{l:List α}{i:Nat}{a : α}(h:l[i]?= some a):l.drop i=a::l.drop (i+1):=by
 obtain⟨h1,h2⟩:=List.getElem?_eq_some_iff.mp h;rw[List.drop_eq_getElem_cons h1,h2]
set_option maxHeartbeats 1000000 in
theorem Zdg(B:∀x∈Zbv,mg x=none)(xc:XC K mg X_GroveError X_NoBook X_TwiceNamed X_NoName X_Ring)(x_TwiceNamed:XMk P w K mg base X_TwiceNamed X_GroveError "TwiceNamed" ["self","name"] 1 (ZcH X_TwiceNamed)) (F:Fun K "refuse_doubles" "refuse_doubles" Zae f fd):FnOk P w K mg base (CXE P w) 3 f fd ["book"] (Zin K X_TwiceNamed):=by
 refine F.okX ZaP (fun vs H Q E h=>?_) (fun cdv A outer s H vs Q E hr h=>?_)
 ·obtain⟨p,ws,bk,rfl,_⟩:=h;rfl
 obtain⟨p,ws,bk,rfl,hS,hB,hl,h8,q1,q2⟩:=h;have hu1:(A.deeper (PyProof.Rows.envOfC (Str.ofString "refuse_doubles") (Zg Zae) s.heap.objs.size f cdv)).units+1<cLine:=by have:=hr.un;lia
 refine⟨_,(Zc (Zt (i:=1) ZaP.nd rfl (Or.inl rfl) Zg1)
  (Zf (Za7 PassesOwn.leaving rfl (Zdl (pv 0)) (ZbH rfl (Zv (Zn (i:=2) ZaP.nd rfl (Or.inl rfl)) (Zv (Zn (i:=3) ZaP.nd rfl (Or.inl rfl)) ZaG)))
   (Zc (Z2 (Zio (Zlj hu1 (pv 2) (pv 1)))
     (Zf (ZdR x_TwiceNamed ZbI hr rfl (Za (pv 2) Zd)))
     Zq)
    (Zf (ZiW hu1 (pv 1) (pv 2) Zcr rfl)))))),?_⟩
 have hlen:ws.length=bk.length:=Paired.length hB;refine fun pd hpd=>?_;refine⟨_,rfl,p,rfl,⟨ws,TF.same (Zk.new hpd) _ _ hS⟩,ZeG (K:=K) (a:=p) (xs:=ws) (fun i σ H2=>∃v2 v3:Option V,σ =[some (.ref p),some (.ref pd),v2,v3]/\Zk H H2/\H2 pd=some (.dK (((bk.take i).map (·.1)).map fun n=>((Sum.inr n:Key),V.bl true)))/\twI [] (bk.map (·.1))=twI ((bk.take i).map (·.1)) ((bk.drop i).map (·.1)))
  ⟨none,none,rfl,Zk.new hpd,Zb,rfl⟩ ?_ ?_ ?_⟩
 ·rintro i σ H2 _ ⟨v2,v3,_,sm,_⟩;exact TF.same sm _ _ hS
 ·rintro i x σ H2 hx ⟨v2,v3,rfl,sm,hp2,ht⟩;obtain⟨x,hx1,pp,qq,rfl,e1,e2⟩:=Z7 hB hx;obtain⟨hi1,hi2⟩:=List.getElem?_eq_some_iff.mp hx1;rw[ZbN hx1,List.map_cons,twI] at ht;refine⟨pp,_,rfl,SqT.of (sm _ _ e1),rfl,_,_,rfl,_,_,rfl,rfl,?_⟩;refine⟨_,rfl,_,rfl,pd,_,rfl,ZfF.k (k:=.inr x.1) hp2,_,rfl,?_⟩;by_cases hin:x.1∈(bk.take i).map (·.1)
  ·rw[if_pos hin] at ht;have hv:(Zct (((bk.take i).map (·.1)).map fun n=>((Sum.inr n:Key),V.bl true)) (.inr x.1)).isSome=true:=by
    cases hc:Zct (((bk.take i).map (·.1)).map fun n=>((Sum.inr n:Key),V.bl true)) (.inr x.1) with
    | none=>exact absurd hin (Zfl.mp hc)
    | some _=>rfl
   rw[hv];refine Zcz ?_;exact⟨_,rfl,Zec sm (by have:=h8 x (List.mem_of_getElem? hx1);lia) (q2 x.1 ht)⟩
  ·rw[if_neg hin] at ht;have hv:=Zfl.mpr hin;rw[hv];refine ZbD ?_;refine⟨_,rfl,_,rfl,pd,_,rfl,.inl ⟨_,.inr x.1,hp2,rfl,ZR (by rw[List.length_map,List.length_map,List.length_take];lia),rfl⟩,_,_,rfl,?_,?_,?_⟩
   ·intro b o hb;have:b≠pd:=fun z=>by rw[z,hpd] at hb;cases hb
    rw[Zi this];exact sm _ _ hb
   ·rw[Zb,ZeY _ hv,List.take_succ_eq_append_getElem hi1,hi2,List.map_append,List.map_append];rfl
   ·rw[ht,List.take_succ_eq_append_getElem hi1,hi2,List.map_append];rfl
 ·rintro σ H2 ⟨v2,v3,rfl,sm,_,ht⟩;rw[hlen,List.drop_length] at ht;exact q1 ht H2 sm
def ZdU(bk:List (Str×Ex)):List Str:=bk.flatMap fun x=>nm true x.2
def lkN(ns:List Str)(l:List Str):Option Str:=l.find? fun n=>decide (n∉ns)
def ZiV(K:PySem.W.Frag)(C:Addr):Sp:=fun vs H Q E=>∃p ob ws bk,vs=[.ref p]/\H p=some (.frz ob (.tup ws))/\ob.dict=none/\BkR K H ws bk/\bk.length<=100/\(∀x∈bk,Bk1 x)/\(lkN (bk.map (·.1)) (ZdU bk)=none->∀H',Zk H H'->Q .non H') /\
 ∀n,lkN (bk.map (·.1)) (ZdU bk)=some n->∀(dx:Addr)(H':Hp),Zk H H'->H dx=none->H' dx=some (.xd [("name",.str n)])->E (.ref C) (some dx) H'
theorem ZfU{bk:List (Str×Ex)}{k:Str}{kvs:List (Key×V)}(e:kvs.map (·.1)=bk.map fun x=>(Sum.inr x.1:Key)):(Zct (putAll kvs) (.inr k)).isSome=decide (k∈bk.map (·.1)):=by
 by_cases h:k∈bk.map (·.1)
 ·rw[putAll_has (f:=fun _=>V.non) h e,decide_eq_true h]
 ·rw[decide_eq_false h];unfold putAll;rw[ZbM];show(false || _)=false;rw[Bool.false_or,List.any_eq_false];intro kv hkv z;have z:=of_decide_eq_true z;have:kv.1∈bk.map fun x=>(Sum.inr x.1:Key):=by rw[<- e];exact List.mem_map.mpr ⟨kv,hkv,rfl⟩
  rw[z] at this;obtain⟨x,hx,hxe⟩:=List.mem_map.mp this;exact h (List.mem_map.mpr ⟨x,hx,Sum.inr.inj hxe⟩)
set_option maxHeartbeats 1000000 in
theorem Zda(B:∀x∈Zbv,mg x=none)(xc:XC K mg X_GroveError X_NoBook X_TwiceNamed X_NoName X_Ring)(g_names_in:Has P w K mg base "names_in" ["expr"] 14 (ZjQ K true 13)) (x_NoName:XMk P w K mg base X_NoName X_GroveError "NoName" ["self","name"] 1 (ZcH X_NoName)) (F:Fun K "refuse_unnamed" "refuse_unnamed" Zaf f fd):FnOk P w K mg base (CXE P w) 15 f fd ["book"] (ZiV K X_NoName):=by
 refine F.okX Zat (fun vs H Q E h=>?_) (fun cdv A outer s H vs Q E hr h=>?_)
 ·obtain⟨p,ob,ws,bk,rfl,_⟩:=h;rfl
 obtain⟨p,ob,ws,bk,rfl,hf,hob,hB,hl,hn,q1,q2⟩:=h;have hu1:(A.deeper (PyProof.Rows.envOfC (Str.ofString "refuse_unnamed") (Zg Zaf) s.heap.objs.size f cdv)).units+1<cLine:=by have:=hr.un;lia
 refine⟨_,(Zc (Zt (i:=1) Zat.nd rfl (Or.inl rfl) (Zam (ZeF rfl) rfl (B "dict" (by decide)) ZhE (Za (pv 0) Zd)))
  (Zf (Za7 PassesOwn.leaving rfl (Zdl (pv 0)) (ZbH rfl (Zv (Zn (i:=2) Zat.nd rfl (Or.inl rfl)) (Zv (Zn (i:=3) Zat.nd rfl (Or.inl rfl)) ZaG)))
   (Zf (Za7 PassesOwn.leaving rfl (ZaS (ZQ g_names_in hr rfl (Za (pv 3) Zd))) (Zn (i:=4) Zat.nd rfl (Or.inl rfl))
     (Zf (Z2 (Zio (Zfx hu1 (pv 4) (pv 1)))
       (Zf (ZdR x_NoName ZbI hr rfl (Za (pv 4) Zd)))
       Zq))))))),?_⟩
 have hlen:ws.length=bk.length:=Paired.length hB;obtain⟨kvs,hk1,hk2⟩:=hB.kvs;have hS:∀H2,Zk H H2->SqT K H2 p ws:=fun H2 s2=>.inl (.inr ⟨ob,s2 _ _ hf⟩);refine⟨_,rfl,p,ob,ws,kvs,rfl,hf,hob,by lia,hk2,fun pd hpd=>?_⟩;have s1:Zk H (upd H pd (.dK (putAll kvs))):=Zk.new hpd;have hd1:upd H pd (.dK (putAll kvs)) pd=some (.dK (putAll kvs)):=Zb;refine⟨_,rfl,p,rfl,⟨ws,hS _ s1⟩,ZeG (K:=K) (a:=p) (xs:=ws) (fun i σ H2=>∃v2 v3 v4:Option V,σ =[some (.ref p),some (.ref pd),v2,v3,v4]/\Zk H H2/\H2 pd=some (.dK (putAll kvs))/\lkN (bk.map (·.1)) (ZdU bk)=lkN (bk.map (·.1)) (ZdU (bk.drop i)))
  ⟨none,none,none,rfl,s1,hd1,rfl⟩ ?_ ?_ ?_⟩
 ·rintro i σ H2 _ ⟨v2,v3,v4,_,sm,_⟩;exact hS _ sm
 ·rintro i x σ H2 hx ⟨v2,v3,v4,rfl,sm,hp2,hlk⟩;obtain⟨x,hx1,pp,qq,rfl,e1,e2⟩:=Z7 hB hx;obtain⟨b1,b2,b3,b4⟩:=hn x (List.mem_of_getElem? hx1);rw[ZbN hx1] at hlk;refine⟨pp,_,rfl,SqT.of (sm _ _ e1),rfl,_,_,rfl,_,_,rfl,rfl,?_⟩;refine⟨_,rfl,qq,x.2,rfl,e2.mono (TF.same sm),b2,b3,fun l H3 s3 f3 e3=>?_⟩;refine⟨l,rfl,⟨_,SqL.of e3⟩,ZbT (K:=K) (a:=l) (xs:=(nm true x.2).map V.str) (fun j σ H4=>∃v4:Option V,σ =[some (.ref p),some (.ref pd),some (.str x.1),some (.ref qq),v4]/\H4=H3/\lkN (bk.map (·.1)) (ZdU bk)=lkN (bk.map (·.1)) ((nm true x.2).drop j++ZdU (bk.drop (i+1))))
   ⟨_,rfl,rfl,hlk⟩ ?_ ?_ ?_⟩
  ·rintro j σ H4 _ ⟨v4,_,rfl,_⟩;exact SqL.of e3
  ·rintro j y σ H4 hy ⟨v4,rfl,rfl,hj⟩;rw[List.getElem?_map] at hy;obtain⟨m,hm,rfl⟩:=Option.map_eq_some_iff.mp hy;rw[ZbN hm,List.cons_append] at hj;unfold lkN at hj;rw[List.find?_cons] at hj;refine⟨_,rfl,_,rfl,pd,_,rfl,ZfF.k (k:=.inr m) (s3 _ _ hp2),_,rfl,?_⟩;rw[ZfU hk1];by_cases hin:m∈bk.map (·.1)
   ·rw[decide_eq_true hin];rw[decide_eq_false (fun z=>z hin)] at hj;exact ZbD ⟨_,rfl,rfl,hj⟩
   ·rw[decide_eq_false hin];rw[decide_eq_true hin] at hj;refine Zcz ?_;exact⟨_,rfl,Zec (sm.trans s3) (by have:=Zjd true b4 (List.mem_of_getElem? hm);lia) (q2 m hj)⟩
  ·rintro σ H4 ⟨v4,rfl,rfl,hj⟩;rw[List.length_map,List.drop_length,List.nil_append] at hj;exact⟨_,_,_,rfl,sm.trans s3,s3 _ _ hp2,hj⟩
 ·rintro σ H2 ⟨v2,v3,v4,rfl,sm,_,hlk⟩;rw[hlen,List.drop_length] at hlk;exact q1 hlk H2 sm
def RgC(us:Str->List Str)(rg:List Str):Prop:=(∀(k:Nat) x y,rg[k]?= some x->rg[k+1]?= some y->y∈us x)/\∀x y,rg[0]?= some x->rg[rg.length-1]?= some y->x∈us y
def Zkd(us:Str->List Str)(ns rg:List Str):Prop:=rg ≠ []/\rg.Nodup/\(∀n∈rg,n∈ns)/\RgC us rg
theorem Zcg:∀{l ns:List Str},l.Nodup->(∀x∈l,x∈ns)->l.length<=ns.length
 | [],_,_,_=>Nat.zero_le _
 | a::l,ns,hn,h=>by
  rw[List.nodup_cons] at hn;have ha:=h a (List.mem_cons_self ..);have h1:=Zcg (l:=l) (ns:=ns.erase a) hn.2 fun x hx=>(List.mem_erase_of_ne fun z=>hn.1 (by rw[<- z];exact hx)).mpr (h x (List.mem_cons_of_mem _ hx));rw[List.length_erase_of_mem ha] at h1;have:=List.length_pos_of_mem ha;rw[List.length_cons];lia
def Zgd(K:PySem.W.Frag):Sp:=fun vs H Q _=>∃d l ns us,vs=[.ref d,.ref l]/\UsR H d ns us/\SqL K H l (ns.map V.str)/\ns ≠ []/\ns.length<=100/\(∀n∈ns,∃m∈us n,m∈ns)/\∀l' rg H',Zk H H'->H l'=none->H' l'=some (.lst (rg.map V.str))->Zkd us ns rg->Q (.ref l') H'
def RfW(K:PySem.W.Frag)(H:Hp)(d l pl:Addr)(ns:List Str)(us:Str->List Str)(m:Nat)(σ : St)(H2:Hp):Prop := ∃(path:List Str)(n:Str),m=ns.length+1-path.length /\ σ =[some (.ref d),some (.ref l),some (.ref pl),some (.str n)]/\Zk H H2/\H2 pl=some (.lst (path.map V.str))/\path.Nodup/\(∀x∈path,x∈ns)/\n∈ns/\(∀(k:Nat) x y,path[k]?= some x->path[k+1]?= some y->y∈us x)/\∀y,path[path.length-1]?= some y->n∈us y
theorem Zkk{us:Str->List Str}{path:List Str}{n:Str}(hn:path.Nodup)(hm:n∈path)(hc:∀(k:Nat) x y,path[k]?= some x->path[k+1]?= some y->y∈us x)(hl:∀y,path[path.length-1]?= some y->n∈us y){ns:List Str}(hs:∀x∈path,x∈ns):Zkd us ns (path.drop (path.idxOf n)):=by
 have hi:path.idxOf n<path.length:=List.idxOf_lt_length_of_mem hm;refine⟨fun z=>?_,hn.sublist (List.drop_sublist _ _),fun x hx=>hs x (List.mem_of_mem_drop hx),fun k x y hx hy=>?_,fun x y hx hy=>?_⟩
 ·have:=congrArg List.length z;rw[List.length_drop] at this;have:path.length-path.idxOf n=0:=this;lia
 ·rw[List.getElem?_drop] at hx hy;exact hc _ x y hx hy
 ·rw[List.getElem?_drop,Nat.add_zero,List.getElem?_eq_getElem hi,List.getElem_idxOf hi] at hx;cases hx;rw[List.getElem?_drop,List.length_drop,show path.idxOf n+(path.length-path.idxOf n-1)=path.length-1 by lia] at hy;exact hl y hy
set_option maxHeartbeats 2000000 in
theorem Zfg(B:∀x∈Zbv,mg x=none)(F:Fun K "ring_from" "ring_from" ZaX f fd):FnOk P w K mg base CX0 1 f fd ["uses","names"] (Zgd K):=by
 refine F.ok Zbr (fun vs H Q E h=>?_) (fun cdv A outer s H vs Q E hr h=>?_)
 ·obtain⟨d,l,ns,us,rfl,_⟩:=h;rfl
 obtain⟨d,l,ns,us,rfl,hU,hS,hne,hn,hall,q⟩:=h;have hu1:(A.deeper (PyProof.Rows.envOfC (Str.ofString "ring_from") (Zg ZaX) s.heap.objs.size f cdv)).units+1<cLine:=by have:=hr.un;lia
 refine⟨_,(Zc (Zt (i:=2) Zbr.nd rfl (Or.inl rfl) (ZaA Zd))
  (Zc (Zt (i:=3) Zbr.nd rfl (Or.inl rfl) (ZP Z6 (pv 1) Zh (fun _ _=>rfl)))
  (Zc (Zcl PassesOwn.never (Zo Zby (pv 3) (pv 2) (by with_unfolding_all rfl))
   (Zc (ZaH (Zb0 PySem.F.plainAttrs_list PySem.F.slot_list_append PySem.F.type_list_append Za3 (pv 2) (Za (pv 3) Zd)))
    (Zf (Zt (i:=3) Zbr.nd rfl (Or.inl rfl) (ZP Z6 (Zci (cl:=_) ["used"] [("names",1)] (ZaS (Zet hu1 (pv 0) (pv 3) (fun _ _=>rfl))) (fun _ _ _ _=>(Zn (i:=0) (show List.Nodup (["used","names"]:List Str) by decide) rfl (Or.inl rfl))) (fun _ _ _ _=>(Zo (Zdi (K:=K) rfl) (pv 0) (pv 1) (by with_unfolding_all rfl))) (fun _ _ _ _=>(pv 0)) rfl rfl (by decide) rfl (by decide) (Zcv (by(repeat' first|exact List.forall_mem_nil _|refine List.forall_mem_cons.mpr ⟨?_,?_⟩) <;> rfl)) (Zbz (by(repeat' first|exact List.forall_mem_nil _|refine List.forall_mem_cons.mpr ⟨?_,?_⟩) <;> first|(intro h;exact⟨_,rfl⟩)|(intro h;exact absurd h (by decide)))) (fun _=>by(repeat' first|exact List.forall_mem_nil _|refine List.forall_mem_cons.mpr ⟨?_,?_⟩) <;> exact⟨rfl,rfl,Or.inl rfl⟩) (fun _=>rfl)) Zh (fun _ _=>rfl))))))
  (Zf (Zr (ZbL ZeW (pv 2) (Zcc (Zb0 PySem.F.plainAttrs_list PySem.F.slot_list_index PySem.F.type_list_index (Zfc (K:=K) rfl) (pv 2) (Za (pv 3) Zd))) Zdc)))))),?_⟩
 obtain⟨n0,r0,rfl⟩:∃a r,ns=a::r:=by
  cases ns with
  | nil=>exact absurd rfl hne
  | cons a r=>exact⟨a,r,rfl⟩
 refine⟨(by show 0<=sizeLine;decide),fun pl hpl=>?_⟩;have s0:Zk H (upd H pl (.lst [])):=Zk.new hpl;refine⟨_,rfl,l,_,0,_,rfl,rfl,s0.seq hS,at0,?_⟩;refine⟨RfW K H d l pl (n0::r0) us,⟨_,[],n0,rfl,rfl,s0,Zb,List.nodup_nil,(fun _ h=>nomatch h),List.mem_cons_self ..,(fun k x y h _=>by simp at h),(fun y h=>by simp at h)⟩,?_⟩
 rintro m σ H2 ⟨path,n,rfl,rfl,sm,hp2,hnd,hsub,hmem,hch,hlast⟩;have hpl2:=Zcg hnd hsub;refine⟨_,rfl,_,rfl,pl,_,rfl,.inl (SqL.of hp2),rfl,Zbf path,_,rfl,?_⟩;have e1:(if true=true then !inV (V.str n) (path.map V.str) else inV (V.str n) (path.map V.str))= !path.contains n:=by rw[if_pos rfl,ZbA]
 rw[e1];by_cases hin:n∈path
 ·rw[List.contains_iff_mem.mpr hin];refine ZbD ?_;refine⟨_,rfl,_,rfl,.inl ⟨rfl,_,SqL.of hp2⟩,_,rfl,pl,n,path,rfl,rfl,SqL.of hp2,hin,_,rfl,pl,_,rfl,SqL.of hp2,fun p9 hp9=>?_⟩;have s9:=sm.upd_new (o:=.lst (ZiA (path.map V.str) (some ((path.idxOf n:Nat):Int)) none)) (sm.free hp9);refine q p9 (path.drop (path.idxOf n)) _ s9 (sm.free hp9) ?_ (Zkk hnd hin hch hlast hsub);rw[Zb,ZgQ,List.map_drop]
 ·have hc:path.contains n=false:=by
   cases h:path.contains n with
   | false=>rfl
   | true=>exact absurd (List.contains_iff_mem.mp h) hin
  rw[hc];refine Zcz ⟨fun σ' H'=>∃m',m'<(n0::r0).length+1-path.length/\RfW K H d l pl (n0::r0) us m' σ' H',fun _ _ h=>h,?_⟩;refine⟨_,rfl,.inl ⟨rfl,_,SqL.of hp2⟩,_,rfl,pl,_,_,rfl,rfl,hp2,ZR (by rw[List.length_map];lia),?_⟩;have e3:upd H2 pl (.lst (path.map V.str ++ [.str n])) pl=some (.lst ((path ++ [n]).map V.str)):=by rw[Zb,List.map_append];rfl
  have sm3:Zk H (upd H2 pl (.lst (path.map V.str ++ [.str n]))):=sm.upd_new hpl;generalize upd H2 pl (.lst (path.map V.str ++ [.str n]))=H3 at e3 sm3 ⊢;obtain⟨kvs,h1,h2⟩:=hU.same sm3;obtain⟨b,k1,k2,k3⟩:=h2 n hmem;refine⟨_,rfl,_,rfl,d,.ref b,rfl,by rw[<- k1];exact ZfF.k (k:=.inr n) h1,b,rfl,⟨_,SqL.of k2⟩,fun p4 hp4=>Zcm (K:=K) (a:=b) (p:=p4) (xs:=(us n).map V.str) (fun i ys σ H4=>∃v0:Option V,σ =[v0,some (.ref l)]/\Zk H3 H4/\H4 p4=some (.lst ys)/\ys=(((us n).take i).filter fun m=>(n0::r0).contains m).map V.str)
   ⟨none,rfl,Zk.new hp4,Zb,rfl⟩ ?_ ?_ ?_⟩
  ·rintro i ys σ H4 _ ⟨v0,_,sm4,h4,_⟩;exact⟨SqL.of (sm4 _ _ k2),h4⟩
  ·rintro i ys x σ H4 hi hx ⟨v0,rfl,sm4,h4,rfl⟩;rw[List.getElem?_map] at hx;obtain⟨y,hx1,rfl⟩:=Option.map_eq_some_iff.mp hx;have fx:=ZbV (g:=fun m=>(n0::r0).contains m) hx1;refine⟨_,rfl,_,rfl,l,_,rfl,.inl ((sm3.trans sm4).seq hS),rfl,Zbf _,_,rfl,?_⟩;have e5:(if false=true then !inV (V.str y) ((n0::r0).map V.str) else inV (V.str y) ((n0::r0).map V.str))=(n0::r0).contains y:=ZbA _ _
   rw[e5];refine Zaz (fun z=>?_) (fun z=>?_)
   ·rw[if_pos z] at fx;refine⟨_,rfl,h4,ZR ?_,CW.next hi ⟨_,rfl,sm4.upd_new hp4,Zb,?_⟩⟩
    ·rw[List.length_map];have:=List.length_filter_le (fun m=>(n0::r0).contains m) ((us n).take i);rw[List.length_take] at this;lia
    ·rw[fx,List.map_append];rfl
   ·rw[if_neg z,List.append_nil] at fx;exact CW.next hi ⟨_,rfl,sm4,h4,by rw[fx]⟩
  ·rintro ys σ H4 ⟨v0,_,sm4,h4,rfl⟩;rw[List.length_map,List.take_length] at h4;obtain⟨y,hy1,hy2⟩:=hall n hmem;obtain⟨z,zs,hz⟩:∃z zs,(us n).filter (fun m=>(n0::r0).contains m)=z::zs:=by
    cases hc:(us n).filter (fun m=>(n0::r0).contains m) with
    | nil =>
     have:y∈(us n).filter (fun m=>(n0::r0).contains m):=List.mem_filter.mpr ⟨hy1,List.contains_iff_mem.mpr hy2⟩;rw[hc] at this;exact nomatch this
    | cons z zs=>exact⟨z,zs,rfl⟩
   have hzm:z∈(us n).filter (fun m=>(n0::r0).contains m):=by rw[hz];exact List.mem_cons_self ..
   obtain⟨hz1,hz2⟩:=List.mem_filter.mp hzm;have hz2:=List.contains_iff_mem.mp hz2;rw[hz] at h4;have hnd':(path ++ [n]).Nodup:=by
    refine List.nodup_append.mpr ⟨hnd,List.nodup_cons.mpr ⟨fun h=>(nomatch h),List.nodup_nil⟩,fun x hx y hy e=>?_⟩
    rw[List.mem_singleton.mp hy] at e;exact hin (e ▸ hx)
   have hsub':∀x∈path ++ [n],x∈n0::r0:=fun x hx=>by
    rcases List.mem_append.mp hx with hx|hx
    ·exact hsub x hx
    ·rw[List.mem_singleton.mp hx];exact hmem
   have hpl3:=Zcg hnd' hsub';rw[List.length_append] at hpl3;have hpl3:path.length+1<=(n0::r0).length:=hpl3;refine⟨p4,_,0,.str z,rfl,rfl,SqL.of h4,at0,_,?_,path ++ [n],z,rfl,rfl,sm3.trans sm4,sm4 _ _ e3,hnd',hsub',hz2,fun k x y hx hy=>?_,fun y hy=>?_⟩
   ·rw[List.length_append];show(n0::r0).length+1-(path.length+1)<_;lia
   ·rcases Zco hy with⟨hk,hy⟩|⟨hk,rfl⟩
    ·rw[List.getElem?_append_left (by lia)] at hx;exact hch k x y hx hy
    ·rw[List.getElem?_append_left (by lia)] at hx;exact hlast x (by rw[<- hx];congr 1;lia)
   ·rw[List.length_append,List.length_singleton,Nat.add_sub_cancel,List.getElem?_append_right (Nat.le_refl _),Nat.sub_self] at hy;cases hy;exact hz1
def Cyc(us:Str->List Str)(ns:List Str):Prop := ∃S:List Str,S ≠ []/\(∀n∈S,n∈ns)/\∀n∈S,∃m∈us n,m∈S
theorem ZhL{us:Str->List Str}{S ls:List Str}(k:∀n∈S,∃m∈us n,m∈S)(h:∀n∈S,n∈ls):∀n∈S,n∈ZhP us ls:=fun n hn=>by
 obtain⟨m,h1,h2⟩:=k n hn;exact List.mem_filter.mpr ⟨h n hn,List.any_eq_true.mpr ⟨m,h1,List.contains_iff_mem.mpr (h m h2)⟩⟩
theorem Zii{us:Str->List Str}{ls:List Str}(h : ¬ (ZhP us ls).length<ls.length):∀n∈ls,∃m∈us n,m∈ls:=fun n hn=>by
 by_cases k:((us n).any fun m=>ls.contains m)=true
 ·obtain⟨m,h1,h2⟩:=List.any_eq_true.mp k;exact⟨m,h1,List.contains_iff_mem.mp h2⟩
 ·exact absurd (List.length_filter_lt_length_iff_exists.mpr ⟨n,hn,k⟩) h
theorem Zhu{K:PySem.W.Frag}{C:Addr}{H H1:Hp}{E:XK}{l:Addr}{ns:List Str}(sm:Zk H H1)(hl:H1 l=some (.lst (ns.map V.str)))(h8:ns.length<=8)(hns:∀n∈ns,Upr n/\n.length<=8)
  (q2:∀(dx l2:Addr)(H':Hp),Zk H H'->H dx=none->H l2=none->H' dx=some (.xd [("names",.ref l2)])->H' l2=some (.lst (ns.map V.str))->E (.ref C) (some dx) H') :
  ([V.ref l].length<=1000)/\∀y,H1 y=none->Zey K C [.ref y,.ref l] (upd H1 y (.ext (Zc3 y (.ref C) none)))
   (fun v H2=>v=.non/\∃d,H2 y=some (.ext (Zc3 y (.ref C) d))/\E (.ref C) d (upd H2 y (.ext (XO y (.ref C) d)))) E0:=by
 refine⟨(by show 1<=1000;decide),fun y hy=>⟨y,l,ns,rfl,by rw[Zi (Zm hl hy)];exact hl,h8,hns,Zb,fun l2 dx hl2 hdx hne=>⟨rfl,some dx,Zb,?_⟩⟩⟩;obtain⟨n1,f1⟩:=Za4 hl2;obtain⟨n2,f2⟩:=Za4 hdx;obtain⟨_,f3⟩:=Za4 f2;refine q2 dx l2 _ (((((sm.upd_new (sm.free hy)).upd_new (sm.free f1)).upd_new (sm.free f3)).upd_new (sm.free hy)).upd_new (sm.free hy)) (sm.free f3) (sm.free f1) ?_ ?_
 ·rw[Zi hne,Zi hne,Zb]
 ·rw[Zi n1,Zi n1,Zi n2.symm,Zb]
def ZfY(K:PySem.W.Frag)(C:Addr):Sp:=fun vs H Q E=>∃p ws bk,vs=[.ref p]/\SqT K H p ws/\BkR K H ws bk/\bk.length<=8/\(bk.map (·.1)).Nodup/\(∀x∈bk,Bk1 x)/\(∀x∈bk,Upr x.1)/\(¬ Cyc (usB bk) (bk.map (·.1))->∀H',Zk H H'->Q .non H') /\
 (Cyc (usB bk) (bk.map (·.1))->∀(rg:List Str)(dx l2:Addr)(H':Hp),Zk H H'->H dx=none->H l2=none->H' dx=some (.xd [("names",.ref l2)])->H' l2=some (.lst (rg.map V.str))->Zkd (usB bk) (bk.map (·.1)) rg->E (.ref C) (some dx) H')
def RgX(K:PySem.W.Frag)(bk:List (Str×Ex))(p d:Addr)(H:Hp)(m:Nat)(σ : St)(H6:Hp):Prop := ∃(ls:List Str)(la ga:Addr),m=ls.length /\ σ =[some (.ref p),some (.ref d),some (.ref la),some (.ref ga)]/\Zk H H6/\UsR H6 d ls (usB bk)/\SqL K H6 la (ls.map V.str)/\H6 ga=some (.lst ((ZhP (usB bk) ls).map V.str))/\(∀n∈ls,n∈bk.map (·.1))/\ls.length<=8/\∀S:List Str,(∀n∈S,n∈bk.map (·.1))->(∀n∈S,∃m∈usB bk n,m∈S)->∀n∈S,n∈ls
set_option maxHeartbeats 2000000 in
theorem ZdN(B:∀x∈Zbv,mg x=none)(xc:XC K mg X_GroveError X_NoBook X_TwiceNamed X_NoName X_Ring)(g_names_outside:Has P w K mg base "names_outside" ["expr"] 14 (ZjQ K false 13)) (g_ring_or_before:Has P w K mg base "ring_or_before" ["uses","names"] 1 (ZkS K)) (x_Ring:XMk P w K mg base X_Ring X_GroveError "Ring" ["self","names"] 1 (Zey K X_Ring)) (g_ring_from:Has P w K mg base "ring_from" ["uses","names"] 1 (Zgd K)) (F:Fun K "refuse_rings" "refuse_rings" ZaF f fd):FnOk P w K mg base (CXE P w) 15 f fd ["book"] (ZfY K X_Ring):=by
 refine F.okX Zau (fun vs H Q E h=>?_) (fun cdv A outer s H vs Q E hr h=>?_)
 ·obtain⟨p,ws,bk,rfl,_⟩:=h;rfl
 obtain⟨p,ws,bk,rfl,hS,hB,hl,hn,h1,hup,q1,q2⟩:=h;refine⟨_,(Zc (Zt (i:=1) Zau.nd rfl (Or.inl rfl) (Zam (Zd6 rfl) rfl (B "dict" (by decide)) ZhE (Za (ZbS (cl:=[]) ["name","expr"] [] (Zdl (pv 0)) (fun _ _ _ _=>(Zdj (K:=K) (n:=2) rfl rfl (Zv (Zn (i:=0) (show List.Nodup (["name","expr"]:List Str) by decide) rfl (Or.inl rfl)) (Zv (Zn (i:=1) (show List.Nodup (["name","expr"]:List Str) by decide) rfl (Or.inl rfl)) ZaG)))) (fun _ _ _ _=>(ZM (Za (pv 0) (Za (ZQ g_names_outside hr rfl (Za (pv 1) Zd)) Zd)))) rfl rfl (by decide) rfl (by decide) (fun _ _ h=>nomatch h) (Zc1 (by decide)) (fun _ _ h=>nomatch h) (fun _=>rfl)) Zd)))
  (Zc (Zt (i:=2) Zau.nd rfl (Or.inl rfl) (Zam (ZfC rfl) rfl (B "list" (by decide)) Zc6 (Za (pv 1) Zd)))
  (Zc (Zt (i:=3) Zau.nd rfl (Or.inl rfl) (ZQ g_ring_or_before hr rfl (Za (pv 1) (Za (pv 2) Zd))))
  (Zc (Zcl PassesOwn.leaving (Zo ZhJ (Zu ZD rfl (B "len" (by decide)) PySem.boot_len (Za (pv 3) Zd)) (Zu ZD rfl (B "len" (by decide)) PySem.boot_len (Za (pv 2) Zd)) (ZG _))
   (Zc (Zt (i:=2) Zau.nd rfl (Or.inl rfl) (pv 3))
    (Zf (Zt (i:=3) Zau.nd rfl (Or.inl rfl) (ZQ g_ring_or_before hr rfl (Za (pv 1) (Za (pv 2) Zd)))))))
  (Zf (Z2 (Z1 (pv 2) (fun _=>rfl))
   (Zf (ZdR x_Ring ZbI hr rfl (Za (ZQ g_ring_from hr rfl (Za (pv 1) (Za (pv 2) Zd))) Zd)))
   Zq)))))),?_⟩
 have hlen:ws.length=bk.length:=Paired.length hB;refine⟨_,rfl,p,rfl,⟨ws,hS⟩,fun pl hpl=>ZcR (K:=K) (a:=p) (p:=pl) (xs:=ws) (fun i ys σ H2=>∃(v0 v1:Option V)(kvs:List (Key×V)),σ =[v0,v1]/\Zk H H2/\H2 pl=some (.lst ys)/\Paired (fun(y:V)(kv:Key×V)=>∃t,y=.ref t/\H2 t=some (.tup [kV kv.1,kv.2])) ys kvs/\Paired (KvU pl H2) kvs (bk.take i))
  ⟨none,none,[],rfl,Zk.new hpl,Zb,.nil,.nil⟩ ?_ ?_ ?_⟩
 ·rintro i ys σ H2 _ ⟨v0,v1,kvs,_,sm,hp2,_⟩;exact⟨TF.same sm _ _ hS,hp2⟩
 ·rintro i ys x σ H2 hi hx ⟨v0,v1,kvs,rfl,sm,hp2,P1,P2⟩;obtain⟨x,hx1,pp,qq,rfl,e1,e2⟩:=Z7 hB hx;obtain⟨b1,b2,b3,b4⟩:=h1 x (List.mem_of_getElem? hx1);obtain⟨hi1,hi2⟩:=List.getElem?_eq_some_iff.mp hx1;have hyl:ys.length=i:=by
   rw[Paired.length P1,Paired.length P2,List.length_take];lia
  refine⟨pp,_,rfl,SqT.of (sm _ _ e1),rfl,_,_,rfl,_,_,rfl,rfl,?_⟩;refine⟨_,rfl,_,rfl,qq,x.2,rfl,e2.mono (TF.same sm),b2,b3,fun l3 H3 s3 f3 e3=>⟨(by show(2:Nat)<=sizeLine;decide),fun t4 ht4=>?_⟩⟩;have s4:Zk H3 (upd H3 t4 (.tup [.str x.1,.ref l3])):=Zk.new ht4;have hp4:=s4 _ _ (s3 _ _ hp2);have s24:=s3.trans s4;have n3:l3≠pl:=fun z=>by rw[z,hp2] at f3;cases f3
  have e4:upd H3 t4 (.tup [.str x.1,.ref l3]) t4=some (.tup [.str x.1,.ref l3]):=Zb;generalize upd H3 t4 (.tup [.str x.1,.ref l3])=H4 at s4 hp4 s24 e4 ⊢;refine⟨hp4,ZR (by rw[hyl];lia),CW.next hi ⟨_,_,kvs ++ [(.inr x.1,.ref l3)],rfl,(sm.trans s24).upd_new hpl,Zb,?_,?_⟩⟩
  ·have tl:∀t ys',H4 t=some (.tup ys')->upd H4 pl (.lst (ys ++ [.ref t4])) t=some (.tup ys'):=fun t ys' ht=>by
    have:t≠pl:=fun z=>by rw[z,hp4] at ht;cases ht
    rw[Zi this];exact ht
   refine Paired.app (Paired.mapP P1 fun y kv z=>?_) (.cons ⟨t4,rfl,tl _ _ e4⟩ .nil);obtain⟨t,rfl,ht⟩:=z;exact⟨t,rfl,tl _ _ (s24 _ _ ht)⟩
  ·have tl:∀t ys',t≠pl->H4 t=some (.lst ys')->upd H4 pl (.lst (ys ++ [.ref t4])) t=some (.lst ys'):=fun t ys' hne ht=>by
    rw[Zi hne];exact ht
   rw[List.take_succ_eq_append_getElem hi1,hi2];refine Paired.app (Paired.mapP P2 fun kv y z=>?_) (.cons ⟨rfl,l3,n3,rfl,tl _ _ n3 (s4 _ _ e3)⟩ .nil);obtain⟨z1,b,z0,z2,z3⟩:=z;exact⟨z1,b,z0,z2,tl _ _ z0 (s24 _ _ z3)⟩
 ·rintro ys σ H2 ⟨v0,v1,kvs,_,sm,hp2,P1,P2⟩;rw[hlen,List.take_length] at P2;have hkl:kvs.length=bk.length:=Paired.length P2;have hkeys:=ZeK P2;have hnk:(kvs.map (·.1)).Nodup:=by
   rw[hkeys];exact List.pairwise_map.mpr (hn.imp fun{x y} hxy z=>hxy (Sum.inr.inj z))
  have hpa:putAll kvs=kvs:=by
   have:=Zfn kvs [] hnk;rw[List.nil_append] at this;exact this
  refine⟨pl,ys,kvs,rfl,SqL.of hp2,by rw[Paired.length P1];lia,P1,fun d hd=>?_⟩;rw[hpa];have s1:Zk H2 (upd H2 d (.dK kvs)):=Zk.new hd;have e1:upd H2 d (.dK kvs) d=some (.dK kvs):=Zb;generalize upd H2 d (.dK kvs)=H3 at s1 e1 ⊢;refine⟨_,rfl,d,kvs,rfl,e1,fun l hl3=>?_⟩;have s2:Zk H3 (upd H3 l (.lst (kvs.map fun p=>kV p.1))):=Zk.new hl3;have e2:upd H3 l (.lst (kvs.map fun p=>kV p.1)) l=some (.lst ((bk.map (·.1)).map V.str)):=by
   rw[Zb,show(kvs.map fun p=>kV p.1)=(kvs.map (·.1)).map kV by rw[List.map_map];rfl,hkeys,List.map_map];rfl
  generalize upd H3 l (.lst (kvs.map fun p=>kV p.1))=H4 at s2 e2 ⊢;have U:UsR H4 d (bk.map (·.1)) (usB bk):=⟨kvs,s2 _ _ e1,fun n hn'=>by
   obtain⟨x,hx,rfl⟩:=List.mem_map.mp hn';obtain⟨b,h4,h5⟩:=Zgp P2 hn hx;have h6:=ZdC false x.2;have h7:=(h1 x hx).2.2.1;refine⟨b,h4,?_,?_⟩
   ·rw[Zfu hn hx];exact s2 _ _ (s1 _ _ h5)
   ·rw[Zfu hn hx];lia⟩
  refine⟨_,rfl,_,rfl,d,l,bk.map (·.1),usB bk,rfl,U,SqL.of e2,by rw[List.length_map];lia,fun l5 H5 s5 e5=>?_⟩;refine⟨RgX K bk p d H,⟨_,bk.map (·.1),l,l5,rfl,rfl,((sm.trans s1).trans s2).trans s5,U.same s5,SqL.of (s5 _ _ e2),e5,fun _ h=>h,by rw[List.length_map];exact hl,fun S h _=>h⟩,?_⟩;rintro m σ H6 ⟨ls,la,ga,rfl,rfl,s6,U6,hla,hga,hsub,hll,hcy⟩;refine⟨_,rfl,ga,_,rfl,.inl (SqL.of hga),_,rfl,la,_,rfl,.inl hla,_,_,rfl,rfl,_,rfl,Zaz (fun z=>?_) (fun z=>?_)⟩
  ·have z:=of_decide_eq_true z;rw[List.length_map,List.length_map] at z;have hs:∀n∈ZhP (usB bk) ls,n∈ls:=fun n hn=>(List.mem_filter.mp hn).1;refine⟨fun σ' H'=>∃m',m'<ls.length/\RgX K bk p d H m' σ' H',fun _ _ h=>h,?_⟩;exact⟨_,rfl,_,rfl,_,rfl,d,ga,ZhP (usB bk) ls,usB bk,rfl,U6.less hs,SqL.of hga,by lia,fun l7 H7 s7 e7=>⟨_,by lia,ZhP (usB bk) ls,ga,l7,rfl,rfl,s6.trans s7,(U6.less hs).same s7,SqL.of (s7 _ _ hga),e7,fun n hn=>hsub n (hs n hn),by lia,fun S h k=>ZhL k (hcy S h k)⟩⟩
  ·have hz : ¬ (ZhP (usB bk) ls).length<ls.length:=fun y=>z (decide_eq_true (by rw[List.length_map,List.length_map];lia));have hfix:=Zii hz;cases hc:ls with
   | nil =>
    rw[hc] at hla hcy;refine⟨_,rfl,_,.inl ⟨_,hla,rfl⟩,ZbD (q1 ?_ H6 s6)⟩;rintro⟨S,hS1,hS2,hS3⟩;cases S with
    | nil=>exact hS1 rfl
    | cons a r=>exact nomatch hcy (a::r) hS2 hS3 a (List.mem_cons_self ..)
   | cons a r =>
    have hne:ls ≠ []:=fun k=>by rw[k] at hc;cases hc
    refine⟨_,rfl,_,.inl ⟨_,hla,rfl⟩,?_⟩;have e9:(!(ls.map V.str).isEmpty)=true:=by rw[hc];rfl
    rw[e9];refine Zcz ?_;refine⟨_,rfl,_,rfl,d,la,ls,usB bk,rfl,U6,hla,hne,by lia,hfix,fun l7 rg H7 s7 f7 e7 hrg=>?_⟩;have hrl:=Zcg hrg.2.1 hrg.2.2.1;refine Zhu (s6.trans s7) e7 (by lia) (fun n hn=>?_) (fun dx l2 H' k1 k2 k3 k4 k5=>q2 ⟨ls,hne,hsub,hfix⟩ rg dx l2 H' k1 k2 k3 k4 k5 ⟨hrg.1,hrg.2.1,fun n hn=>hsub n (hrg.2.2.1 n hn),hrg.2.2.2⟩);obtain⟨x,hx,rfl⟩:=List.mem_map.mp (hsub n (hrg.2.2.1 n hn));exact⟨hup x hx,(h1 x hx).1⟩
theorem ZiE:∀{l ns:List Str},ns.Nodup->twI ns l=none->(ns++l).Nodup
 | [],ns,h,_=>by rw[List.append_nil];exact h
 | n::l,ns,h,k=>by
  rw[twI] at k
  split at k
  ·cases k
  ·rename_i hn
   have:=ZiE (l:=l) (ns:=ns ++ [n]) (List.nodup_append.mpr ⟨h,List.nodup_cons.mpr ⟨fun h=>(nomatch h),List.nodup_nil⟩,fun x hx y hy e=>by
    rw[List.mem_singleton.mp hy] at e;exact hn (e ▸ hx)⟩) k
   rw[List.append_assoc] at this;exact this
def Zgc(K:PySem.W.Frag)(C1 C2 C3:Addr):Sp:=fun vs H Q E=>∃T bk,vs=[.str T]/\T=bkT bk/\T.length<=400/\1<=bk.length/\bk.length<=8/\(∀x∈bk,Bk1 x/\Bk2 x) /\
 (∀n,twI [] (bk.map (·.1))=some n->∀(dx:Addr)(H':Hp),Zk H H'->H dx=none->H' dx=some (.xd [("name",.str n)])->E (.ref C1) (some dx) H') /\
 (twI [] (bk.map (·.1))=none->∀n,lkN (bk.map (·.1)) (ZdU bk)=some n->∀(dx:Addr)(H':Hp),Zk H H'->H dx=none->H' dx=some (.xd [("name",.str n)])->E (.ref C2) (some dx) H') /\
 (twI [] (bk.map (·.1))=none->lkN (bk.map (·.1)) (ZdU bk)=none->Cyc (usB bk) (bk.map (·.1))->∀(rg:List Str)(dx l2:Addr)(H':Hp),Zk H H'->H dx=none->H l2=none->H' dx=some (.xd [("names",.ref l2)])->H' l2=some (.lst (rg.map V.str))->Zkd (usB bk) (bk.map (·.1)) rg->E (.ref C3) (some dx) H') /\
 (twI [] (bk.map (·.1))=none->lkN (bk.map (·.1)) (ZdU bk)=none -> ¬ Cyc (usB bk) (bk.map (·.1))->∀l ws H',Zk H H'->SqT K H' l ws->BkR K H' ws bk->Q (.ref l) H')
set_option maxHeartbeats 1000000 in
theorem ZkA(B:∀x∈Zbv,mg x=none)(g_read_pairs:Has P w K mg base "read_pairs" ["text"] 66 (Zf0 K)) (g_refuse_doubles:HasX P w K mg base "refuse_doubles" ["book"] 3 (Zin K X_TwiceNamed)) (g_refuse_unnamed:HasX P w K mg base "refuse_unnamed" ["book"] 15 (ZiV K X_NoName)) (g_refuse_rings:HasX P w K mg base "refuse_rings" ["book"] 15 (ZfY K X_Ring)) (F:Fun K "read" "read" Zed f fd):FnOk P w K mg base (CXE P w) 67 f fd ["text"] (Zgc K X_TwiceNamed X_NoName X_Ring):=by
 refine F.okX ZhX (fun vs H Q E h=>?_) (fun cdv A outer s H vs Q E hr h=>?_)
 ·obtain⟨T,bk,rfl,_⟩:=h;rfl
 obtain⟨T,bk,rfl,eT,hT,hl1,hl,hk,q1,q2,q3,q4⟩:=h;refine⟨_,(Zc (Zt (i:=1) ZhX.nd rfl (Or.inl rfl) (ZQ g_read_pairs hr rfl (Za (pv 0) Zd)))
  (Zc (ZaH (ZeR g_refuse_doubles ZbI hr rfl (Za (pv 1) Zd)))
  (Zc (ZaH (ZeR g_refuse_unnamed ZbI hr rfl (Za (pv 1) Zd)))
  (Zc (ZaH (ZeR g_refuse_rings ZbI hr rfl (Za (pv 1) Zd)))
  (Zf (Zr (pv 1))))))),?_⟩
 have hk1:∀x∈bk,Bk1 x:=fun x hx=>(hk x hx).1;refine⟨_,rfl,T,bk,rfl,eT,hT,hl1,hl,hk,fun l o ws H1 s1 e1 ho hB=>?_⟩;have hS:∀H2,Zk H1 H2->SqT K H2 l ws:=fun H2 s=>.inl (.inr ⟨o,s _ _ e1⟩);refine⟨_,rfl,l,ws,bk,rfl,hS _ (Zk.refl _),hB,by lia,fun x hx=>(hk1 x hx).1,fun ht H2 s2=>?_,fun n hn dx H' k1 k2 k3=>q1 n hn dx H' (s1.trans k1) (s1.free k2) k3⟩;have s12:=s1.trans s2;refine⟨_,rfl,l,o,ws,bk,rfl,s2 _ _ e1,ho,hB.same s2,by lia,hk1,fun hu H3 s3=>?_,fun n hn dx H' k1 k2 k3=>q2 ht n hn dx H' (s12.trans k1) (s12.free k2) k3⟩;have s23:=s2.trans s3;have s13:=s12.trans s3;refine⟨_,rfl,l,ws,bk,rfl,hS _ s23,hB.same s23,hl,ZiE List.nodup_nil ht,hk1,fun x hx=>(hk x hx).2.1,fun hc H4 s4=>?_,fun hc rg dx l2 H' k1 k2 k3 k4 k5 k6=>q3 ht hu hc rg dx l2 H' (s13.trans k1) (s13.free k2) (s13.free k3) k4 k5 k6⟩;have s14:=s23.trans s4;exact⟨_,rfl,q4 ht hu hc l ws H4 (s1.trans s14) (hS _ s14) (hB.same s14)⟩
def ZgD:Sp:=fun vs H Q _=>∃(c:Int)(so:Addr)(ns:List Str),vs=[.int c,.ref so]/\H so=some (.lst (ns.map V.str))/\ns.length<=8/\(∀n∈ns,Upr n/\n.length<=8)/\∀(r p:Addr)(e:Ex)(H':Hp),Zk H H'->ZdL H' r p e->sz e<=2->dp e<=1->wfE e->(∀b,∀n∈nm b e,n∈ns)->bx e<=8->Q (.ref r) H'
set_option maxHeartbeats 1000000 in
theorem ZhM(B:∀x∈Zbv,mg x=none)(g_l_word:Has P w K mg base "_law_word" ["_law_cell","_law_letters"] 1 Zlz) (F:Fun K "_law_leaf" "_law_leaf" Zcj f fd):FnOk P w K mg base CX0 2 f fd ["_law_cell","_law_names"] ZgD:=by
 refine F.ok ZdS (fun vs H Q E h=>?_) (fun cdv A outer s H vs Q E hr h=>?_)
 ·obtain⟨c,so,ns,rfl,_⟩:=h;rfl
 obtain⟨c,so,ns,rfl,hS,hn8,hns,q⟩:=h;refine⟨_,(Zc (Z2 (PW.pt (ZeU (Zo ZaM (ZK Za9 (pv 0) Zh) Zh (ZG _)) (Zdy (Zo ZaM (Zu ZD rfl (B "len" (by decide)) PySem.boot_len (Za (pv 1) Zd)) Zh (ZG _)))))
   (Zf (Zr (ZM (Za (ZM (Za Zj Zd)) (Za Zj Zd)))))
   Zq)
  (Zc (Z2 (Zo ZaM (ZK Za9 (pv 0) Zh) Zh (ZG _))
   (Zc (Zt (i:=2) ZdS.nd rfl (Or.inl rfl) (ZQ g_l_word hr rfl (Za (ZK Zbk (pv 0) Zh) (Za Zj Zd))))
    (Zf (Zr (ZM (Za (ZM (Za Zj (Za (pv 2) (Za (ZM (Za Zj Zd)) Zd)))) (Za (pv 2) Zd))))))
   Zq)
  (Zc (Zt (i:=3) ZdS.nd rfl (Or.inl rfl) (ZP Z6 (pv 1) (ZK Za9 (ZK Zbk (pv 0) Zh) (Zu ZD rfl (B "len" (by decide)) PySem.boot_len (Za (pv 1) Zd))) (fun _ _=>rfl)))
  (Zf (Zr (ZM (Za (ZM (Za Zj (Za (pv 3) Zd))) (Za (pv 3) Zd)))))))),?_⟩
 have nilc:∀D:Ends,D.rt=Q->ZkZ (Zll (Zb8 (Zll (Zb8 (tC (V.str "nil")) Zga)) (Zb8 (tC (V.str "{}")) Zga))) D [some (.int c),some (.ref so),none,none] H:=by
  intro D hD;refine⟨(by show 1<=sizeLine;decide),fun p1 hp1=>⟨(by show 2<=sizeLine;decide),fun p2 hp2=>?_⟩⟩;obtain⟨n21,hp2'⟩:=Za4 hp2;rw[hD];exact q p2 p1 .nil _ ((Zk.new hp1).upd_new hp2') ⟨Zb,.nil (by rw[Zi n21.symm];exact Zb),trivial⟩ (by decide) (by decide) trivial (fun b n hn=>nomatch hn) (by decide)
 refine⟨_,rfl,_,_,rfl,rfl,(by show(0:Int)<5;decide),rfl,_,rfl,Zaz (fun _=>Zcz (nilc _ rfl)) (fun _=>?_)⟩;refine⟨_,rfl,so,_,rfl,.inl (SqL.of hS),rfl,_,rfl,Zaz (fun _=>nilc _ rfl) (fun z0=>?_)⟩;have lp:(0:Int)<(((ns.map V.str).length:Nat):Int):=by
  have : ¬ ((((ns.map V.str).length:Nat):Int)=0):=fun y=>z0 (decide_eq_true (congrArg V.int y));lia
 refine⟨_,rfl,_,_,rfl,rfl,(by show(0:Int)<5;decide),rfl,_,rfl,Zaz (fun _=>?_) (fun _=>?_)⟩
 ·refine⟨_,rfl,_,_,rfl,rfl,⟨by decide,by decide⟩,_,_,rfl,ZjY,fun t t1 t8 hx=>?_⟩;refine⟨_,rfl,(by show 1<=sizeLine;decide),fun p0 hp0=>⟨(by show 3<=sizeLine;decide),fun p1 hp1=>⟨_,rfl,(by show 2<=sizeLine;decide),fun p2 hp2=>?_⟩⟩⟩;obtain⟨n10,hp1'⟩:=Za4 hp1;obtain⟨n21,hp2'⟩:=Za4 hp2;obtain⟨n20,hp2''⟩:=Za4 hp2';refine q p2 p1 (.tag t .nil) _ (((Zk.new hp0).upd_new hp1').upd_new hp2'') ⟨?_,.tag (q:=p0) ?_ (.nil ?_),⟨t8,trivial⟩⟩ (by show 1+1<=2;decide) (by show 0+1<=1;decide) ⟨⟨ZhW t1 hx,t8⟩,trivial⟩ (fun b n hn=>by cases b <;> exact nomatch hn) (by show t.length+0<=8;exact t8)
  ·rw[Zb];rfl
  ·rw[Zi n21.symm];exact Zb
  ·rw[Zi n20.symm,Zi n10.symm];exact Zb
 ·obtain⟨t,hat,ht⟩:=Zh8 (ns:=ns) (k:=c / 5 % (((ns.map V.str).length:Nat):Int)) (Int.emod_nonneg _ (Int.ne_of_gt lp)) (by rw[List.length_map];exact Int.emod_lt_of_pos _ (by rw[List.length_map] at lp;exact lp));refine⟨_,rfl,_,rfl,_,_,rfl,rfl,⟨by decide,by decide⟩,_,rfl,so,_,rfl,.inl (SqL.of hS),_,_,rfl,rfl,lp,so,_,_,_,rfl,rfl,SqL.of hS,hat,?_⟩;refine⟨_,rfl,(by show 2<=sizeLine;decide),fun p1 hp1=>⟨_,rfl,(by show 2<=sizeLine;decide),fun p2 hp2=>?_⟩⟩;obtain⟨n21,hp2'⟩:=Za4 hp2;obtain⟨hu1,hu8⟩:=hns t ht;exact q p2 p1 (.name t) _ ((Zk.new hp1).upd_new hp2') ⟨Zb,.name (by rw[Zi n21.symm];exact Zb),hu8⟩ (by show 1<=2;decide) (by show 0<=1;decide) ⟨hu1,hu8⟩ (fun b n hn=>by rw[List.mem_singleton.mp hn];exact ht) (by show t.length+0<=8;exact hu8)
def Zgq(K:PySem.W.Frag)(n:Nat):Sp:=fun vs H Q _=>∃(a:Addr)(ns:List Int)(st:Addr)(i lf room:Int)(nh:Addr)(ot al:List Str),vs=[.ref a,.ref st,.int room,.ref nh]/\St20 K H a ns st i lf/\lf<=100/\2<=room/\room<n/\NmR H nh ot al /\
 ∀(r p:Addr)(e:Ex)(i' lf':Int)(H':Hp),But st H H'->H' st=some (.lst [.int i',.int lf']) -> -1<=i'->0<=lf'->ZdL H' r p e->(sz e:Int)+2*lf'<=2+2*lf->(dp e:Int)<room->Wl ot al e->(bx e:Int)+10*lf'<=8+10*lf->Q (.ref r) H'
theorem kw5(e:Ex):five.contains (kw e)= !(["nil","tag","name"]:List Str).contains (kw e):=by
 cases e with
 | nil=>rfl
 | tag _ _=>rfl
 | name _=>rfl
 | several b _=>cases b <;> rfl
 | rep m _ =>
  show five.contains (Za5 m)= !(["nil","tag","name"]:List Str).contains (Za5 m);unfold Za5
  split
  ·rfl
  ·split <;> rfl
theorem ZlJ(e:Ex)(b:Bool):(Zb3 b).contains (kw e)=(decide (kw e= "or") || (decide (kw e= "turn")&&b)):=by
 have h:∀k:Str,(Zb3 b).contains k=(decide (k= "or") || (decide (k= "turn")&&b)):=by
  intro k;cases b with
  | true =>
   show(["turn","or"]:List Str).contains k=_;rw[Bool.and_true,Bool.or_comm];simp[List.contains_cons,decide_eq_true_eq]
  | false =>
   show(["or"]:List Str).contains k=_;rw[Bool.and_false,Bool.or_false];simp[List.contains_cons]
 exact h _
set_option maxHeartbeats 4000000 in
theorem Zi4(n:Nat)(B:∀x∈Zbv,mg x=none)(g_l_next:Has P w K mg base "_law_next" ["_law_script","_law_state"] 1 (ZgY K)) (g_l_leaf:Has P w K mg base "_law_leaf" ["_law_cell","_law_names"] 2 ZgD) (g_l_made:Has P w K mg base "_law_made" ["_law_script","_law_state","_law_room","_law_names"] (n+3) (Zgq K n)) (g_l_word:Has P w K mg base "_law_word" ["_law_cell","_law_letters"] 1 Zlz) (F:Fun K "_law_made" "_law_made" ZV f fd):FnOk P w K mg base CX0 (n+4) f fd ["_law_script","_law_state","_law_room","_law_names"] (Zgq K (n+1)):=by
 refine F.ok Zal (fun vs H Q E h=>?_) (fun cdv A outer s H vs Q E hr h=>?_)
 ·obtain⟨a,ns,st,i,lf,room,nh,ot,al,rfl,_⟩:=h;rfl
 obtain⟨a,ns,st,i,lf,room,nh,ot,al,rfl,hS,hl100,hr0,hrn,hN,q⟩:=h;have hu:=Zd2 hr;refine ZF ((Ze ZV).drop 10) (Zf (Zr (ZM (Za (ZM (Za (ZP Z6 (ZaA (Za Zj (Za Zj Zd))) (ZK Zb6 (pv 5) Zh) (fun _ _=>rfl)) (Za (pv 11) Zd))) (Za (Zb0 PySem.F.plainAttrs_str PySem.F.slot_str_join PySem.F.type_str_join ZdA (ZP Z6 (ZaA (Za Zj (Za Zj Zd))) (ZK Zb6 (pv 5) Zh) (fun _ _=>rfl)) (Za (pv 10) Zd)) Zd))))) (fun u10 h10 e10=>?_);refine ZF ((Ze ZV).drop 9) (Zc (Zt (i:=11) Zal.nd rfl (Or.inl rfl) (ZM (Za (ZP ZX (ZP Z6 (pv 9) Zh (fun _ _=>rfl)) Zh (fun _ _=>rfl)) (Za (ZP ZX (ZP Z6 (pv 9) Zh (fun _ _=>rfl)) Zh (fun _ _=>rfl)) Zd)))) h10) (fun u9 h9 e9=>?_);refine ZF ((ZaK ((Ze ZV).getD 8 (.Pass ⟨0,0,0,0⟩))).drop 1) (Zf (ZaH (Zb0 PySem.F.plainAttrs_list PySem.F.slot_list_append PySem.F.type_list_append Za3 (pv 10) (Za (pv 7) Zd)))) (fun u8_1 h8_1 e8_1=>?_);refine ZF ((ZaK ((Ze ZV).getD 8 (.Pass ⟨0,0,0,0⟩))).drop 0) (Zc (Z2 (PW.pt (ZeU (Zo ZaM (ZP ZX (pv 6) Zh (fun _ _=>rfl)) Zj (ZG _)) (Zdy (PW.pt (ZgW (Zo ZaM (ZP ZX (pv 6) Zh (fun _ _=>rfl)) Zj (ZG _)) (ZeB (Zo ZaM (pv 5) Zh (ZG _))))))))
   (Zf (Zt (i:=7) Zal.nd rfl (Or.inl rfl) (ZK ZL (ZK ZL Zj (pv 7)) Zj)))
   Zq) h8_1) (fun u8_0 h8_0 e8_0=>?_)
 refine ZF ((Ze ZV).drop 8) (Zc (Za7 PassesOwn.never rfl (ZaS (pv 9)) (ZbH rfl (Zv (Zn (i:=6) Zal.nd rfl (Or.inl rfl)) (Zv (Zn (i:=7) Zal.nd rfl (Or.inl rfl)) ZaG)))
   h8_0) h9) (fun u8 h8 e8=>?_)
 refine ZF ((Ze ZV).drop 7) (Zc (Zt (i:=10) Zal.nd rfl (Or.inl rfl) (ZaA Zd)) h8) (fun u7 h7 e7=>?_);refine ZF ((Ze ZV).drop 6) (Zc (ZbR (cl:=_) (n0:=9) Zal.nd rfl (Or.inl rfl) ["_law_k"] [("_law_script",0),("_law_state",1),("_law_room",2),("_law_names",3)] (ZaU rfl (B "range" (by decide)) (Za Zh Zd)) (fun _ _ _ _=>(Zn (i:=0) (show List.Nodup (["_law_k","_law_script","_law_state","_law_room","_law_names"]:List Str) by decide) rfl (Or.inl rfl))) (fun _ _ _ _=>(ZQ g_l_made hr rfl (Za (pv 1) (Za (pv 2) (Za (ZK Zb6 (pv 3) Zh) (Za (pv 4) Zd)))) (by lia))) rfl rfl (by decide) rfl (by decide) (Zcv (by(repeat' first|exact List.forall_mem_nil _|refine List.forall_mem_cons.mpr ⟨?_,?_⟩) <;> rfl)) (Zbz (by(repeat' first|exact List.forall_mem_nil _|refine List.forall_mem_cons.mpr ⟨?_,?_⟩) <;> first|(intro h;exact⟨_,rfl⟩)|(intro h;exact absurd h (by decide)))) (fun _=>by(repeat' first|exact List.forall_mem_nil _|refine List.forall_mem_cons.mpr ⟨?_,?_⟩) <;> exact⟨rfl,rfl,Or.inl rfl⟩) (fun _=>rfl) rfl) h7) (fun u6 h6 e6=>?_)
 refine ZF ((Ze ZV).drop 5) (Zc (ZbY (ZK Zb6 (ZP Z6 (pv 1) Zh (fun _ _=>rfl)) Zh) (Zeb (pv 1) Zh set_list)) h6) (fun u5 h5 e5=>?_);refine ZF ((ZaK ((Ze ZV).getD 4 (.Pass ⟨0,0,0,0⟩))).drop 3) (Zf (Zr (ZM (Za (ZM (Za (ZP Z6 (ZaA (Za Zj (Za Zj (Za Zj Zd)))) (ZK Za9 (ZK Zbk (pv 4) Zh) Zh) (fun _ _=>rfl)) (Za (pv 6) Zd))) (Za (ZK ZL (pv 7) (ZP ZgN Zj (ZK Za9 (ZK Zbk (pv 4) Zh) Zh) (fun _ _=>rfl))) Zd))))) (fun u4t3 h4t3 e4t3=>?_);refine ZF ((ZaK ((Ze ZV).getD 4 (.Pass ⟨0,0,0,0⟩))).drop 2) (Zc (Z2 (Zo Zby (ZP ZX (pv 6) Zh (fun _ _=>rfl)) (ZM (Za Zj (Za Zj (Za Zj Zd)))) (by with_unfolding_all rfl))
   (Zf (Zt (i:=7) Zal.nd rfl (Or.inl rfl) (ZK ZL (ZK ZL Zj (pv 7)) Zj)))
   Zq) h4t3) (fun u4t2 h4t2 e4t2=>?_)
 refine ZF ((ZaK ((Ze ZV).getD 4 (.Pass ⟨0,0,0,0⟩))).drop 1) (Zc (ZbY (ZQ g_l_made hr rfl (Za (pv 0) (Za (pv 1) (Za (ZK Zb6 (pv 2) Zh) (Za (pv 3) Zd)))) (by lia)) (ZbH rfl (Zv (Zn (i:=6) Zal.nd rfl (Or.inl rfl)) (Zv (Zn (i:=7) Zal.nd rfl (Or.inl rfl)) ZaG)))) h4t2) (fun u4t1 h4t1 e4t1=>?_);refine ZF ((ZaK ((Ze ZV).getD 4 (.Pass ⟨0,0,0,0⟩))).drop 0) (Zc (ZbY (ZK Zb6 (ZP Z6 (pv 1) Zh (fun _ _=>rfl)) Zh) (Zeb (pv 1) Zh set_list)) h4t1) (fun u4t0 h4t0 e4t0=>?_);refine ZF ((Ze ZV).drop 4) (Zc (Z2 (Zo ZaM (pv 5) Zh (ZG _))
   h4t0
   Zq) h5) (fun u4 h4 e4=>?_)
 refine ZF ((ZaK ((Ze ZV).getD 3 (.Pass ⟨0,0,0,0⟩))).drop 3) (Zf (Zr (ZM (Za (ZM (Za Zj (Za (pv 8) (Za (pv 6) Zd)))) (Za (ZP Z6 (ZaA (Za (ZK ZL (ZK ZL (ZK ZL (pv 8) Zj) (pv 7)) Zj) (Za (pv 8) Zd))) (Zam ZcY rfl (B "int" (by decide)) Zgu (Za (Zcx (ZiU hu) (pv 6) (ZM (Za Zj Zd)) (ZG _)) Zd)) (fun _ _=>rfl)) Zd))))) (fun u3t3 h3t3 e3t3=>?_);refine ZF ((ZaK ((Ze ZV).getD 3 (.Pass ⟨0,0,0,0⟩))).drop 2) (Zc (Zt (i:=8) Zal.nd rfl (Or.inl rfl) (ZQ g_l_word hr rfl (Za (ZK Zbk (pv 4) Zh) (Za Zj Zd)) (by lia))) h3t3) (fun u3t2 h3t2 e3t2=>?_);refine ZF ((ZaK ((Ze ZV).getD 3 (.Pass ⟨0,0,0,0⟩))).drop 1) (Zc (ZbY (ZQ g_l_made hr rfl (Za (pv 0) (Za (pv 1) (Za (ZK Zb6 (pv 2) Zh) (Za (ZM (Za (ZP ZX (pv 3) Zh (fun _ _=>rfl)) (Za (ZP ZX (pv 3) Zh (fun _ _=>rfl)) Zd))) Zd)))) (by lia)) (ZbH rfl (Zv (Zn (i:=6) Zal.nd rfl (Or.inl rfl)) (Zv (Zn (i:=7) Zal.nd rfl (Or.inl rfl)) ZaG)))) h3t2) (fun u3t1 h3t1 e3t1=>?_);refine ZF ((ZaK ((Ze ZV).getD 3 (.Pass ⟨0,0,0,0⟩))).drop 0) (Zc (ZbY (ZK Zb6 (ZP Z6 (pv 1) Zh (fun _ _=>rfl)) Zh) (Zeb (pv 1) Zh set_list)) h3t1) (fun u3t0 h3t0 e3t0=>?_);refine ZF ((Ze ZV).drop 3) (Zc (Z2 (Zo ZaM (pv 5) Zh (ZG _))
   h3t0
   Zq) h4) (fun u3 h3 e3=>?_)
 refine ZF ((Ze ZV).drop 2) (Zc (Z2 (PW.pt (ZeU (Zo ZaM (pv 5) Zh (ZG _)) (ZeU (Zo ZhJ (pv 2) Zh (ZG _)) (Zdy (Zo ZhJ (ZP Z6 (pv 1) Zh (fun _ _=>rfl)) Zh (ZG _))))))
   (Zf (Zr (ZQ g_l_leaf hr rfl (Za (ZK Zbk (pv 4) Zh) (Za (ZP ZX (pv 3) Zh (fun _ _=>rfl)) Zd)) (by lia))))
   Zq) h3) (fun u2 h2 e2=>?_)
 refine ZF ((Ze ZV).drop 1) (Zc (Zt (i:=5) Zal.nd rfl (Or.inl rfl) (ZK Za9 (pv 4) Zh)) h2) (fun u1 h1 e1=>?_);refine ZF ((Ze ZV).drop 0) (Zc (Zt (i:=4) Zal.nd rfl (Or.inl rfl) (ZQ g_l_next hr rfl (Za (pv 0) (Za (pv 1) Zd)) (by lia))) h1) (fun u0 h0 e0=>?_);refine⟨u0,h0,?_⟩;refine Zz e0 ?_;refine⟨_,rfl,_,rfl,a,ns,st,i,lf,rfl,hS,fun cell=>?_⟩;have b1:But st H (upd H st (.lst [.int (i+1),.int lf])):=But.up;have hS1:St20 K (upd H st (.lst [.int (i+1),.int lf])) a ns st (i+1) lf:=hS.to b1 Zb (by have:=hS.i0;lia) hS.l0;have hN1:=hN.but b1 hS.at_;generalize upd H st (.lst [.int (i+1),.int lf])=H1 at b1 hS1 hN1 ⊢;obtain⟨⟨xo,xa,hnh,hxo,hxa⟩,hoa,hal,hla,hlo⟩:=id hN1;show u1 _ _ _;refine Zz e1 ?_;refine⟨_,rfl,_,_,rfl,rfl,(by show(0:Int)<5;decide),?_⟩;have w0:=Int.emod_nonneg cell (by decide:(5:Int)≠0);have w9:=Int.emod_lt_of_pos cell (by decide:(0:Int)<5);have leaf:∀D:Ends,D.rt=Q->ZkZ (ZkT ZgD [] E0 (Zb8 (tOp (rI Zmp fun i j=>V.int (i / j)) (Zhg 4) (tC (V.int 5))) (Zb8 (tOp (Zl7 K) (Zhg 3) (tC (V.int 0))) Zga))) D [some (.ref a),some (.ref st),some (.int room),some (.ref nh),some (.int cell),some (.int (cell % 5)),none,none,none,none,none,none] H1:=by
  intro D hD;refine⟨_,rfl,_,_,rfl,rfl,⟨by decide,by decide⟩,_,rfl,nh,_,0,_,rfl,rfl,SqT.of hnh,rfl,_,xo,ot,rfl,hxo,hlo,fun n hn=>hal n (hoa n hn),fun r p e H' s' hp hsz hdp hwf hnm hb=>?_⟩;rw[hD];exact q r p e (i+1) lf H' (b1.trans (But.same s')) (s' _ _ hS1.at_) hS1.i0 hS1.l0 hp (by lia) (by lia) ⟨hwf,hnm false,fun n hn=>hoa n (hnm true n hn)⟩ (by lia)
 show u2 _ _ _;refine Zz e2 ?_;refine⟨_,rfl,rfl,_,rfl,Zaz (fun _=>Zcz (leaf _ rfl)) (fun c0=>?_)⟩;refine⟨_,rfl,_,_,rfl,rfl,_,rfl,Zaz (fun _=>Zcz (leaf _ rfl)) (fun c3=>?_)⟩;refine⟨_,rfl,st,_,1,_,rfl,rfl,SqL.of hS1.at_,rfl,_,_,rfl,rfl,_,rfl,Zaz (fun _=>leaf _ rfl) (fun cl=>?_)⟩;have n0:cell % 5≠0:=fun z=>c0 (decide_eq_true (congrArg V.int z));have h3:3<=room:=by
  have : ¬ (room<3):=fun z=>c3 (decide_eq_true z);lia
 have hl2:2<=lf:=by
  have : ¬ (lf<2):=fun z=>cl (decide_eq_true z);lia
 have b2:∀k:Int,But st H1 (upd H1 st (.lst ([V.int (i+1),.int lf].set 1 (.int (lf-k))))):=fun k=>But.up;have hS2:∀k:Int,0<=lf-k->St20 K (upd H1 st (.lst ([V.int (i+1),.int lf].set 1 (.int (lf-k))))) a ns st (i+1) (lf-k):=fun k hk=>hS1.to (b2 k) Zb hS1.i0 hk;have hN2:∀k:Int,NmR (upd H1 st (.lst ([V.int (i+1),.int lf].set 1 (.int (lf-k))))) nh ot al:=fun k=>hN1.but (b2 k) hS1.at_;show u3 _ _ _;refine Zz e3 ?_;refine⟨_,rfl,rfl,_,rfl,Zaz (fun c1=>?_) (fun c1=>?_)⟩
 ·-- a tag
  refine Zz e3t0 ?_;refine⟨_,rfl,st,_,1,_,rfl,rfl,SqL.of hS1.at_,rfl,_,_,rfl,rfl,_,rfl,st,_,1,1,rfl,rfl,hS1.at_,rfl,?_⟩;have b2:=b2 1;have hS2:=hS2 1 (by lia);have hN2:=hN2 1;generalize upd H1 st (.lst ([V.int (i+1),.int lf].set 1 (.int (lf-1))))=H2 at b2 hS2 hN2 ⊢;obtain⟨⟨xo,xa,hnh,hxo,hxa⟩,_⟩:=id hN2;show u3t1 _ _ _;refine Zz e3t1 ?_;refine⟨_,rfl,_,rfl,_,rfl,_,_,rfl,rfl,_,rfl,nh,_,1,_,rfl,rfl,SqT.of hnh,rfl,_,rfl,nh,_,1,_,rfl,rfl,SqT.of hnh,rfl,(by show 2<=sizeLine;decide),fun nt hnt=>?_⟩;have s3:Zk H2 (upd H2 nt (.tup [.ref xa,.ref xa])):=Zk.new hnt;have hN3:NmR (upd H2 nt (.tup [.ref xa,.ref xa])) nt al al:=⟨⟨xa,xa,Zb,s3 _ _ hxa,s3 _ _ hxa⟩,fun _ h=>h,hal,hla,hla⟩;have hS3':St20 K (upd H2 nt (.tup [.ref xa,.ref xa])) a ns st (i+1) (lf-1):=hS2.to (But.same s3) (s3 _ _ hS2.at_) hS2.i0 hS2.l0;generalize upd H2 nt (.tup [.ref xa,.ref xa])=H2' at s3 hN3 hS3' ⊢;refine⟨a,ns,st,i+1,lf-1,room-1,nt,al,al,rfl,hS3',by lia,by lia,by lia,hN3,fun r p e i2 lf2 H3 b3 hst3 k1 k2 hp hsz hdp hwl hbx=>?_⟩;have b13:=(b1.trans (b2.trans (But.same s3))).trans b3;have hlen:=Zbw e hp.2.2;have hse:sz e<=200:=by lia
  obtain⟨rr,htop,hre⟩:=hp.2.1.top;refine⟨r,_,rfl,SqT.of hp.1,rfl,_,_,rfl,_,_,rfl,rfl,?_⟩;show u3t2 _ _ _;refine Zz e3t2 ?_;refine⟨_,rfl,_,_,rfl,rfl,⟨by decide,by decide⟩,_,_,rfl,ZjY,fun t t1 t8 hx=>?_⟩;show u3t3 _ _ _;refine Zz e3t3 ?_;refine⟨_,rfl,_,rfl,(by show 3<=sizeLine;decide),fun p1 hp1=>?_⟩;have s4:Zk H3 (upd H3 p1 (.tup [.str "tag",.str t,.ref p])):=Zk.new hp1;have e4:upd H3 p1 (.tup [.str "tag",.str t,.ref p]) p1=some (.tup [.str "tag",.str t,.ref p]):=Zb;generalize upd H3 p1 (.tup [.str "tag",.str t,.ref p])=H4 at s4 e4 ⊢;refine⟨_,rfl,_,_,rfl,rfl,Zx (by show _+1<=_;lia),_,rfl,_,_,rfl,rfl,Zx (by rw[Zy];show _+1+_<=_;lia),_,_,rfl,rfl,Zx (by rw[Zy,Zy];show _+1+_+1<=_;lia),_,rfl,(by show 2<=sizeLine;decide),fun l1 hl1=>?_⟩;have s5:Zk H4 (upd H4 l1 (.lst [.str (t ++ "(" ++ tx e ++ ")"),.str t])):=Zk.new hl1;have e5:upd H4 l1 (.lst [.str (t ++ "(" ++ tx e ++ ")"),.str t]) l1=some (.lst [.str (t ++ "(" ++ tx e ++ ")"),.str t]):=Zb;generalize upd H4 l1 (.lst [.str (t ++ "(" ++ tx e ++ ")"),.str t])=H5 at s5 e5 ⊢;refine⟨_,rfl,(by show 1<=sizeLine;decide),fun tn htn=>?_⟩;have s6:Zk H5 (upd H5 tn (.tup [.str "nil"])):=Zk.new htn;have s36:=(s4.trans s5).trans s6;refine⟨p,tn,kw e,rr,"nil",rfl,rfl,SqT.of (s36 _ _ htop),SqT.of Zb,?_⟩;generalize upd H5 tn (.tup [.str "nil"])=H6 at s6 s36 ⊢;rw[hre,ZhQ];have hat:atI [V.str (t ++ "(" ++ tx e ++ ")"),.str t] (if ZbF e=true then 1 else 0)=some (.str (tx (.tag t e))):=by
   by_cases hn:ZbF e=true
   ·rw[if_pos hn,tx,if_pos hn];rfl
   ·rw[if_neg hn,tx,if_neg hn];rfl
  refine⟨ZbF e,rfl,l1,_,_,_,rfl,rfl,SqL.of (s6 _ _ e5),hat,(by show 2<=sizeLine;decide),fun p2 hp2=>?_⟩;have s7:Zk H6 (upd H6 p2 (.tup [.ref p1,.str (tx (.tag t e))])):=Zk.new hp2;have s37:=s36.trans s7;refine q p2 p1 (.tag t e) i2 lf2 _ (b13.trans (But.same s37)) (s37 _ _ hst3) k1 k2 ⟨Zb,.tag (q:=p) (s7 _ _ (s6 _ _ (s5 _ _ e4))) (hp.tk s37.tk).2.1,⟨t8,hp.2.2⟩⟩ ?_ ?_ ⟨⟨⟨ZhW t1 hx,t8⟩,hwl.1⟩,fun n hn=>(nomatch hn),hwl.2.2⟩ ?_
  ·show((sz e+1:Nat):Int)+2*lf2<=_;lia
  ·show((dp e+1:Nat):Int)<room;lia
  ·have h9:(tx (.tag t e)).length<=t.length+1+(tx e).length+1:=by
    rw[tx]
    split
    ·lia
    ·rw[Zy,Zy,Zy];exact Nat.le_refl _
   have h10:bx (.tag t e)=(tx (.tag t e)).length:=rfl;have h11:(tx e).length<=bx e:=Nat.le_add_right _ _;rw[h10];lia
 have n1:cell % 5≠1:=fun z=>c1 (decide_eq_true (congrArg V.int z));show u4 _ _ _;refine Zz e4 ?_;refine⟨_,rfl,rfl,_,rfl,Zaz (fun c2=>?_) (fun c2=>?_)⟩
 ·-- many,some,maybe
  refine Zz e4t0 ?_;refine⟨_,rfl,st,_,1,_,rfl,rfl,SqL.of hS1.at_,rfl,_,_,rfl,rfl,_,rfl,st,_,1,1,rfl,rfl,hS1.at_,rfl,?_⟩;have b2:=b2 1;have hS2:=hS2 1 (by lia);have hN2:=hN2 1;generalize upd H1 st (.lst ([V.int (i+1),.int lf].set 1 (.int (lf-1))))=H2 at b2 hS2 hN2 ⊢;show u4t1 _ _ _;refine Zz e4t1 ?_;refine⟨_,rfl,_,rfl,_,rfl,_,_,rfl,rfl,_,rfl,a,ns,st,i+1,lf-1,room-1,nh,ot,al,rfl,hS2,by lia,by lia,by lia,hN2,fun r p e i2 lf2 H3 b3 hst3 k1 k2 hp hsz hdp hwl hbx=>?_⟩;have b13:=(b1.trans b2).trans b3;have hlen:=Zbw e hp.2.2;have hse:sz e<=200:=by lia
  obtain⟨rr,htop,hre⟩:=hp.2.1.top;refine⟨r,_,rfl,SqT.of hp.1,rfl,_,_,rfl,_,_,rfl,rfl,?_⟩;have hb:=ZeL five (kw e) (tx e);have c0:=Int.emod_nonneg (cell / 5) (by decide:(3:Int)≠0);have c3:=Int.emod_lt_of_pos (cell / 5) (by decide:(0:Int)<3);obtain⟨m,hm⟩:∃m:Nat,cell / 5 % 3=(m:Int):=⟨(cell / 5 % 3).toNat,by lia⟩;have m3:m<3:=by lia
  have hmw:atI [V.str "many",.str "some",.str "maybe"] (cell / 5 % 3)=some (.str (Za5 m)):=by
   rw[hm]
   match m,m3 with
   | 0,_=>rfl
   | 1,_=>rfl
   | 2,_=>rfl
  have hmk:∃c,atI (Str.ofString "*+?").cps.toList (cell / 5 % 3)=some c/\(⟨#[c]⟩:Str)=Zd3 m:=by
   rw[hm]
   match m,m3 with
   | 0,_=>exact⟨_,rfl,rfl⟩
   | 1,_=>exact⟨_,rfl,rfl⟩
   | 2,_=>exact⟨_,rfl,rfl⟩
  have h3:(Zd3 m).length=1:=by unfold Zd3;split;rfl;split <;> rfl
  have fin:∀H4,Zk H3 H4->∀D:Ends,D.rt=Q->u4t3 D [some (.ref a),some (.ref st),some (.int room),some (.ref nh),some (.int cell),some (.int (cell % 5)),some (.ref p),some (.str (brc five (kw e) (tx e))),none,none,none,none] H4:=by
   intro H4 s4 D hD;refine Zz e4t3 ?_;refine⟨(by show 3<=sizeLine;decide),fun l2 hl2=>⟨_,rfl,_,_,rfl,rfl,⟨by decide,by decide⟩,_,_,rfl,rfl,(by show(0:Int)<3;decide),l2,_,_,_,rfl,rfl,SqL.of Zb,hmw,?_⟩⟩;have s5:Zk H3 (upd H4 l2 (.lst [.str "many",.str "some",.str "maybe"])):=s4.upd_new (s4.free hl2);generalize upd H4 l2 (.lst [.str "many",.str "some",.str "maybe"])=H5 at s5 ⊢;refine⟨_,rfl,(by show 2<=sizeLine;decide),fun p1 hp1=>?_⟩;have s6:Zk H5 (upd H5 p1 (.tup [.str (Za5 m),.ref p])):=Zk.new hp1;have e6:(upd H5 p1 (.tup [.str (Za5 m),.ref p])) p1=some (.tup [.str (Za5 m),.ref p]):=Zb;generalize upd H5 p1 (.tup [.str (Za5 m),.ref p])=H6 at s6 e6 ⊢;obtain⟨mc,hmc,hme⟩:=hmk;refine⟨_,rfl,_,rfl,_,_,rfl,rfl,⟨by decide,by decide⟩,_,_,rfl,rfl,(by show(0:Int)<3;decide),_,_,mc,rfl,rfl,(by decide),hmc,?_⟩;rw[hme];refine⟨_,_,rfl,rfl,Zx (by rw[h3];lia),(by show 2<=sizeLine;decide),fun p2 hp2=>?_⟩;have s8:Zk H6 (upd H6 p2 (.tup [.ref p1,.str (brc five (kw e) (tx e)++Zd3 m)])):=Zk.new hp2;have s38:=(s5.trans s6).trans s8;rw[hD];refine q p2 p1 (.rep m e) i2 lf2 _ (b13.trans (But.same s38)) (s38 _ _ hst3) k1 k2 ⟨?_,.rep (q:=p) (s8 _ _ e6) (hp.tk s38.tk).2.1,hp.2.2⟩ ?_ ?_ ⟨⟨by lia,hwl.1⟩,hwl.2⟩ ?_
   ·rw[tx];exact Zb
   ·show((sz e+1:Nat):Int)+2*lf2<=_;lia
   ·show((dp e+1:Nat):Int)<room;lia
   ·have h9:=ZjU (l:=five) (fun _ h=>h) e;have h10:bx (.rep m e)<=(brc five (kw e) (tx e)).length+1+2:=by
     unfold bx;rw[tx,Zy,h3]
     split <;> lia
    lia
  show u4t2 _ _ _;refine Zz e4t2 ?_;refine⟨_,rfl,p,_,0,_,rfl,rfl,SqT.of htop,at0,(by show 3<=sizeLine;decide),fun tn htn=>⟨tn,_,rfl,.inr (SqT.of Zb),rfl,Zbf ["nil","tag","name"],_,rfl,?_⟩⟩;have s4:Zk H3 (upd H3 tn (.tup [.str "nil",.str "tag",.str "name"])):=Zk.new htn;generalize upd H3 tn (.tup [.str "nil",.str "tag",.str "name"])=H4 at s4 ⊢;have hin:(!inV (.str (kw e)) ((["nil","tag","name"]:List Str).map V.str))=five.contains (kw e):=by rw[ZbA,kw5]
  refine Zaz (fun z=>?_) (fun z=>?_)
  ·have z:five.contains (kw e)=true:=by rw[<- hin];exact z
   refine⟨_,rfl,_,_,rfl,rfl,Zx (by show 1+_<=_;lia),_,_,rfl,rfl,Zx (by rw[Zy];show 1+_+1<=_;lia),?_⟩;have:=fin H4 s4;unfold brc at this;rw[if_pos z] at this;exact this _ rfl
  ·have z : ¬ five.contains (kw e)=true:=by rw[<- hin];exact z
   have:=fin H4 s4;unfold brc at this;rw[if_neg z] at this;exact this _ rfl
 have n2:cell % 5≠2:=fun z=>c2 (decide_eq_true (congrArg V.int z));obtain⟨b,hb3⟩:∃b:Bool,cell % 5=if b=true then 3 else 4:=by
  by_cases h:cell % 5=3
  ·exact⟨true,h⟩
  ·exact⟨false,by show cell % 5=4;lia⟩
 show u5 _ _ _;refine Zz e5 ?_;refine⟨_,rfl,st,_,1,_,rfl,rfl,SqL.of hS1.at_,rfl,_,_,rfl,rfl,_,rfl,st,_,1,1,rfl,rfl,hS1.at_,rfl,?_⟩;have b2:=b2 2;have hS2:=hS2 2 (by lia);have hN2:=hN2 2;generalize upd H1 st (.lst ([V.int (i+1),.int lf].set 1 (.int (lf-2))))=H2 at b2 hS2 hN2 ⊢;show u6 _ _ _;refine Zz e6 ?_;refine⟨2,rfl,by decide,by decide,fun pl hpl=>Zck (lo:=0) (n:=(2:Int).toNat) (p:=pl) (fun k ys σ H3=>∃(v0:Option V)(rs qs:List Addr)(es:List Ex)(i' lf':Int),σ =[v0,some (.ref a),some (.ref st),some (.int room),some (.ref nh)]/\But st H2 H3/\H3 st=some (.lst [.int i',.int lf']) /\ -1<=i'/\0<=lf'/\H3 pl=some (.lst ys)/\ys=rs.map V.ref/\Prs H3 rs qs es/\rs.length=k /\
  (szL es:Int)+2*lf'<=2*k+2*(lf-2)/\(∀e∈es,(dp e:Int)<=room-2)/\(∀e∈es,w8 e)/\(∀e∈es,Wl ot al e)/\(bxL es:Int)+10*lf'<=8*k+10*(lf-2)) ⟨none,[],[],[],i+1,lf-2,rfl,(But.same (Zk.new hpl)),by rw[Zi (Zm hS2.at_ hpl)];exact hS2.at_,hS2.i0,hS2.l0,Zb,rfl,⟨rfl,rfl,fun _ _ _ _ h=>by simp at h⟩,rfl,(by show(0:Int)+2*(lf-2)<=2*((0:Nat):Int)+2*(lf-2);lia),(fun _ h=>nomatch h),(fun _ h=>nomatch h),(fun _ h=>nomatch h),(by show(0:Int)+10*(lf-2)<=8*((0:Nat):Int)+10*(lf-2);lia)⟩ ?_ ?_ ?_⟩
 ·rintro k ys σ H3 _ ⟨v0,rs,qs,es,i',lf',_,_,_,_,_,hp2,_⟩;exact hp2
 ·rintro k ys σ H3 hk ⟨v0,rs,qs,es,i',lf',rfl,bt,hst,hi',hlf',hp2,rfl,hP,hrl,hsz,hdp,hw8,hwl,hbx⟩;have npl:pl≠st:=(Zm hS2.at_ hpl).symm;have hk':k<2:=hk;refine⟨_,rfl,_,rfl,_,rfl,_,_,rfl,rfl,_,rfl,a,ns,st,i',lf',room-1,nh,ot,al,rfl,hS2.to bt hst hi' hlf',by lia,by lia,by lia,hN2.but bt hS2.at_,fun r p e i2 lf2 H4 b3 h3 i20 l20 hpr hsz2 hdp2 hwl2 hbx2=>?_⟩;have hp3:=b3 _ _ npl hp2;have tk:TK H3 (upd H4 pl (.lst (rs.map V.ref ++ [.ref r]))):=(b3.tk hst).trans (TK.lst hp3);refine⟨hp3,ZR (by rw[List.length_map];lia),CW.next hk ⟨_,rs ++ [r],qs ++ [p],es ++ [e],i2,lf2,rfl,?_,by rw[Zi npl.symm];exact h3,i20,l20,Zb,by simp,(hP.tk tk).snoc (hpr.tk (TK.lst hp3)),by simp[hrl],?_,?_,?_,?_,?_⟩⟩
  ·intro b o nb hb;rw[Zi (Zm hb hpl)];exact b3 _ _ nb (bt _ _ nb hb)
  ·unfold szL at hsz ⊢;rw[List.map_append,List.sum_append];simp only[List.map_cons,List.map_nil,List.sum_cons,List.sum_nil];lia
  ·intro x hx;rcases List.mem_append.mp hx with hx|hx
   ·exact hdp x hx
   ·rw[List.mem_singleton.mp hx];lia
  ·intro x hx;rcases List.mem_append.mp hx with hx|hx
   ·exact hw8 x hx
   ·rw[List.mem_singleton.mp hx];exact hpr.2.2
  ·intro x hx;rcases List.mem_append.mp hx with hx|hx
   ·exact hwl x hx
   ·rw[List.mem_singleton.mp hx];exact hwl2
  ·unfold bxL at hbx ⊢;rw[List.map_append,List.sum_append];simp only[List.map_cons,List.map_nil,List.sum_cons,List.sum_nil];lia
 rintro ys σ H3 ⟨v0,rs,qs,es,i',lf',rfl,bt,hst,hi',hlf',hp2,rfl,hP,hrl,hsz,hdp,hw8,hwl,hbx⟩;have hrl:rs.length=2:=hrl;have hel:es.length=2:=by rw[<- hP.1];exact hrl
 have hql:qs.length=2:=by rw[hP.2.1];exact hel
 have hws:w8s (ofL es):=Zj2 es hw8;have hsz':szL es<=200:=by lia
 show u7 _ _ _;refine Zz e7 ?_;refine⟨(by show 0<=sizeLine;decide),fun tl htl=>?_⟩;have s4:Zk H3 (upd H3 tl (.lst [])):=Zk.new htl;have e4':upd H3 tl (.lst []) tl=some (.lst []):=Zb;generalize upd H3 tl (.lst [])=H4 at s4 e4' ⊢;show u8 _ _ _;refine Zz e8 ?_;refine⟨_,rfl,pl,rfl,⟨_,SqL.of (s4 _ _ hp2)⟩,ZbT (K:=K) (a:=pl) (xs:=rs.map V.ref) (fun k σ H5=>∃v6 v7:Option V,σ =[some (.ref a),some (.ref st),some (.int room),some (.ref nh),some (.int cell),some (.int (cell % 5)),v6,v7,none,some (.ref pl),some (.ref tl),none]/\Zk H3 H5/\H5 tl=some (.lst (((es.map fun e=>brc (Zb3 b) (kw e) (tx e)).take k).map V.str)))
  ⟨none,none,rfl,s4,e4'⟩ ?_ ?_ ?_⟩
 ·rintro k σ H5 _ ⟨v6,v7,_,sm,_⟩;exact SqL.of (sm _ _ hp2)
 ·rintro k x σ H5 hx ⟨v6,v7,rfl,sm,htl5⟩;rw[List.getElem?_map] at hx;obtain⟨r,hrk,rfl⟩:=Option.map_eq_some_iff.mp hx;obtain⟨hk,hrk'⟩:=List.getElem?_eq_some_iff.mp hrk;have hkq:k<qs.length:=by lia
  have hke:k<es.length:=by lia
  have pr:=(hP.2.2 k _ _ _ hrk (List.getElem?_eq_getElem hkq) (List.getElem?_eq_getElem hke)).tk sm.tk;have hse:=ZkN (List.getElem_mem hke);obtain⟨rr,htop,hre⟩:=pr.2.1.top;have hlen:=Zbw es[k] pr.2.2;refine⟨r,_,rfl,SqT.of pr.1,rfl,_,_,rfl,_,_,rfl,rfl,?_⟩;have fin:∀D:Ends,(∀ σ H6,(∃v6 v7:Option V,σ =[some (.ref a),some (.ref st),some (.int room),some (.ref nh),some (.int cell),some (.int (cell % 5)),v6,v7,none,some (.ref pl),some (.ref tl),none]/\Zk H3 H6/\H6 tl=some (.lst (((es.map fun e=>brc (Zb3 b) (kw e) (tx e)).take (k+1)).map V.str)))->D.nx σ H6)->u8_1 D [some (.ref a),some (.ref st),some (.int room),some (.ref nh),some (.int cell),some (.int (cell % 5)),some (.ref qs[k]),some (.str (brc (Zb3 b) (kw es[k]) (tx es[k]))),none,some (.ref pl),some (.ref tl),none] H5:=by
   intro D hD;refine Zz e8_1 ?_;refine⟨_,rfl,.inl ⟨rfl,_,SqL.of htl5⟩,_,rfl,tl,_,_,rfl,rfl,htl5,ZR (by rw[List.length_map,List.length_take];lia),hD _ _ ⟨_,_,rfl,?_,?_⟩⟩
   ·intro b o hb;rw[Zi (Zm hb htl)];exact sm _ _ hb
   ·rw[Zb,List.take_succ_eq_append_getElem (by rw[List.length_map];exact hke),List.map_append,List.getElem_map];rfl
  have hks:=ZlJ es[k] b;have yes:(Zb3 b).contains (kw es[k])=true->∀D:Ends,(∀ σ H6,(∃v6 v7:Option V,σ =[some (.ref a),some (.ref st),some (.int room),some (.ref nh),some (.int cell),some (.int (cell % 5)),v6,v7,none,some (.ref pl),some (.ref tl),none]/\Zk H3 H6/\H6 tl=some (.lst (((es.map fun e=>brc (Zb3 b) (kw e) (tx e)).take (k+1)).map V.str)))->D.nx σ H6)->u8_1 D [some (.ref a),some (.ref st),some (.int room),some (.ref nh),some (.int cell),some (.int (cell % 5)),some (.ref qs[k]),some (.str ("{" ++ tx es[k] ++ "}")),none,some (.ref pl),some (.ref tl),none] H5:=by
   intro z D hD;have:=fin D hD;unfold brc at this;rw[if_pos z] at this;exact this
  have no : ¬ (Zb3 b).contains (kw es[k])=true->∀D:Ends,(∀ σ H6,(∃v6 v7:Option V,σ =[some (.ref a),some (.ref st),some (.int room),some (.ref nh),some (.int cell),some (.int (cell % 5)),v6,v7,none,some (.ref pl),some (.ref tl),none]/\Zk H3 H6/\H6 tl=some (.lst (((es.map fun e=>brc (Zb3 b) (kw e) (tx e)).take (k+1)).map V.str)))->D.nx σ H6)->u8_1 D [some (.ref a),some (.ref st),some (.int room),some (.ref nh),some (.int cell),some (.int (cell % 5)),some (.ref qs[k]),some (.str (tx es[k])),none,some (.ref pl),some (.ref tl),none] H5:=by
   intro z D hD;have:=fin D hD;unfold brc at this;rw[if_neg z] at this;exact this
  show u8_0 _ _ _;refine Zz e8_0 ?_;have l1:(Str.ofString "{").length+(tx es[k]).length<=sizeLine:=Zx (by show 1+_<=_;lia);have l2:(Str.ofString "{" ++ tx es[k]).length+(Str.ofString "}").length<=sizeLine:=Zx (by rw[Zy];show 1+_+1<=_;lia);refine⟨_,rfl,qs[k],_,0,_,rfl,rfl,SqT.of htop,at0,rfl,_,rfl,Zaz (fun z=>Zcz ?_) (fun z=>?_)⟩
  ·have z:V.str (kw es[k])=V.str "or" := of_decide_eq_true z;injection z with z;refine⟨_,rfl,_,_,rfl,rfl,l1,_,_,rfl,rfl,l2,yes ?_ _ (fun _ _ h=>h)⟩;rw[hks,z];rfl
  have z1:kw es[k] ≠ "or" := fun y=>z (decide_eq_true (by rw[y]));refine⟨_,rfl,qs[k],_,0,_,rfl,rfl,SqT.of htop,at0,rfl,_,rfl,Zaz (fun z=>?_) (fun z=>?_)⟩
  ·have z:V.str (kw es[k])=V.str "turn" := of_decide_eq_true z;injection z with z;refine⟨_,rfl,rfl,_,rfl,Zaz (fun y=>?_) (fun y=>?_)⟩
   ·have hb:b=true:=by
     cases b with
     | true=>rfl
     | false =>
      have y:V.int (cell % 5)=V.int 3:=of_decide_eq_true y;injection y with y;rw[hb3] at y;cases y
    refine⟨_,rfl,_,_,rfl,rfl,l1,_,_,rfl,rfl,l2,yes ?_ _ (fun _ _ h=>h)⟩;rw[hks,z,hb];rfl
   ·have hb:b=false:=by
     cases b with
     | false=>rfl
     | true=>exact absurd (decide_eq_true (congrArg V.int hb3)) y
    refine no ?_ _ (fun _ _ h=>h);rw[hks,hb,Bool.and_false,Bool.or_false];exact fun y=>z1 (of_decide_eq_true y)
  ·have z2:kw es[k] ≠ "turn" := fun y=>z (decide_eq_true (by rw[y]));refine no ?_ _ (fun _ _ h=>h);rw[hks,decide_eq_false z1,decide_eq_false z2];exact fun y=>nomatch y
 rintro σ H5 ⟨v6,v7,rfl,sm,htl5⟩;rw[List.length_map,hrl,<- hel,<- List.length_map (f:=fun e=>brc (Zb3 b) (kw e) (tx e)),List.take_length] at htl5;obtain⟨r0,r1,rfl⟩:∃r0 r1,rs=[r0,r1]:=by
  match rs,hrl with
  | [r0,r1],_=>exact⟨r0,r1,rfl⟩
 obtain⟨q0,q1,rfl⟩:∃q0 q1,qs=[q0,q1]:=by
  match qs,hql with
  | [q0,q1],_=>exact⟨q0,q1,rfl⟩
 obtain⟨x0,x1,rfl⟩:∃x0 x1,es=[x0,x1]:=by
  match es,hel with
  | [x0,x1],_=>exact⟨x0,x1,rfl⟩
 have p0:=(hP.2.2 0 _ _ _ rfl rfl rfl).tk sm.tk;have p1:=(hP.2.2 1 _ _ _ rfl rfl rfl).tk sm.tk;have hpl5:=sm _ _ hp2;show u9 _ _ _;refine Zz e9 ?_;refine⟨_,rfl,pl,_,0,_,rfl,rfl,SqL.of hpl5,rfl,r0,_,0,_,rfl,rfl,SqT.of p0.1,rfl,_,rfl,pl,_,1,_,rfl,rfl,SqL.of hpl5,rfl,r1,_,0,_,rfl,rfl,SqT.of p1.1,rfl,(by show 2<=sizeLine;decide),fun pt hpt=>?_⟩;have s6:Zk H5 (upd H5 pt (.tup [.ref q0,.ref q1])):=Zk.new hpt;have e6':upd H5 pt (.tup [.ref q0,.ref q1]) pt=some (.tup [.ref q0,.ref q1]):=Zb;generalize upd H5 pt (.tup [.ref q0,.ref q1])=H6 at s6 e6' ⊢;show u10 _ _ _;refine Zz e10 ?_;have ht1:atI [V.str "turn",.str "or"] (cell % 5-3)=some (.str (ZdE b)):=by
  rw[hb3];cases b <;> rfl
 have ht2:atI [V.str " ",.str " | "] (cell % 5-3)=some (.str (ZfI b)):=by
  rw[hb3];cases b <;> rfl
 refine⟨(by show 2<=sizeLine;decide),fun l1 hl1=>⟨_,rfl,_,_,rfl,rfl,l1,_,_,_,rfl,rfl,SqL.of Zb,ht1,?_⟩⟩;have s7:Zk H6 (upd H6 l1 (.lst [.str "turn",.str "or"])):=Zk.new hl1;generalize upd H6 l1 (.lst [.str "turn",.str "or"])=H7 at s7 ⊢;refine⟨_,rfl,(by show 2<=sizeLine;decide),fun p4 hp4=>?_⟩;have s8:Zk H7 (upd H7 p4 (.tup [.str (ZdE b),.ref pt])):=Zk.new hp4;have e8':upd H7 p4 (.tup [.str (ZdE b),.ref pt]) p4=some (.tup [.str (ZdE b),.ref pt]):=Zb;generalize upd H7 p4 (.tup [.str (ZdE b),.ref pt])=H8 at s8 e8' ⊢;refine⟨(by show 2<=sizeLine;decide),fun l2 hl2=>⟨_,rfl,_,_,rfl,rfl,l2,_,_,_,rfl,rfl,SqL.of Zb,ht2,rfl,?_⟩⟩;have s9:Zk H8 (upd H8 l2 (.lst [.str " ",.str " | "])):=Zk.new hl2;generalize upd H8 l2 (.lst [.str " ",.str " | "])=H9 at s9 ⊢;have s59:=((s6.trans s7).trans s8).trans s9;have h9:=ZeE (Zb3 b) (ofL [x0,x1]) hws;rw[Ze3,Zit] at h9;have h3:(ZfI b).length<=3:=by cases b <;> decide
 refine⟨_,rfl,ZfI b,tl,[x0,x1].map fun e=>brc (Zb3 b) (kw e) (tx e),rfl,rfl,SqL.of (s59 _ _ htl5),?_,(by show 2<=sizeLine;decide),fun p7 hp7=>?_⟩
 ·have:([x0,x1].map fun e=>brc (Zb3 b) (kw e) (tx e)).length*(ZfI b).length<=2*3:=Nat.mul_le_mul_left _ h3;lia
 have etx:tx (.several b (ofL [x0,x1]))=Txt.join (ZfI b) ([x0,x1].map fun e=>brc (Zb3 b) (kw e) (tx e)):=by
  rw[tx,Ze3]
 have s10:Zk H9 (upd H9 p7 (.tup [.ref p4,.str (Txt.join (ZfI b) ([x0,x1].map fun e=>brc (Zb3 b) (kw e) (tx e)))])):=Zk.new hp7;have s310:=(sm.trans s59).trans s10;refine q p7 p4 (.several b (ofL [x0,x1])) i' lf' _ ((((b1.trans b2).trans bt).trans (But.same s310))) (s310 _ _ hst) hi' hlf' ⟨?_,.several (q:=pt) (vs:=[.ref q0,.ref q1]) (s10 _ _ (s9 _ _ e8')) (s10 _ _ (s9 _ _ (s8 _ _ (s7 _ _ e6')))) (.cons (p0.tk (s59.trans s10).tk).2.1 (.cons (p1.tk (s59.trans s10).tk).2.1 .nil)),hws⟩ ?_ ?_ (Zl1 _ (by show 2<=2;decide) hwl) ?_
 ·rw[etx];exact Zb
 ·show((szs (ofL [x0,x1])+1:Nat):Int)+2*lf'<=_;rw[Zit];have:((2:Int).toNat:Int)=2:=rfl;lia
 ·show((dps (ofL [x0,x1])+1:Nat):Int)<room;have:=Zj6 [x0,x1] (by lia) hdp;lia
 ·have h10:=Zla b [x0,x1];have:((2:Int).toNat:Int)=2:=rfl;have h11:[x0,x1].length*3=6:=rfl;lia
def BkE(H:Hp)(vs:List V)(bk:List (Str×Ex)):Prop:=Paired (fun(v:V)(x:Str×Ex)=>∃p q,v=.ref p/\H p=some (.tup [.str x.1,.ref q])/\RepE H q x.2) vs bk
theorem BkE.tk{H H':Hp}(k:TK H H'){vs:List V}{bk:List (Str×Ex)}(h:BkE H vs bk):BkE H' vs bk:=Paired.mapP h fun _ _ z=>by
 obtain⟨p,q,e,h1,h2⟩:=z;exact⟨p,q,e,k _ _ h1,h2.mono k⟩
mutual
theorem RepE.toK{K:PySem.W.Frag}{H:Hp}:∀{p:Addr}{e:Ex},RepE H p e->RepK K H p e
 | _,_,.nil h=>.nil (SqT.of h)
 | _,_,.tag h r=>.tag (SqT.of h) (RepE.toK r)
 | _,_,.name h=>.name (SqT.of h)
 | _,_,.several h1 h2 r=>.several (SqT.of h1) (SqT.of h2) (RepEs.toK r)
 | _,_,.rep h r=>.rep (SqT.of h) (RepE.toK r)
theorem RepEs.toK{K:PySem.W.Frag}{H:Hp}:∀{vs:List V}{ps:Exs},RepEs H vs ps->RepKs K H vs ps
 | _,_,.nil=>.nil
 | _,_,.cons h r=>.cons (RepE.toK h) (RepEs.toK r)
end
theorem BkE.toK{K:PySem.W.Frag}{H:Hp}{vs:List V}{bk:List (Str×Ex)}(h:BkE H vs bk):BkR K H vs bk:=Paired.mapP h fun _ _ z=>by
 obtain⟨p,q,e,h1,h2⟩:=z;exact⟨p,q,e,h1,h2.toK⟩
def bxS(bk:List (Str×Ex)):Nat:=(bk.map fun x=>bx x.2).sum
theorem Zka:∀{bk:List (Str×Ex)},(∀x∈bk,x.1.length<=8)->((bk.map prT).map (·.length)).sum<=11*bk.length+bxS bk
 | [],_=>Nat.le_refl _
 | x::bk,h=>by
  have h1:=h x (List.mem_cons_self ..);have h2:=Zka (bk:=bk) fun y hy=>h y (List.mem_cons_of_mem _ hy);have h3:(tx x.2).length<=bx x.2:=Nat.le_add_right _ _;have h4:(prT x).length=x.1.length+3+(tx x.2).length:=by
   unfold prT;rw[Zy,Zy];rfl
  unfold bxS at h2 ⊢;simp only[List.map_cons,List.sum_cons,List.length_cons];lia
theorem ZkU{bk:List (Str×Ex)}(h:∀x∈bk,x.1.length<=8):(bkT bk).length<=13*bk.length+bxS bk:=by
 have h1:=Zka h;have h2:=Zdb "; " (bk.map prT);rw[List.length_map] at h2;have h3:bk.length*(Str.ofString "; ").length=bk.length*2:=rfl;unfold bkT;lia
theorem ZlG{rs:List Str}{j:Nat}{r:Str}(h:rs[j]?= some r):atI (rs.map V.str) (0+(j:Int))=some (.str r):=by
 rw[Int.zero_add];exact Zbc (by rw[List.getElem?_map,h];rfl)
theorem SqL.apart{K:PySem.W.Frag}{H:Hp}{a b:Addr}{xs:List V}(h:SqL K H a xs)(n:H b=none):a≠b\/∀H',SqL K H' a xs:=by
 rcases h with(h|⟨o,h⟩)|h
 ·exact .inl fun z=>by rw[z,n] at h;cases h
 ·exact .inl fun z=>by rw[z,n] at h;cases h
 ·exact .inr fun _=>.inr h
theorem St20.upd{K:PySem.W.Frag}{H:Hp}{a st b:Addr}{ns:List Int}{i lf:Int}{o:HO}(h:St20 K H a ns st i lf)(n:a≠b\/∀H',SqL K H' a (ns.map V.int))(nb:b≠st):St20 K (upd H b o) a ns st i lf:=⟨SqL.off h.scr n,h.l63,h.ne,by rw[Zi nb.symm];exact h.at_,h.i0,h.l0⟩
def ZmR(st pl tl:Addr)(H H':Hp):Prop := ∀b o,b≠st->b≠pl->b≠tl->H b=some o->H' b=some o
theorem csl(t:Str):(cs t).length=t.length:=Array.length_toList
theorem ZlY{t:Str}{j:Int}(h0:0<=j)(h:j<=t.length):cs (PySem.StrLaws.sliceText t none (some j))=(cs t).take j.toNat:=by
 have hlt:t.cps.toList.length=t.length:=by rw[Array.length_toList];rfl
 rw[PySem.StrLaws.sliceText_to (x:=t) (j:=j) ⟨h0,by rw[hlt];lia⟩];show((t.cps.toList.drop 0).take _).toArray.toList=_;rw[List.drop_zero];simp[cs]
theorem ZkD{t:Str}{j:Int}(h0:0<=j)(h:j<=t.length):cs (PySem.StrLaws.sliceText t (some j) none)=(cs t).drop j.toNat:=by
 have hlt:t.cps.toList.length=t.length:=by rw[Array.length_toList];rfl
 rw[PySem.StrLaws.sliceText_from (x:=t) (i:=j) ⟨h0,by rw[hlt];lia⟩];show(List.take _ (List.drop _ t.cps.toList)).toArray.toList=_;simp only[List.toList_toArray];rw[List.take_of_length_le (by rw[List.length_drop,hlt];lia)];rfl
theorem ZkR:(Str.ofString "ABCDEFGHIJKLMNOPQRSTUVWXYZ").cps.toList.length=26:=by decide
theorem Zjz:∀x∈cs (Str.ofString "ABCDEFGHIJKLMNOPQRSTUVWXYZ"),65<=x/\x<=90:=by decide
theorem Zjy(j:Nat)(h:j<26):atI (Str.ofString "ABCDEFGHIJKLMNOPQRSTUVWXYZ").cps.toList (j:Int)=some (65+j):=by
 refine Zbc ?_;have:∀j:Fin 26,(Str.ofString "ABCDEFGHIJKLMNOPQRSTUVWXYZ").cps.toList[j.val]?= some (65+j.val):=by decide
 exact this ⟨j,h⟩
theorem Zln{t:Str}(h1:1<=t.length)(h:∀x∈cs t,65<=x/\x<=90):Upr t:=by
 refine⟨fun z=>?_,h⟩;have:=csl t;rw[z] at this;have:0=t.length:=this;lia
def ZgB(d:Nat):Sp:=fun vs H Q _=>∃p e o,vs=[.ref p,.bl o]/\RepE H p e/\dp e<d/\sz e<=200/\∀l H',Zk H H'->H l=none->H' l=some (.lst ((nm (!o) e).map V.str))->Q (.ref l) H'
theorem RepE.tag_of{H:Hp}{p:Addr}{e:Ex}(h:RepE H p e)(hk:kw e= "tag"):∃t i q,e=.tag t i/\H p=some (.tup [.str "tag",.str t,.ref q])/\RepE H q i:=by
 cases h with
 | nil h=>exact absurd hk (by decide)
 | tag h r=>exact⟨_,_,_,rfl,h,r⟩
 | name h=>exact absurd hk (by show ¬ (Str.ofString "name" = Str.ofString "tag");decide)
 | @several _ _ b _ _ h _ _=>exact absurd hk (by show ¬ ZdE b=_;cases b <;> decide)
 | @rep _ _ m _ h _=>exact absurd hk (by show ¬ Za5 m=_;unfold Za5;split;decide;split <;> decide)
theorem RepE.sev_of{H:Hp}{p:Addr}{e:Ex}(h:RepE H p e)(hk:(["turn","or"]:List Str).contains (kw e)=true):∃b ps q vs,e=.several b ps/\H p=some (.tup [.str (ZdE b),.ref q])/\H q=some (.tup vs)/\RepEs H vs ps:=by
 cases h with
 | nil h=>exact absurd hk (by decide)
 | tag h _=>exact absurd hk (by show ¬ (["turn","or"]:List Str).contains (Str.ofString "tag")=true;decide)
 | name h=>exact absurd hk (by show ¬ (["turn","or"]:List Str).contains (Str.ofString "name")=true;decide)
 | several h1 h2 r=>exact⟨_,_,_,_,rfl,h1,h2,r⟩
 | @rep _ _ m _ h _=>exact absurd hk (by show ¬ (["turn","or"]:List Str).contains (Za5 m)=true;unfold Za5;split;decide;split <;> decide)
theorem RepE.rep_of{H:Hp}{p:Addr}{e:Ex}(h:RepE H p e)(h1:kw e ≠ "name") (h2:kw e ≠ "tag") (h3 : ¬ (["turn","or"]:List Str).contains (kw e)=true) (h4:kw e ≠ "nil"):∃m i q,e=.rep m i/\H p=some (.tup [.str (Za5 m),.ref q])/\RepE H q i:=by
 cases h with
 | nil h=>exact absurd rfl h4
 | tag h _=>exact absurd rfl h2
 | name h=>exact absurd rfl h1
 | @several _ _ b _ _ h _ _=>exact absurd (by show(["turn","or"]:List Str).contains (ZdE b)=true;cases b <;> decide) h3
 | rep h r=>exact⟨_,_,_,rfl,h,r⟩
theorem Zlx{e:Ex}(h:kw e= "nil"):e=.nil:=by
 cases e with
 | nil=>rfl
 | tag _ _=>exact absurd h (by show ¬ (Str.ofString "tag" = Str.ofString "nil");decide)
 | name _=>exact absurd h (by show ¬ (Str.ofString "name" = Str.ofString "nil");decide)
 | several b _=>exact absurd h (by show ¬ ZdE b=_;cases b <;> decide)
 | rep m _=>exact absurd h (by show ¬ Za5 m=_;unfold Za5;split;decide;split <;> decide)
set_option maxHeartbeats 2000000 in
theorem Zic(d:Nat)(B:∀x∈Zbv,mg x=none)(g_l_used:Has P w K mg base "_law_used" ["_law_expr","_law_outside"] (d+1) (ZgB d)) (F:Fun K "_law_used" "_law_used" ZaC f fd):FnOk P w K mg base CX0 (d+2) f fd ["_law_expr","_law_outside"] (ZgB (d+1)):=by
 refine F.ok Zbl (fun vs H Q E h=>?_) (fun cdv A outer s H vs Q E hr h=>?_)
 ·obtain⟨p,e,o,rfl,_⟩:=h;rfl
 obtain⟨p,e,o,rfl,hR,hd,hs,q⟩:=h;refine ZF ((Ze ZaC).drop 6) (Zf (Zr (pv 3))) (fun u6 h6 e6=>?_);refine ZF ((ZaK ((Ze ZaC).getD 5 (.Pass ⟨0,0,0,0⟩))).drop 0) (Zf (Zt (i:=3) Zbl.nd rfl (Or.inl rfl) (ZK Ziu (pv 3) (ZQ g_l_used hr rfl (Za (pv 4) (Za (pv 1) Zd)) (by lia))))) (fun u5_0 h5_0 e5_0=>?_);refine ZF ((Ze ZaC).drop 5) (Zc (Za7 PassesOwn.never rfl (ZaS (pv 2)) (Zn (i:=4) Zbl.nd rfl (Or.inl rfl))
   h5_0) h6) (fun u5 h5 e5=>?_)
 refine ZF ((Ze ZaC).drop 4) (Zc (Zt (i:=3) Zbl.nd rfl (Or.inl rfl) (ZaA Zd)) h5) (fun u4 h4 e4=>?_);refine ZF ((ZfA ((Ze ZaC).getD 3 (.Pass ⟨0,0,0,0⟩))).drop 0) (Zf (Z2 (Zo Zi9 (ZP ZX (pv 0) Zh (fun _ _=>rfl)) Zj (ZG _))
   (Zf (Zt (i:=2) Zbl.nd rfl (Or.inl rfl) (ZaA (Za (ZP ZX (pv 0) Zh (fun _ _=>rfl)) Zd))))
   Zq)) (fun u3e0 h3e0 e3e0=>?_)
 refine ZF ((Ze ZaC).drop 3) (Zc (Z2 (Zo ZbB (ZP ZX (pv 0) Zh (fun _ _=>rfl)) (ZM (Za Zj (Za Zj Zd))) (by with_unfolding_all rfl))
   (Zf (Zt (i:=2) Zbl.nd rfl (Or.inl rfl) (Zam Zbx rfl (B "list" (by decide)) Zc6 (Za (ZP ZX (pv 0) Zh (fun _ _=>rfl)) Zd))))
   h3e0) h4) (fun u3 h3 e3=>?_)
 refine ZF ((Ze ZaC).drop 2) (Zc (Zt (i:=2) Zbl.nd rfl (Or.inl rfl) (ZaA Zd)) h3) (fun u2 h2 e2=>?_);refine ZF ((Ze ZaC).drop 1) (Zc (Z2 (Zo ZaM (ZP ZX (pv 0) Zh (fun _ _=>rfl)) Zj (ZG _))
   (Zf (Zr (ZP Z6 (ZaA (Za (ZaA Zd) (Za (ZQ g_l_used hr rfl (Za (ZP ZX (pv 0) Zh (fun _ _=>rfl)) (Za (pv 1) Zd)) (by lia)) Zd))) (Zam ZcY rfl (B "int" (by decide)) Zgu (Za (ZgU (pv 1)) Zd)) (fun _ _=>rfl))))
   Zq) h2) (fun u1 h1 e1=>?_)
 refine ZF ((Ze ZaC).drop 0) (Zc (Z2 (Zo ZaM (ZP ZX (pv 0) Zh (fun _ _=>rfl)) Zj (ZG _))
   (Zf (Zr (ZaA (Za (ZP ZX (pv 0) Zh (fun _ _=>rfl)) Zd))))
   Zq) h1) (fun u0 h0 e0=>?_)
 refine⟨u0,h0,?_⟩;have rest:∀(pl:Addr)(vs':List V)(ps:Exs)(H1:Hp),Zk H H1->H1 pl=some (.lst vs')->RepEs H1 vs' ps->(∀x∈toL ps,dp x<d)->szs ps<=200->nm (!o) e=nms (!o) ps->u4 { nx:=fun _ H'=>Q .non H',rt:=Q } [some (.ref p),some (.bl o),some (.ref pl),none,none] H1:=by
  intro pl vs' ps H1 s1 e1 hr1 hd1 hz1 hnm;refine Zz e4 ?_;refine⟨(by show 0<=sizeLine;decide),fun fl hfl=>?_⟩;have s2:Zk H1 (upd H1 fl (.lst [])):=Zk.new hfl;have e2:upd H1 fl (.lst []) fl=some (.lst []):=Zb;have fH:H fl=none:=s1.free hfl;generalize upd H1 fl (.lst [])=H2 at s2 e2 ⊢;have hvl:=hr1.length;have hcl:=ZcG ps;have hfm:=Zc0 (!o) ps;have hnl:=Zgm (!o) ps;show u5 _ _ _;refine Zz e5 ?_;refine⟨_,rfl,pl,rfl,⟨vs',SqL.of (s2 _ _ e1)⟩,ZbT (K:=K) (a:=pl) (xs:=vs') (fun i σ H3=>∃(v4:Option V)(fa:Addr),σ =[some (.ref p),some (.bl o),some (.ref pl),some (.ref fa),v4]/\Zk H1 H3/\H1 fa=none/\H3 fa=some (.lst ((((toL ps).take i).flatMap (nm (!o))).map V.str)))
   ⟨none,fl,rfl,s2,hfl,e2⟩ ?_ ?_ ?_⟩
  ·rintro i σ H3 _ ⟨v4,fa,_,sm,_⟩;exact SqL.of (sm _ _ e1)
  ·rintro i x σ H3 hx ⟨v4,fa,rfl,sm,ffa,hfa⟩;obtain⟨pa,ea,rfl,hea,hra⟩:=hr1.get hx;obtain⟨m1,m2,_⟩:=Zce (List.mem_of_getElem? hea);refine Zz e5_0 ?_;refine⟨_,rfl,_,rfl,_,rfl,pa,ea,o,rfl,hra.mono sm.tk,hd1 _ (List.mem_of_getElem? hea),by lia,fun l4 H4 s4 f4 e5'=>?_⟩;have n4:l4≠fa:=fun z=>by rw[z,hfa] at f4;cases f4
   have hlen:((((toL ps).take i).flatMap (nm (!o))).map V.str).length+((nm (!o) ea).map V.str).length<=sizeLine:=by
    have:=Zbt (nm (!o)) (toL ps) (i+1);have h9:=congrArg List.length (Zc5 (b := !o) hea);rw[List.length_append] at h9;rw[h9,List.length_map];rw[<- hfm] at this;exact Zx (by lia)
   refine⟨fa,l4,_,_,rfl,rfl,s4 _ _ hfa,e5',hlen,fun l6 hl6=>⟨_,l6,rfl,(sm.trans s4).trans (Zk.new hl6),?_,?_⟩⟩
   ·exact(sm.trans s4).free hl6
   ·rw[Zb,Zc5 hea]
  rintro σ H3 ⟨v4,fa,rfl,sm,ffa,hfa⟩;rw[hvl,<- hcl,List.take_length,<- hfm,<- hnm] at hfa;show u6 _ _ _;refine Zz e6 ?_;exact⟨_,rfl,q fa H3 (s1.trans sm) (s1.free ffa) hfa⟩
 obtain⟨r0,ht,_⟩:=hR.top;refine Zz e0 ?_;refine⟨_,rfl,p,_,0,_,rfl,rfl,SqT.of ht,at0,rfl,_,rfl,Zaz (fun z=>?_) (fun z=>?_)⟩
 ·have z:V.str (kw e)=V.str "name" := of_decide_eq_true z;injection z with z;obtain⟨n,rfl,hn⟩:=(hR.toK (K:=K)).name_of z;exact⟨_,rfl,p,_,1,_,rfl,rfl,hn,rfl,(by show 1<=sizeLine;decide),fun l hl=>q l _ (Zk.new hl) hl Zb⟩
 have k1:kw e ≠ "name" := fun k=>z (decide_eq_true (by rw[k]));show u1 _ _ _;refine Zz e1 ?_;refine⟨_,rfl,p,_,0,_,rfl,rfl,SqT.of ht,at0,rfl,_,rfl,Zaz (fun z=>?_) (fun z=>?_)⟩
 ·have z:V.str (kw e)=V.str "tag" := of_decide_eq_true z;injection z with z;obtain⟨t,i,q',rfl,hp,hi⟩:=hR.tag_of z;have hz:sz i+1<=200:=hs;have hd:dp i+1<d+1:=hd;refine⟨(by show 0<=sizeLine;decide),fun l1 hl1=>?_⟩;have s1:Zk H (upd H l1 (.lst [])):=Zk.new hl1;have e1':upd H l1 (.lst []) l1=some (.lst []):=Zb;generalize upd H l1 (.lst [])=H1 at s1 e1' ⊢;refine⟨_,rfl,p,_,2,_,rfl,rfl,SqT.of (s1 _ _ hp),rfl,_,rfl,q',i,o,rfl,hi.mono s1.tk,by lia,by lia,fun l2 H2 s2 f2 e2'=>⟨(by show 2<=sizeLine;decide),fun l3 hl3=>?_⟩⟩;have s3:Zk H2 (upd H2 l3 (.lst [.ref l1,.ref l2])):=Zk.new hl3;have e3':upd H2 l3 (.lst [.ref l1,.ref l2]) l3=some (.lst [.ref l1,.ref l2]):=Zb;generalize upd H2 l3 (.lst [.ref l1,.ref l2])=H3 at s3 e3' ⊢;cases o with
  | true=>exact⟨_,rfl,true,rfl,false,rfl,l3,_,_,_,rfl,rfl,SqL.of e3',rfl,q l1 _ ((s1.trans s2).trans s3) hl1 (s3 _ _ (s2 _ _ e1'))⟩
  | false=>exact⟨_,rfl,false,rfl,true,rfl,l3,_,_,_,rfl,rfl,SqL.of e3',rfl,q l2 _ ((s1.trans s2).trans s3) (s1.free f2) (s3 _ _ e2')⟩
 have k2:kw e ≠ "tag" := fun k=>z (decide_eq_true (by rw[k]));show u2 _ _ _;refine Zz e2 ?_;refine⟨(by show 0<=sizeLine;decide),fun pl hpl=>?_⟩;have s1:Zk H (upd H pl (.lst [])):=Zk.new hpl;have e1':upd H pl (.lst []) pl=some (.lst []):=Zb;generalize upd H pl (.lst [])=H1 at s1 e1' ⊢;show u3 _ _ _;refine Zz e3 ?_;refine⟨_,rfl,p,_,0,_,rfl,rfl,SqT.of (s1 _ _ ht),at0,(by show 2<=sizeLine;decide),fun tt htt=>⟨tt,_,rfl,.inr (SqT.of Zb),rfl,Zbf ["turn","or"],_,rfl,?_⟩⟩;have s2:Zk H1 (upd H1 tt (.tup [.str "turn",.str "or"])):=Zk.new htt;generalize upd H1 tt (.tup [.str "turn",.str "or"])=H2 at s2 ⊢;have s12:=s1.trans s2;have hin:inV (.str (kw e)) ((["turn","or"]:List Str).map V.str)=(["turn","or"]:List Str).contains (kw e):=ZbA _ _;refine Zaz (fun z=>?_) (fun z=>?_)
 ·have z:(["turn","or"]:List Str).contains (kw e)=true:=by rw[<- hin];exact z
  obtain⟨b,ps,q',vs',rfl,hp,hq,hr'⟩:=hR.sev_of z;have hz:szs ps+1<=200:=hs;have hd:dps ps+1<d+1:=hd;refine⟨_,rfl,p,_,1,_,rfl,rfl,SqT.of (s12 _ _ hp),rfl,q',_,rfl,.inr (SqT.of (s12 _ _ hq)),fun l2 hl2=>?_⟩;have s3:Zk H2 (upd H2 l2 (.lst vs')):=Zk.new hl2;exact rest l2 vs' ps _ (s12.trans s3) Zb (hr'.mono (s12.trans s3).tk) (fun x hx=>by have:=(Zce hx).1;lia) (by lia) rfl
 ·have k3 : ¬ (["turn","or"]:List Str).contains (kw e)=true:=by rw[<- hin];exact z
  refine Zz e3e0 ?_;refine⟨_,rfl,p,_,0,_,rfl,rfl,SqT.of (s12 _ _ ht),at0,rfl,_,rfl,Zaz (fun z=>?_) (fun z=>?_)⟩
  ·have k4:kw e ≠ "nil" := fun k=>by rw[k] at z;exact absurd z (by decide)
   obtain⟨m,i,q',rfl,hp,hi⟩:=hR.rep_of k1 k2 k3 k4;have hz:sz i+1<=200:=hs;have hd:dp i+1<d+1:=hd;refine⟨_,rfl,p,_,1,_,rfl,rfl,SqT.of (s12 _ _ hp),rfl,(by show 1<=sizeLine;decide),fun l2 hl2=>?_⟩;have s3:Zk H2 (upd H2 l2 (.lst [.ref q'])):=Zk.new hl2;refine rest l2 [.ref q'] (.cons i .nil) _ (s12.trans s3) Zb (.cons (hi.mono (s12.trans s3).tk) .nil) ?_ ?_ ?_
   ·intro x hx;rw[List.mem_singleton.mp hx];lia
   ·show sz i+0<=200;lia
   ·show nm (!o) i=nm (!o) i ++ [];rw[List.append_nil]
  ·have k4:kw e= "nil" := by
    by_cases k:kw e= "nil"
    ·exact k
    ·refine absurd ?_ z;rw[decide_eq_false (fun y=>by injection y with y;exact k y)];rfl
   obtain rfl:=Zlx k4;exact rest pl [] .nil _ s12 (s2 _ _ e1') .nil (fun x hx=>nomatch hx) (by decide) rfl
inductive Alk(K:PySem.W.Frag)(H:Hp):Nat->V->V->Prop
 | str {d:Nat} {s:Str}:Alk K H (d+1) (.str s) (.str s)
 | tup {d:Nat} {p q:Addr} {xs ys:List V}:SqT K H p xs->SqT K H q ys->xs.length=ys.length->xs.length<=1000->(∀(i:Nat) x y,xs[i]?= some x->ys[i]?= some y->Alk K H d x y)->Alk K H (d+1) (.ref p) (.ref q)
theorem Alk.up{K:PySem.W.Frag}{H:Hp}{d:Nat}{x y:V}(h:Alk K H d x y):∀{e:Nat},d<=e->Alk K H e x y:=by
 induction h with
 | str =>
  intro e he;obtain⟨e,rfl⟩:∃e',e=e'+1:=⟨e-1,by lia⟩;exact .str
 | tup h1 h2 h3 h4 _ ih =>
  intro e he;obtain⟨e,rfl⟩:∃e',e=e'+1:=⟨e-1,by lia⟩;exact .tup h1 h2 h3 h4 fun i x y a b=>ih i x y a b (by lia)
theorem Alk.one{K:PySem.W.Frag}{H:Hp}{d:Nat}{p q:Addr}{a b:V}(h1:SqT K H p [a,b]){a' b':V}(h2:SqT K H q [a',b'])(k1:Alk K H d a a')(k2:Alk K H d b b'):Alk K H (d+1) (.ref p) (.ref q) :=
 .tup h1 h2 rfl (by show 2<=1000;decide) fun i x y hx hy=>by
  match i,hx,hy with
  | 0,hx,hy=>cases hx;cases hy;exact k1
  | 1,hx,hy=>cases hx;cases hy;exact k2
  | i+2,hx,_=>simp at hx
mutual
theorem Zgy{K:PySem.W.Frag}{H:Hp}:∀{e:Ex}{p q:Addr},sz e<=200->RepK K H p e->RepK K H q e->Alk K H (2*dp e+2) (.ref p) (.ref q)
 | .nil,_,_,_,.nil h1,.nil h2=>.tup h1 h2 rfl (by show 1<=1000;decide) fun i x y hx hy=>by
  match i,hx,hy with
  | 0,hx,hy=>cases hx;cases hy;exact .str
  | i+1,hx,_=>simp at hx
 | .name n,_,_,_,.name h1,.name h2=>.one h1 h2 .str .str
 | .tag t i,_,_,hs,.tag h1 r1,.tag h2 r2=>by
  have hs:sz i+1<=200:=hs;have:=Zgy (e:=i) (by lia) r1 r2;refine(Alk.tup h1 h2 rfl (by show 3<=1000;decide) (d:=2*dp i+2) fun j x y hx hy=>?_).up (by show _<=2*(dp i+1)+2;lia)
  match j,hx,hy with
  | 0,hx,hy=>cases hx;cases hy;exact .str
  | 1,hx,hy=>cases hx;cases hy;exact .str
  | 2,hx,hy=>cases hx;cases hy;exact this
  | j+3,hx,_=>simp at hx
 | .several b ps,_,_,hs,.several h1 h3 r1,.several h2 h4 r2=>by
  have hs:szs ps+1<=200:=hs;have hc:=ZgE ps;have:=Zi3 (ps:=ps) (by lia) r1 r2;refine(Alk.one h1 h2 .str (Alk.tup h3 h4 (by rw[r1.length,r2.length]) (by rw[r1.length];lia) this)).up ?_;show 2*dps ps+2+1+1<=2*(dps ps+1)+2;lia
 | .rep m e,_,_,hs,.rep h1 r1,.rep h2 r2=>by
  have hs:sz e+1<=200:=hs;exact(Alk.one h1 h2 .str (Zgy (e:=e) (by lia) r1 r2)).up (by show _<=2*(dp e+1)+2;lia)
theorem Zi3{K:PySem.W.Frag}{H:Hp}:∀{ps:Exs}{xs ys:List V},szs ps<=200->RepKs K H xs ps->RepKs K H ys ps->∀(i:Nat) x y,xs[i]?= some x->ys[i]?= some y->Alk K H (2*dps ps+2) x y
 | .nil,_,_,_,.nil,.nil,i,x,y,hx,_=>by simp at hx
 | .cons e r,_,_,hs,.cons h1 r1,.cons h2 r2,i,x,y,hx,hy=>by
  have hs:sz e+szs r<=200:=hs;have hm:dp e<=dps (.cons e r)/\dps r<=dps (.cons e r):=by
   show dp e<=max (dp e) (dps r)/\dps r<=max (dp e) (dps r);lia
  match i,hx,hy with
  | 0,hx,hy =>
   cases hx;cases hy;exact(Zgy (e:=e) (by lia) h1 h2).up (by lia)
  | i+1,hx,hy=>exact(Zi3 (ps:=r) (by lia) r1 r2 i x y (by simpa using hx) (by simpa using hy)).up (by lia)
end
theorem Zle{K:PySem.W.Frag}{H:Hp}{p q:Addr}{xs ys:List V}{bk:List (Str×Ex)}(h1:SqT K H p xs)(h2:SqT K H q ys)(r1:BkR K H xs bk)(r2:BkR K H ys bk)(hl:bk.length<=8)(hk:∀x∈bk,Bk1 x):Alk K H 28 (.ref p) (.ref q):=by
 have l1:xs.length=bk.length:=Paired.length r1;have l2:ys.length=bk.length:=Paired.length r2;refine .tup h1 h2 (by lia) (by lia) fun i x y hx hy=>?_;obtain⟨z,hz,p1,q1,rfl,e1,e2⟩:=Z7 r1 hx;obtain⟨z',hz',p2,q2,rfl,e3,e4⟩:=Z7 r2 hy;rw[hz] at hz';cases hz';obtain⟨_,b2,b3,_⟩:=hk z (List.mem_of_getElem? hz);exact(Alk.one (SqT.of e1) (SqT.of e3) .str (Zgy b3 e2 e4)).up (by lia)
theorem Zb5{X:Cx}:Zbq X (.builtin "isinstance") (fun xs H Q=>∃x n b,xs=[x,.ty n]/\((∃s,x=.str s/\PySem.W.kitOne X.K (.type "str") (.type n)=some b)\/∃a ys,x=.ref a/\SqT X.K H a ys/\PySem.W.kitOne X.K (.type "tuple") (.type n)=some b)/\Q (.bl b) H):=by
 intro pins s σ H xs us Q I r h;obtain⟨x,n,b,rfl,h,q⟩:=h;obtain⟨u,v,rfl,rx,ry⟩:=Vals.two r;obtain rfl:v=Value.type n:=ry;rcases h with⟨z,rfl,e⟩|⟨a,ys,rfl,hq,e⟩
 ·exact Zfv I rx (.str z) e fun tk=>⟨.bl b,H,I.tok tk,rfl,q⟩
 ·cases (show u=Value.ref a from rx);obtain⟨its,_,⟨o,h1,h2,_⟩,_⟩:=I.tuple hq;exact PySem.W.kia_one PySem.W.kitx_tuple I.kIn ⟨o,h1,h2⟩ e (fun z=>nomatch z) fun tk=>⟨.bl b,H,I.tok tk,rfl,q⟩
def Ze1(K:PySem.W.Frag)(d:Nat):Sp:=fun vs H Q _=>∃x y,vs=[x,y]/\Alk K H d x y/\Q (.bl true) H
set_option maxHeartbeats 1000000 in
theorem Zho(d:Nat)(B:∀x∈Zbv,mg x=none)(g_l_alike:Has P w K mg base "_law_alike" ["_law_told","_law_due_here"] d (Ze1 K d)) (F:Fun K "_law_alike" "_law_alike" ZbC f fd):FnOk P w K mg base CX0 (d+1) f fd ["_law_told","_law_due_here"] (Ze1 K (d+1)):=by
 refine F.ok Zeq (fun vs H Q E h=>?_) (fun cdv A outer s H vs Q E hr h=>?_)
 ·obtain⟨x,y,rfl,_⟩:=h;rfl
 obtain⟨x,y,rfl,hA,q⟩:=h;have hu:=Zd2 hr;refine⟨_,(Zc (Z2 (Z1 (Zu K24.Zb5 rfl (B "isinstance" (by decide)) ZJ (Za (pv 1) (Za (ZeS rfl (B "str" (by decide)) ZgG) Zd))) (fun _=>rfl))
   (Zf (Zr (ZcM (Zu K24.Zb5 rfl (B "isinstance" (by decide)) ZJ (Za (pv 0) (Za (ZeS rfl (B "str" (by decide)) ZgG) Zd))) (Zer (Zcx ZaM (pv 0) (pv 1) (ZG _))))))
   Zq)
  (Zc (Z2 (PW.pt (ZeU (Zbu (Z1 (Zu K24.Zb5 rfl (B "isinstance" (by decide)) ZJ (Za (pv 0) (Za (ZeS rfl (B "tuple" (by decide)) ZcX) Zd))) (fun _=>rfl))) (Zdy (Zo Zi9 (Zu ZD rfl (B "len" (by decide)) PySem.boot_len (Za (pv 0) Zd)) (Zu ZD rfl (B "len" (by decide)) PySem.boot_len (Za (pv 1) Zd)) (ZG _)))))
   (Zf (Zr Zcr))
   Zq)
  (Zc (Za7 PassesOwn.never rfl (ZaU rfl (B "range" (by decide)) (Za (Zu ZD rfl (B "len" (by decide)) PySem.boot_len (Za (pv 1) Zd)) Zd)) (Zn (i:=2) Zeq.nd rfl (Or.inl rfl))
   (Zf (Z2 (Zbu (Z1 (ZQ g_l_alike hr rfl (Za (ZP ZX (pv 0) (pv 2) (fun _ _=>rfl)) (Za (ZP ZX (pv 1) (pv 2) (fun _ _=>rfl)) Zd)) (by lia)) (fun _=>rfl)))
     (Zf (Zr Zcr))
     Zq)))
  (Zf (Zr Zcr))))),?_⟩
 cases hA with
 | @str _ z =>
  refine⟨_,rfl,.str z,"str",true,rfl,.inl ⟨z,rfl,rfl⟩,true,rfl,Zcz ?_⟩;refine⟨_,rfl,.str z,"str",true,rfl,.inl ⟨z,rfl,rfl⟩,true,rfl,Zcz ?_⟩;refine⟨_,rfl,_,rfl,rfl,?_⟩;rw[decide_eq_true rfl];exact q
 | @tup _ p qa xs ys h1 h2 h3 h4 k =>
  refine⟨_,rfl,.ref qa,"str",false,rfl,.inr ⟨_,_,rfl,h2,rfl⟩,false,rfl,ZbD ?_⟩;refine⟨_,rfl,.ref p,"tuple",true,rfl,.inr ⟨_,_,rfl,h1,rfl⟩,true,rfl,ZbD ?_⟩;refine⟨_,rfl,p,_,rfl,.inr h1,_,rfl,qa,_,rfl,.inr h2,rfl,_,rfl,Zaz (fun z=>absurd z (by rw[h3];simp)) (fun _=>?_)⟩;refine⟨_,rfl,qa,_,rfl,.inr h2,_,rfl,by lia,by lia,ZbE (lo:=0) (fun i σ H1=>∃(v2:Option V),σ =[some (.ref p),some (.ref qa),v2]/\H1=H) ⟨none,rfl,rfl⟩ ?_ ?_⟩
  ·rintro i σ H1 hi ⟨v2,rfl,rfl⟩;rw[Int.toNat_natCast] at hi;have hx:xs[i]?= some xs[i]:=List.getElem?_eq_getElem (by lia);have hy:ys[i]?= some ys[i]:=List.getElem?_eq_getElem (by lia);have ax:atI xs (0+(i:Int))=some xs[i]:=by rw[Int.zero_add];exact Zbc hx
   have ay:atI ys (0+(i:Int))=some ys[i]:=by rw[Int.zero_add];exact Zbc hy
   exact⟨_,rfl,_,rfl,p,_,_,_,rfl,rfl,h1,ax,_,rfl,_,rfl,qa,_,_,_,rfl,rfl,h2,ay,xs[i],ys[i],rfl,k i _ _ hx hy,true,rfl,ZbD ⟨_,rfl,rfl⟩⟩
  ·rintro σ H1 ⟨v2,rfl,rfl⟩;exact q
theorem ZkE{rg:List Str}{y:Str}(h:rg[rg.length-1]?= some y):atI (rg.map V.str) (0+((0:Nat):Int)-1)=some (.str y):=by
 rw[<- List.getLast?_eq_getElem?,List.getLast?_eq_some_iff] at h;obtain⟨r,rfl⟩:=h;rw[List.map_append];exact ZjC _ _
theorem ZhH{rg:List Str}{k:Nat}{y:Str}(h:rg[k]?= some y):atI (rg.map V.str) (0+((k+1:Nat):Int)-1)=some (.str y):=by
 have e:(0+((k+1:Nat):Int)-1)=(k:Int):=by lia
 rw[e];exact Zbc (by rw[List.getElem?_map,h];rfl)
theorem Zfd:∀{rg:List Str}(n:Str),rg.Nodup->rg.countP (fun x=>decide (x=n))<=1
 | [],_,_=>Nat.zero_le _
 | a::r,n,h=>by
  rw[List.nodup_cons] at h;rw[List.countP_cons];have:=Zfd n h.2;by_cases e:a=n
  ·have z:r.countP (fun x=>decide (x=n))=0:=by
    rw[List.countP_eq_zero];intro x hx y;have y:=of_decide_eq_true y;exact h.1 (by rw[e,<- y];exact hx)
   rw[z]
   split <;> lia
  ·rw[decide_eq_false e]
   simpa using this
def ZeO(K:PySem.W.Frag):Sp:=fun vs H Q _=>∃l d rg ns us,vs=[.ref l,.ref d]/\H l=some (.lst (rg.map V.str))/\UsR H d ns us/\Zkd us ns rg/\rg.length<=8/\Q (.bl true) H
set_option maxHeartbeats 2000000 in
theorem Zfa(B:∀x∈Zbv,mg x=none)(F:Fun K "_law_is_ring" "_law_is_ring" ZaW f fd):FnOk P w K mg base CX0 1 f fd ["_law_told","_law_after"] (ZeO K):=by
 refine F.ok Zcf (fun vs H Q E h=>?_) (fun cdv A outer s H vs Q E hr h=>?_)
 ·obtain⟨l,d,rg,ns,us,rfl,_⟩:=h;rfl
 obtain⟨l,d,rg,ns,us,rfl,hL,hU,⟨r0,rn,rs,rc1,rc2⟩,h8,q⟩:=h;have hS:SqL K H l (rg.map V.str):=SqL.of hL;have hu1:(A.deeper (PyProof.Rows.envOfC (Str.ofString "_law_is_ring") (Zg ZaW) s.heap.objs.size f cdv)).units+1<cLine:=by have:=hr.un;lia
 refine⟨_,(Zc (Z2 (PW.pt (ZeU (Zbu (Z1 (Zu ZcI rfl (B "isinstance" (by decide)) ZJ (Za (pv 0) (Za (ZeS rfl (B "list" (by decide)) Zc6) Zd))) (fun _=>rfl))) (Zdy (Zo ZaM (Zu ZD rfl (B "len" (by decide)) PySem.boot_len (Za (pv 0) Zd)) Zh (ZG _)))))
   (Zf (Zr Zcr))
   Zq)
  (Zc (Za7 PassesOwn.never rfl (ZaS (pv 0)) (Zn (i:=2) Zcf.nd rfl (Or.inl rfl))
   (Zf (Z2 (PW.pt (ZeU (Zbu (Z1 (Zu ZcI rfl (B "isinstance" (by decide)) ZJ (Za (pv 2) (Za (ZeS rfl (B "str" (by decide)) ZgG) Zd))) (fun _=>rfl))) (ZeU (Zio (Zfx hu1 (pv 2) (pv 1))) (Zdy (Zo Zhk (Zb0 PySem.F.plainAttrs_list PySem.F.slot_list_count PySem.F.type_list_count (Zi7 (K:=K) rfl) (pv 0) (Za (pv 2) Zd)) Zh (ZG _))))))
     (Zf (Zr Zcr))
     Zq)))
  (Zc (Za7 PassesOwn.never rfl (ZaU rfl (B "range" (by decide)) (Za (Zu ZD rfl (B "len" (by decide)) PySem.boot_len (Za (pv 0) Zd)) Zd)) (Zn (i:=3) Zcf.nd rfl (Or.inl rfl))
   (Zf (Z2 (Zo Zby (ZP Z6 (pv 0) (pv 3) (fun _ _=>rfl)) (Zet hu1 (pv 1) (ZP Z6 (pv 0) (ZK Zb6 (pv 3) Zh) (fun _ _=>rfl)) (fun _ _=>rfl)) (by with_unfolding_all rfl))
     (Zf (Zr Zcr))
     Zq)))
  (Zf (Zr Zcr))))),?_⟩
 have hne:(rg.map V.str).length≠0:=by
  rw[List.length_map];exact fun z=>r0 (List.eq_nil_of_length_eq_zero z)
 refine⟨_,rfl,.ref l,"list",.type "list",true,rfl,.lst hL,rfl,true,rfl,ZbD ?_⟩;refine⟨_,rfl,l,_,rfl,.inl hS,rfl,_,rfl,Zaz (fun z=>?_) (fun _=>?_)⟩
 ·have z:V.int (((rg.map V.str).length:Nat):Int)=V.int 0:=of_decide_eq_true z;injection z with z;lia
 obtain⟨kvs,hd,hk⟩:=id hU;refine⟨_,rfl,l,rfl,⟨_,hS⟩,ZbT (K:=K) (a:=l) (xs:=rg.map V.str) (fun i σ H1=>∃v2:Option V,σ =[some (.ref l),some (.ref d),v2,none]/\H1=H) ⟨none,rfl,rfl⟩ ?_ ?_ ?_⟩
 ·rintro i σ H1 _ ⟨v2,_,rfl⟩;exact hS
 ·rintro i x σ H1 hx ⟨v2,rfl,rfl⟩;rw[List.getElem?_map] at hx;obtain⟨n,hn,rfl⟩:=Option.map_eq_some_iff.mp hx;obtain⟨b,hb,_⟩:=hk n (rs n (List.mem_of_getElem? hn));refine⟨_,rfl,.str n,"str",.type "str",true,rfl,.str _,rfl,true,rfl,ZbD ?_⟩;refine⟨_,rfl,_,rfl,d,_,rfl,ZfF.k (k:=.inr n) hd,_,rfl,?_⟩;rw[hb];refine ZbD ?_;refine⟨_,rfl,.inl ⟨rfl,_,hS⟩,_,rfl,l,n,rg,rfl,rfl,hS,_,_,rfl,rfl,_,rfl,Zaz (fun z=>?_) (fun _=>⟨_,rfl,rfl⟩)⟩;have z:=of_decide_eq_true z;have:=Zfd n rn;lia
 rintro σ H1 ⟨v2,rfl,rfl⟩;refine⟨_,rfl,l,_,rfl,.inl hS,_,rfl,by lia,by rw[List.length_map];lia,ZbE (lo:=0) (fun i σ H2=>∃v3:Option V,σ =[some (.ref l),some (.ref d),v2,v3]/\H2=H1) ⟨none,rfl,rfl⟩ ?_ ?_⟩
 ·rintro i σ H2 hi ⟨v3,rfl,rfl⟩;rw[Int.toNat_natCast,List.length_map] at hi;obtain⟨n,hn⟩:∃n,rg[i]?= some n:=⟨_,List.getElem?_eq_getElem hi⟩;have an:atI (rg.map V.str) (0+(i:Int))=some (.str n):=by rw[Int.zero_add];exact Zbc (by rw[List.getElem?_map,hn];rfl)
  obtain⟨m,hm,am,hin⟩:∃m,m∈rg/\atI (rg.map V.str) (0+(i:Int)-1)=some (.str m)/\n∈us m:=by
   cases i with
   | zero =>
    obtain⟨m,hm⟩:∃m,rg[rg.length-1]?= some m:=⟨_,List.getElem?_eq_getElem (by lia)⟩;exact⟨m,List.mem_of_getElem? hm,ZkE hm,rc2 _ _ hn hm⟩
   | succ k =>
    obtain⟨m,hm⟩:∃m,rg[k]?= some m:=⟨_,List.getElem?_eq_getElem (by lia)⟩;exact⟨m,List.mem_of_getElem? hm,ZhH hm,rc1 k _ _ hm hn⟩
  obtain⟨b,hb,hb2,_⟩:=hk m (rs m hm);refine⟨_,rfl,_,rfl,l,_,_,_,rfl,rfl,hS,an,_,rfl,_,rfl,_,rfl,_,_,rfl,rfl,l,_,_,_,rfl,rfl,hS,am,d,.ref b,rfl,by rw[<- hb];exact ZfF.k (k:=.inr m) hd,b,_,rfl,.inl (SqL.of hb2),rfl,Zbf (us m),_,rfl,?_⟩;have e:inV (.str n) ((us m).map V.str)=true:=by rw[ZbA];exact List.contains_iff_mem.mpr hin
  rw[e];exact ZbD ⟨_,rfl,rfl⟩
 rintro σ H2 ⟨v3,rfl,rfl⟩;exact q
def Trp(H:Hp)(v:V)(x:Str×Ex):Prop := ∃t q,v=.ref t/\H t=some (.tup [.str x.1,.ref q,.str (tx x.2)])/\RepE H q x.2
def TrL(H:Hp)(vs:List V)(bk:List (Str×Ex)):Prop:=Paired (Trp H) vs bk
theorem TrL.tk{H H':Hp}(k:TK H H'){vs:List V}{bk:List (Str×Ex)}(h:TrL H vs bk):TrL H' vs bk:=Paired.mapP h fun _ _ z=>by
 obtain⟨p,q,e,h1,h2⟩:=z;exact⟨p,q,e,k _ _ h1,h2.mono k⟩
def Zmv(H:Hp)(bk:List (Str×Ex))(w:Str)(v:V):Prop :=
 (∃n,twI [] (bk.map (·.1))=some n/\w= "twice" /\ v=.str n) \/
 (twI [] (bk.map (·.1))=none/\∃n,lkN (bk.map (·.1)) (ZdU bk)=some n/\w= "lacks" /\ v=.str n) \/
 (twI [] (bk.map (·.1))=none/\lkN (bk.map (·.1)) (ZdU bk)=none/\((Cyc (usB bk) (bk.map (·.1))/\w= "ring")\/(¬ Cyc (usB bk) (bk.map (·.1))/\w= "book"))/\∃d,v=.ref d/\UsR H d (bk.map (·.1)) (usB bk))
def Zjb(K:PySem.W.Frag):Sp:=fun vs H Q _=>∃p vs' bk,vs=[.ref p]/\SqL K H p vs'/\TrL H vs' bk/\bk.length<=8/\(∀x∈bk,Bk1 x)/\∀tp w v H',Zk H H'->H' tp=some (.tup [.str w,v])->Zmv H' bk w v->Q (.ref tp) H'
theorem Zhm{α : Type}(l:List α)(g : α -> Bool):decide (((l.filter g).length:Int) > 0)=l.any g:=by
 by_cases h:l.any g=true
 ·rw[h];obtain⟨x,h1,h2⟩:=List.any_eq_true.mp h;have:0<(l.filter g).length:=List.length_pos_of_mem (List.mem_filter.mpr ⟨h1,h2⟩);exact decide_eq_true (by lia)
 ·rw[Bool.eq_false_iff.mpr h];have:l.filter g=[]:=by
   rw[List.filter_eq_nil_iff];intro x hx y;exact h (List.any_eq_true.mpr ⟨x,hx,y⟩)
  rw[this];rfl
set_option maxHeartbeats 4000000 in
theorem Zjw(B:∀x∈Zbv,mg x=none)(g_l_used:Has P w K mg base "_law_used" ["_law_expr","_law_outside"] 14 (ZgB 13)) (F:Fun K "_law_due" "_law_due" Zay f fd):FnOk P w K mg base CX0 15 f fd ["_law_pairs_here"] (Zjb K):=by
 refine F.ok ZaQ (fun vs H Q E h=>?_) (fun cdv A outer s H vs Q E hr h=>?_)
 ·obtain⟨p,vs',bk,rfl,_⟩:=h;rfl
 obtain⟨p,vs',bk,rfl,hS,hT,hl,hb,q⟩:=h;have hu1:(A.deeper (PyProof.Rows.envOfC (Str.ofString "_law_due") (Zg Zay) s.heap.objs.size f cdv)).units+1<cLine:=by have:=hr.un;lia
 have hlen:vs'.length=bk.length:=Paired.length hT;refine ZF ((Ze Zay).drop 6) (Zf (Zr (ZM (Za (ZP Z6 (ZaA (Za Zj (Za Zj Zd))) (Zam ZcY rfl (B "int" (by decide)) Zgu (Za (Zcx Zhk (Zu ZD rfl (B "len" (by decide)) PySem.boot_len (Za (pv 7) Zd)) Zh (ZG _)) Zd)) (fun _ _=>rfl)) (Za (pv 5) Zd))))) (fun u6 h6 e6=>?_);refine ZF ((ZaK ((Ze Zay).getD 5 (.Pass ⟨0,0,0,0⟩))).drop 0) (Zf (Zt (i:=7) ZaQ.nd rfl (Or.inr rfl) (Zci (cl:=_) ["_law_name"] [("_law_after",5),("_law_left",7)] (ZaS (pv 7)) (fun _ _ _ _=>(Zn (i:=0) (show List.Nodup (["_law_name","_law_after","_law_left"]:List Str) by decide) rfl (Or.inl rfl))) (fun _ _ _ _=>(Zo Zhk (Zu (ZeN (K:=K) rfl) rfl (B "len" (by decide)) PySem.boot_len (Za (Zci (cl:=_) ["_law_other"] [("_law_left",2)] (K24.Zg3 (K:=K) rfl (Zet hu1 (pv 1) (pv 0) (fun _ _=>rfl))) (fun _ _ _ _=>(Zn (i:=0) (show List.Nodup (["_law_other","_law_left"]:List Str) by decide) rfl (Or.inl rfl))) (fun _ _ _ _=>(Zo (Zdi (K:=K) rfl) (pv 0) (pv 1) (by with_unfolding_all rfl))) (fun _ _ _ _=>(pv 0)) rfl rfl (by decide) rfl (by decide) (Zcv (by(repeat' first|exact List.forall_mem_nil _|refine List.forall_mem_cons.mpr ⟨?_,?_⟩) <;> rfl)) (Zbz (by(repeat' first|exact List.forall_mem_nil _|refine List.forall_mem_cons.mpr ⟨?_,?_⟩) <;> first|(intro h;exact⟨_,rfl⟩)|(intro h;exact absurd h (by decide)))) (fun _=>by(repeat' first|exact List.forall_mem_nil _|refine List.forall_mem_cons.mpr ⟨?_,?_⟩) <;> exact⟨rfl,rfl,Or.inl rfl⟩) (fun _=>rfl)) Zd)) Zh (ZG _))) (fun _ _ _ _=>(pv 0)) rfl rfl (by decide) rfl (by decide) (Zcv (by(repeat' first|exact List.forall_mem_nil _|refine List.forall_mem_cons.mpr ⟨?_,?_⟩) <;> rfl)) (Zbz (by(repeat' first|exact List.forall_mem_nil _|refine List.forall_mem_cons.mpr ⟨?_,?_⟩) <;> first|(intro h;exact⟨_,rfl⟩)|(intro h;exact absurd h (by decide)))) (fun _=>by(repeat' first|exact List.forall_mem_nil _|refine List.forall_mem_cons.mpr ⟨?_,?_⟩) <;> exact⟨rfl,rfl,Or.inl rfl⟩) (fun _=>rfl)))) (fun u5_0 h5_0 e5_0=>?_)
 refine ZF ((Ze Zay).drop 5) (Zc (Za7 PassesOwn.never rfl (ZaU rfl (B "range" (by decide)) (Za (Zu ZD rfl (B "len" (by decide)) PySem.boot_len (Za (pv 1) Zd)) Zd)) (Zn (i:=8) ZaQ.nd rfl (Or.inl rfl))
   h5_0) h6) (fun u5 h5 e5=>?_)
 refine ZF ((Ze Zay).drop 4) (Zc (Zt (i:=7) ZaQ.nd rfl (Or.inr rfl) (Zam Zbx rfl (B "list" (by decide)) Zc6 (Za (pv 1) Zd))) h5) (fun u4 h4 e4=>?_);refine ZF ((ZaK ((ZaK ((Ze Zay).getD 3 (.Pass ⟨0,0,0,0⟩))).getD 1 (.Pass ⟨0,0,0,0⟩))).drop 0) (Zf (Z2 (Zo Zby (pv 6) (pv 1) (by with_unfolding_all rfl))
   (Zf (Zr (ZM (Za Zj (Za (pv 6) Zd)))))
   Zq)) (fun u3_1_0 h3_1_0 e3_1_0=>?_)
 refine ZF ((ZaK ((Ze Zay).getD 3 (.Pass ⟨0,0,0,0⟩))).drop 1) (Zf (Za7 PassesOwn.never rfl (ZaS (ZQ g_l_used hr rfl (Za (pv 3) (Za Zcr Zd)))) (Zn (i:=6) ZaQ.nd rfl (Or.inl rfl))
   h3_1_0)) (fun u3_1 h3_1 e3_1=>?_)
 refine ZF ((ZaK ((Ze Zay).getD 3 (.Pass ⟨0,0,0,0⟩))).drop 0) (Zc (ZiW hu1 (pv 5) (pv 2) (ZQ g_l_used hr rfl (Za (pv 3) (Za Zcr Zd))) rfl) h3_1) (fun u3_0 h3_0 e3_0=>?_);refine ZF ((Ze Zay).drop 3) (Zc (Za7 PassesOwn.never rfl (ZaS (pv 0)) (ZbH rfl (Zv (Zn (i:=2) ZaQ.nd rfl (Or.inl rfl)) (Zv (Zn (i:=3) ZaQ.nd rfl (Or.inl rfl)) (Zv (Zn (i:=4) ZaQ.nd rfl (Or.inl rfl)) ZaG))))
   h3_0) h4) (fun u3 h3 e3=>?_)
 refine ZF ((Ze Zay).drop 2) (Zc (Zt (i:=5) ZaQ.nd rfl (Or.inr rfl) Zg1) h3) (fun u2 h2 e2=>?_);refine ZF ((ZaK ((Ze Zay).getD 1 (.Pass ⟨0,0,0,0⟩))).drop 1) (Zf (ZaH (Zb0 PySem.F.plainAttrs_list PySem.F.slot_list_append PySem.F.type_list_append Za3 (pv 1) (Za (pv 2) Zd)))) (fun u1_1 h1_1 e1_1=>?_);refine ZF ((ZaK ((Ze Zay).getD 1 (.Pass ⟨0,0,0,0⟩))).drop 0) (Zc (Z2 (Zo ZbB (pv 2) (pv 1) (by with_unfolding_all rfl))
   (Zf (Zr (ZM (Za Zj (Za (pv 2) Zd)))))
   Zq) h1_1) (fun u1_0 h1_0 e1_0=>?_)
 refine ZF ((Ze Zay).drop 1) (Zc (Za7 PassesOwn.never rfl (ZaS (pv 0)) (ZbH rfl (Zv (Zn (i:=2) ZaQ.nd rfl (Or.inl rfl)) (Zv (Zn (i:=3) ZaQ.nd rfl (Or.inl rfl)) (Zv (Zn (i:=4) ZaQ.nd rfl (Or.inl rfl)) ZaG))))
   h1_0) h2) (fun u1 h1 e1=>?_)
 refine ZF ((Ze Zay).drop 0) (Zc (Zt (i:=1) ZaQ.nd rfl (Or.inl rfl) (ZaA Zd)) h1) (fun u0 h0 e0=>?_);refine⟨u0,h0,?_⟩;refine Zz e0 ?_;refine⟨(by show 0<=sizeLine;decide),fun la hla=>?_⟩;have s1:Zk H (upd H la (.lst [])):=Zk.new hla;have e1':upd H la (.lst []) la=some (.lst []):=Zb;generalize upd H la (.lst [])=H1 at s1 e1' ⊢;show u1 _ _ _;refine Zz e1 ?_;refine⟨_,rfl,p,rfl,⟨vs',s1.seq hS⟩,ZbT (K:=K) (a:=p) (xs:=vs') (fun i σ H2=>∃v2 v3 v4:Option V,σ =[some (.ref p),some (.ref la),v2,v3,v4,none,none,none,none]/\Zk H H2/\H2 la=some (.lst (((bk.take i).map (·.1)).map V.str))/\twI [] (bk.map (·.1))=twI ((bk.take i).map (·.1)) ((bk.drop i).map (·.1)))
  ⟨none,none,none,rfl,s1,e1',rfl⟩ ?_ ?_ ?_⟩
 ·rintro i σ H2 _ ⟨v2,v3,v4,_,sm,_⟩;exact sm.seq hS
 ·rintro i x σ H2 hx ⟨v2,v3,v4,rfl,sm,hla2,ht⟩;obtain⟨x,hx1,tt,qq,rfl,f1,f2⟩:=Z7 hT hx;obtain⟨hi1,hi2⟩:=List.getElem?_eq_some_iff.mp hx1;rw[ZbN hx1,List.map_cons,twI] at ht;refine⟨tt,_,rfl,SqT.of (sm _ _ f1),rfl,_,_,rfl,_,_,rfl,_,_,rfl,rfl,?_⟩;show u1_0 _ _ _;refine Zz e1_0 ?_;refine⟨_,rfl,_,rfl,la,_,rfl,.inl (SqL.of hla2),rfl,Zbf _,_,rfl,?_⟩;have hin:inV (.str x.1) (((bk.take i).map (·.1)).map V.str)=((bk.take i).map (·.1)).contains x.1:=ZbA _ _;refine Zaz (fun z=>?_) (fun z=>?_)
  ·have z:x.1∈(bk.take i).map (·.1):=List.contains_iff_mem.mp (by rw[<- hin];exact z);rw[if_pos z] at ht;exact⟨_,rfl,(by show 2<=sizeLine;decide),fun tp htp=>q tp _ _ _ (sm.trans (Zk.new htp)) Zb (.inl ⟨_,ht,rfl,rfl⟩)⟩
  ·have z:x.1∉(bk.take i).map (·.1):=fun k=>z (by show inV _ _=true;rw[hin];exact List.contains_iff_mem.mpr k);rw[if_neg z] at ht;show u1_1 _ _ _;refine Zz e1_1 ?_;refine⟨_,rfl,.inl ⟨rfl,_,SqL.of hla2⟩,_,rfl,la,_,_,rfl,rfl,hla2,ZR (by rw[List.length_map,List.length_map,List.length_take];lia),_,_,_,rfl,?_,?_,?_⟩
   ·intro b o hb';rw[Zi (Zm hb' hla)];exact sm _ _ hb'
   ·rw[Zb,List.take_succ_eq_append_getElem hi1,hi2,List.map_append,List.map_append];rfl
   ·rw[ht,List.take_succ_eq_append_getElem hi1,hi2,List.map_append];rfl
 rintro σ H2 ⟨v2,v3,v4,rfl,sm,hla2,ht⟩;rw[hlen,List.drop_length] at ht;rw[hlen,List.take_length] at hla2;have ht:twI [] (bk.map (·.1))=none:=ht;have hnd:(bk.map (·.1)).Nodup:=ZiE List.nodup_nil ht;show u2 _ _ _;refine Zz e2 ?_;refine fun pd hpd=>?_;have s3:Zk H2 (upd H2 pd (.dK [])):=Zk.new hpd;have e3':upd H2 pd (.dK []) pd=some (.dK []):=Zb;generalize upd H2 pd (.dK [])=H3 at s3 e3' ⊢;show u3 _ _ _;refine Zz e3 ?_;refine⟨_,rfl,p,rfl,⟨vs',(sm.trans s3).seq hS⟩,ZbT (K:=K) (a:=p) (xs:=vs') (fun i σ H4=>∃(v2 v3 v4 v6:Option V)(kvs:List (Key×V)),σ =[some (.ref p),some (.ref la),v2,v3,v4,some (.ref pd),v6,none,none]/\Zk H2 H4/\H4 pd=some (.dK kvs)/\Paired (KvU pd H4) kvs (bk.take i)/\lkN (bk.map (·.1)) (ZdU bk)=lkN (bk.map (·.1)) (ZdU (bk.drop i)))
  ⟨v2,v3,v4,none,[],rfl,s3,e3',.nil,rfl⟩ ?_ ?_ ?_⟩
 ·rintro i σ H4 _ ⟨v2,v3,v4,v6,kvs,_,sm4,_⟩;exact(sm.trans sm4).seq hS
 ·rintro i x σ H4 hx ⟨v2,v3,v4,v6,kvs,rfl,sm4,hd4,hP,hlk⟩;obtain⟨x,hx1,tt,qq,rfl,f1,f2⟩:=Z7 hT hx;obtain⟨hi1,hi2⟩:=List.getElem?_eq_some_iff.mp hx1;obtain⟨b1,b2,b3,b4⟩:=hb x (List.mem_of_getElem? hx1);have s04:=sm.trans sm4;rw[ZbN hx1] at hlk;refine⟨tt,_,rfl,SqT.of (s04 _ _ f1),rfl,_,_,rfl,_,_,rfl,_,_,rfl,rfl,?_⟩;show u3_0 _ _ _;refine Zz e3_0 ?_;refine⟨_,rfl,qq,x.2,true,rfl,f2.mono s04.tk,b2,b3,fun l5 H5 s5 fl5 e5'=>?_⟩;have hkl:kvs.length=i:=by
   rw[Paired.length hP,List.length_take];lia
  have hnew:Zct kvs (.inr x.1)=none:=by
   rw[<- Option.not_isSome_iff_eq_none,<- ZbU,List.any_eq_true];rintro⟨kv,hkv,e⟩;have e:=of_decide_eq_true e;have hk:=ZeK hP;have:kv.1∈((bk.take i).map (·.1)).map fun n=>(Sum.inr n:Key):=by rw[<- hk];exact List.mem_map.mpr ⟨kv,hkv,rfl⟩
   rw[e] at this;obtain⟨n,hn,he⟩:=List.mem_map.mp this;cases he;have h9:=hnd;rw[<- List.take_append_drop i bk,List.map_append,List.nodup_append] at h9;exact h9.2.2 x.1 hn x.1 (by rw[ZbN hx1];exact List.mem_cons_self ..) rfl
  refine⟨_,rfl,_,rfl,pd,_,rfl,.inl ⟨_,.inr x.1,s5 _ _ hd4,rfl,ZR (by lia),rfl⟩,?_⟩;rw[ZeY _ hnew];have n5:l5≠pd:=fun z=>by rw[z,hd4] at fl5;cases fl5
  have k6:∀b o,b≠pd->H5 b=some o->upd H5 pd (.dK (kvs ++ [(.inr x.1,.ref l5)])) b=some o:=fun b o nb hb=>by rw[Zi nb];exact hb
  have s6:Zk H2 (upd H5 pd (.dK (kvs ++ [(.inr x.1,.ref l5)]))):=fun b o hb=>k6 _ _ (Zm hb hpd) (s5 _ _ (sm4 _ _ hb));have P6:Paired (KvU pd (upd H5 pd (.dK (kvs ++ [(.inr x.1,.ref l5)])))) (kvs ++ [(.inr x.1,.ref l5)]) (bk.take (i+1)):=by
   rw[List.take_succ_eq_append_getElem hi1,hi2];refine Paired.app (Paired.mapP hP fun kv y z=>?_) (.cons ⟨rfl,l5,n5,rfl,k6 _ _ n5 e5'⟩ .nil);obtain⟨z1,b,z0,z2,z3⟩:=z;exact⟨z1,b,z0,z2,k6 _ _ z0 (s5 _ _ z3)⟩
  have d6:upd H5 pd (.dK (kvs ++ [(.inr x.1,.ref l5)])) pd=some (.dK (kvs ++ [(.inr x.1,.ref l5)])):=Zb;generalize upd H5 pd (.dK (kvs ++ [(.inr x.1,.ref l5)]))=H6 at k6 s6 P6 d6 ⊢;have s06:=sm.trans s6;show u3_1 _ _ _;refine Zz e3_1 ?_;refine⟨_,rfl,qq,x.2,false,rfl,f2.mono s06.tk,b2,b3,fun l7 H7 s7 fl7 e7'=>?_⟩;refine⟨l7,rfl,⟨_,SqL.of e7'⟩,ZbT (K:=K) (a:=l7) (xs:=(nm true x.2).map V.str) (fun j σ H8=>∃v6:Option V,σ =[some (.ref p),some (.ref la),some (.str x.1),some (.ref qq),some (.str (tx x.2)),some (.ref pd),v6,none,none]/\H8=H7/\lkN (bk.map (·.1)) (ZdU bk)=lkN (bk.map (·.1)) ((nm true x.2).drop j++ZdU (bk.drop (i+1))))
   ⟨_,rfl,rfl,hlk⟩ ?_ ?_ ?_⟩
  ·rintro j σ H8 _ ⟨v6,_,rfl,_⟩;exact SqL.of e7'
  ·rintro j y σ H8 hy ⟨v6,rfl,rfl,hj⟩;rw[List.getElem?_map] at hy;obtain⟨m,hm,rfl⟩:=Option.map_eq_some_iff.mp hy;rw[ZbN hm,List.cons_append] at hj;unfold lkN at hj;rw[List.find?_cons] at hj;show u3_1_0 _ _ _;refine Zz e3_1_0 ?_;refine⟨_,rfl,_,rfl,la,_,rfl,.inl (SqL.of (s7 _ _ (s6 _ _ hla2))),rfl,Zbf _,_,rfl,?_⟩;have hin:inV (.str m) ((bk.map (·.1)).map V.str)=(bk.map (·.1)).contains m:=ZbA _ _;refine Zaz (fun z=>?_) (fun z=>?_)
   ·have z:m∉bk.map (·.1):=fun k=>by
     have z:(!inV (.str m) ((bk.map (·.1)).map V.str))=true:=z;rw[hin,List.contains_iff_mem.mpr k] at z;cases z
    rw[decide_eq_true z] at hj;exact⟨_,rfl,(by show 2<=sizeLine;decide),fun tp htp=>q tp _ _ _ ((s06.trans s7).trans (Zk.new htp)) Zb (.inr (.inl ⟨ht,_,hj,rfl,rfl⟩))⟩
   ·have z:m∈bk.map (·.1):=Classical.byContradiction fun k=>z (by
     show(!inV (.str m) ((bk.map (·.1)).map V.str))=true;rw[hin,Bool.eq_false_iff.mpr (fun y=>k (List.contains_iff_mem.mp y))];rfl)
    rw[decide_eq_false (fun k=>k z)] at hj;exact⟨_,rfl,rfl,hj⟩
  ·rintro σ H8 ⟨v6,rfl,rfl,hj⟩;rw[List.length_map,List.drop_length,List.nil_append] at hj;refine⟨_,_,_,_,_,rfl,s6.trans s7,s7 _ _ d6,Paired.mapP P6 fun kv y z=>?_,hj⟩;obtain⟨z1,b,z0,z2,z3⟩:=z;exact⟨z1,b,z0,z2,s7 _ _ z3⟩
 rintro σ H4 ⟨v2,v3,v4,v6,kvs,rfl,sm4,hd4,P4,hlk⟩;rw[hlen,List.take_length] at P4;rw[hlen,List.drop_length] at hlk;have hlk:lkN (bk.map (·.1)) (ZdU bk)=none:=hlk;have U:UsR H4 pd (bk.map (·.1)) (usB bk):=⟨kvs,hd4,fun n hn'=>by
  obtain⟨x,hx,rfl⟩:=List.mem_map.mp hn';obtain⟨b,h4,h5⟩:=Zgp P4 hnd hx;have h6:=ZdC false x.2;have h7:=(hb x hx).2.2.1;refine⟨b,h4,?_,?_⟩
  ·rw[Zfu hnd hx];exact h5
  ·rw[Zfu hnd hx];lia⟩
 have s04:=sm.trans sm4;have hla4:=sm4 _ _ hla2;show u4 _ _ _;refine Zz e4 ?_;refine⟨_,rfl,la,_,rfl,.inl (SqL.of hla4),fun l5 hl5=>?_⟩;have s5:Zk H4 (upd H4 l5 (.lst ((bk.map (·.1)).map V.str))):=Zk.new hl5;have e5':upd H4 l5 (.lst ((bk.map (·.1)).map V.str)) l5=some (.lst ((bk.map (·.1)).map V.str)):=Zb;generalize upd H4 l5 (.lst ((bk.map (·.1)).map V.str))=H5 at s5 e5' ⊢;show u5 _ _ _;refine Zz e5 ?_;refine⟨_,rfl,la,_,rfl,.inl (SqL.of (s5 _ _ hla4)),_,rfl,by lia,by rw[List.length_map,List.length_map];lia,ZbE (lo:=0) (fun k σ H6=>∃(v8:Option V)(ls:List Str)(lf:Addr),σ =[some (.ref p),some (.ref la),v2,v3,v4,some (.ref pd),v6,some (.ref lf),v8]/\Zk H4 H6/\H6 lf=some (.lst (ls.map V.str))/\ls.length<=8/\(∀n∈ls,n∈bk.map (·.1))/\(∀S:List Str,(∀n∈S,n∈bk.map (·.1))->(∀n∈S,∃m∈usB bk n,m∈S)->∀n∈S,n∈ls)/\(ls.length+k<=(bk.map (·.1)).length\/∀n∈ls,∃m∈usB bk n,m∈ls))
  ⟨none,_,l5,rfl,s5,e5',by rw[List.length_map];exact hl,fun _ h=>h,fun S h _=>h,.inl (Nat.le_refl _)⟩ ?_ ?_⟩
 ·rintro k σ H6 hk ⟨v8,ls,lf,rfl,s6,hlf,hll,hsub,hcy,hfx⟩;have U6:=(U.less hsub).same s6;show u5_0 _ _ _;refine Zz e5_0 ?_;refine⟨_,rfl,lf,rfl,⟨_,SqL.of hlf⟩,fun p7 hp7=>Zcm (K:=K) (a:=lf) (p:=p7) (xs:=ls.map V.str) (fun i ys σ H7=>∃v0:Option V,σ =[v0,some (.ref pd),some (.ref lf)]/\Zk H6 H7/\H7 p7=some (.lst ys)/\ys=((ls.take i).filter fun n=>(usB bk n).any fun m=>ls.contains m).map V.str)
   ⟨none,rfl,Zk.new hp7,Zb,rfl⟩ ?_ ?_ ?_⟩
  ·rintro i ys σ H7 _ ⟨v0,_,sm7,hp2,_⟩;exact⟨SqL.of (sm7 _ _ hlf),hp2⟩
  ·rintro i ys x σ H7 hi hx ⟨v0,rfl,sm7,hp2,rfl⟩;rw[List.getElem?_map] at hx;obtain⟨n,hx1,rfl⟩:=Option.map_eq_some_iff.mp hx;obtain⟨kvs',h1,h2⟩:=U6.same sm7;obtain⟨b,e1',e2',e3''⟩:=h2 n (List.mem_of_getElem? hx1);refine⟨_,rfl,_,rfl,pd,.ref b,rfl,by rw[<- e1'];exact ZfF.k (k:=.inr n) h1,b,rfl,⟨_,SqL.of e2'⟩,fun p2 hp2n=>Zcm (K:=K) (a:=b) (p:=p2) (xs:=(usB bk n).map V.str) (fun j ys σ H8=>∃v0:Option V,σ =[v0,some (.ref lf)]/\Zk H7 H8/\H8 p2=some (.lst ys)/\ys=(((usB bk n).take j).filter fun m=>ls.contains m).map V.str)
    ⟨none,rfl,Zk.new hp2n,Zb,rfl⟩ ?_ ?_ ?_⟩
   ·rintro j ys σ H8 _ ⟨v0,_,sm8,hp3,_⟩;exact⟨SqL.of (sm8 _ _ e2'),hp3⟩
   ·rintro j ys x σ H8 hj hx ⟨v0,rfl,sm8,hp3,rfl⟩;rw[List.getElem?_map] at hx;obtain⟨m,hm1,rfl⟩:=Option.map_eq_some_iff.mp hx;have fx:=ZbV (g:=fun m=>ls.contains m) hm1;refine⟨_,rfl,_,rfl,lf,_,rfl,.inl (SqL.of ((sm7.trans sm8) _ _ hlf)),rfl,Zbf ls,_,rfl,?_⟩;have hin:inV (.str m) (ls.map V.str)=ls.contains m:=ZbA _ _;refine Zaz (fun z=>?_) (fun z=>?_)
    ·have z:ls.contains m=true:=by rw[<- hin];exact z
     rw[if_pos z] at fx;refine⟨_,rfl,hp3,ZR ?_,CW.next hj ⟨_,rfl,sm8.upd_new hp2n,Zb,?_⟩⟩
     ·rw[List.length_map];have:=List.length_filter_le (fun m=>ls.contains m) ((usB bk n).take j);rw[List.length_take] at this;lia
     ·rw[fx,List.map_append];rfl
    ·have z : ¬ ls.contains m=true:=by rw[<- hin];exact z
     rw[if_neg z,List.append_nil] at fx;exact CW.next hj ⟨_,rfl,sm8,hp3,by rw[fx]⟩
   ·rintro ys σ H8 ⟨v0,_,sm8,hp3,rfl⟩;rw[List.length_map,List.take_length] at hp3;refine⟨p2,_,rfl,.inl (SqL.of hp3),_,_,rfl,rfl,_,rfl,?_⟩;have ea:decide (0<((((usB bk n).filter fun m=>ls.contains m).map V.str).length:Int))=(usB bk n).any fun m=>ls.contains m:=by
     rw[List.length_map];exact Zhm _ _
    rw[ea];have fx:=ZbV (g:=fun n=>(usB bk n).any fun m=>ls.contains m) hx1;refine Zaz (fun z=>?_) (fun z=>?_)
    ·rw[if_pos z] at fx;refine⟨_,rfl,sm8 _ _ hp2,ZR ?_,CW.next hi ⟨_,rfl,(sm7.trans sm8).upd_new hp7,Zb,?_⟩⟩
     ·rw[List.length_map];have:=List.length_filter_le (fun n=>(usB bk n).any fun m=>ls.contains m) (ls.take i);rw[List.length_take] at this;lia
     ·rw[fx,List.map_append];rfl
    ·rw[if_neg z,List.append_nil] at fx;exact CW.next hi ⟨_,rfl,sm7.trans sm8,sm8 _ _ hp2,by rw[fx]⟩
  ·rintro ys σ H7 ⟨v0,_,sm7,hp2,rfl⟩;rw[List.length_map,List.take_length] at hp2;have hs:∀n∈ZhP (usB bk) ls,n∈ls:=fun n hn=>(List.mem_filter.mp hn).1;refine⟨_,ZhP (usB bk) ls,p7,rfl,s6.trans sm7,hp2,Nat.le_trans (List.length_filter_le _ _) hll,fun n hn=>hsub n (hs n hn),fun S h k'=>ZhL k' (hcy S h k'),?_⟩;by_cases hz:(ZhP (usB bk) ls).length<ls.length
   ·rcases hfx with hfx|hfx
    ·exact .inl (by lia)
    ·exact .inr fun n hn=>by
      obtain⟨m,h1,h2⟩:=hfx n (hs n hn);obtain⟨m',h3,h4⟩:=hfx m h2;exact⟨m,h1,List.mem_filter.mpr ⟨h2,List.any_eq_true.mpr ⟨m',h3,List.contains_iff_mem.mpr h4⟩⟩⟩
   ·have hfix:=Zii hz;exact .inr fun n hn=>by
     obtain⟨m,h1,h2⟩:=hfix n (hs n hn);obtain⟨m',h3,h4⟩:=hfix m h2;exact⟨m,h1,List.mem_filter.mpr ⟨h2,List.any_eq_true.mpr ⟨m',h3,List.contains_iff_mem.mpr h4⟩⟩⟩
 rintro σ H6 ⟨v8,ls,lf,rfl,s6,hlf,hll,hsub,hcy,hfx⟩;have U6:=U.same s6;show u6 _ _ _;refine Zz e6 ?_;refine⟨(by show 2<=sizeLine;decide),fun l9 hl9=>?_⟩;have s9:Zk H6 (upd H6 l9 (.lst [.str "book",.str "ring"])):=Zk.new hl9;have e9':upd H6 l9 (.lst [.str "book",.str "ring"]) l9=some (.lst [.str "book",.str "ring"]):=Zb;generalize upd H6 l9 (.lst [.str "book",.str "ring"])=H9 at s9 e9' ⊢;have hcyc:ls ≠ []->Cyc (usB bk) (bk.map (·.1)):=fun hne=>by
  refine⟨ls,hne,hsub,?_⟩;rcases hfx with hfx|hfx
  ·refine absurd (List.eq_nil_of_length_eq_zero ?_) hne;rw[Int.toNat_natCast,List.length_map] at hfx;lia
  ·exact hfx
 have hncy:ls=[] -> ¬ Cyc (usB bk) (bk.map (·.1)):=by
  rintro rfl ⟨S,h1,h2,h3⟩;cases S with
  | nil=>exact h1 rfl
  | cons a r=>exact nomatch hcy (a::r) h2 h3 a (List.mem_cons_self ..)
 cases hc:ls with
 | nil =>
  rw[hc] at hlf;exact⟨_,rfl,lf,_,rfl,.inl (SqL.of (s9 _ _ hlf)),_,_,rfl,rfl,_,rfl,l9,_,_,_,rfl,rfl,SqL.of e9',rfl,_,rfl,(by show 2<=sizeLine;decide),fun tp htp=>q tp _ _ _ (((s04.trans s6).trans s9).trans (Zk.new htp)) Zb (.inr (.inr ⟨ht,hlk,.inr ⟨hncy hc,rfl⟩,pd,rfl,(U6.same s9).same (Zk.new htp)⟩))⟩
 | cons a r =>
  rw[hc] at hlf;have hgt:decide ((((a::r).map V.str).length:Int) > 0)=true:=decide_eq_true (by rw[List.length_map,List.length_cons];lia);refine⟨_,rfl,lf,_,rfl,.inl (SqL.of (s9 _ _ hlf)),_,_,rfl,rfl,true,congrArg (fun z=>[V.bl z]) hgt,l9,_,_,_,rfl,rfl,SqL.of e9',rfl,_,rfl,(by show 2<=sizeLine;decide),fun tp htp=>q tp _ _ _ (((s04.trans s6).trans s9).trans (Zk.new htp)) Zb (.inr (.inr ⟨ht,hlk,.inl ⟨hcyc (by rw[hc];exact fun z=>nomatch z),rfl⟩,pd,rfl,(U6.same s9).same (Zk.new htp)⟩))⟩
theorem ZbO:bootBuiltins "ValueError" = some (.type "ValueError"):=by decide +kernel
def Kp(H H':Hp):Prop := ∀b o,H b=some o->(∀x,o ≠ .ext x)->H' b=some o
theorem Kp.same{H H':Hp}(s:Zk H H'):Kp H H':=fun b o h _=>s b o h
theorem Kp.trans{H H1 H2:Hp}(a:Kp H H1)(b:Kp H1 H2):Kp H H2:=fun c o h n=>b c o (a c o h n) n
theorem Kp.ext{H H1:Hp}{e:Addr}{x:Heap->Prop}{o:HO}(a:Kp H H1)(h:H1 e=some (.ext x)):Kp H (upd H1 e o):=fun b u q n=>by
 have q1:=a b u q n;have:b≠e:=fun z=>by
  rw[z,h] at q1;exact n x (Option.some.inj q1).symm
 rw[Zi this];exact q1
theorem Kp.lst{H H':Hp}(k:Kp H H'){b:Addr}{xs:List V}(h:H b=some (.lst xs)):H' b=some (.lst xs):=k _ _ h fun _ z=>nomatch z
theorem Kp.tk{H H':Hp}(k:Kp H H'):TK H H':=fun b xs e=>k b _ e fun _ z=>nomatch z
def Ans(K:PySem.W.Frag)(H:Hp)(bk:List (Str×Ex))(w:Str)(v:V):Prop :=
 (∃n,twI [] (bk.map (·.1))=some n/\w= "twice" /\ v=.str n) \/
 (twI [] (bk.map (·.1))=none/\∃n,lkN (bk.map (·.1)) (ZdU bk)=some n/\w= "lacks" /\ v=.str n) \/
 (twI [] (bk.map (·.1))=none/\lkN (bk.map (·.1)) (ZdU bk)=none/\Cyc (usB bk) (bk.map (·.1))/\w= "ring" /\ ∃l rg,v=.ref l/\H l=some (.lst (rg.map V.str))/\Zkd (usB bk) (bk.map (·.1)) rg) \/
 (twI [] (bk.map (·.1))=none/\lkN (bk.map (·.1)) (ZdU bk)=none /\ ¬ Cyc (usB bk) (bk.map (·.1))/\w= "book" /\ ∃l ws,v=.ref l/\SqT K H l ws/\BkR K H ws bk)
theorem Ans.same{K:PySem.W.Frag}{H H':Hp}(s:Zk H H'){bk:List (Str×Ex)}{w:Str}{v:V}(h:Ans K H bk w v):Ans K H' bk w v:=by
 rcases h with h|h|⟨h1,h2,h3,h4,l,rg,h5,h6,h7⟩|⟨h1,h2,h3,h4,l,ws,h5,h6,h7⟩
 ·exact .inl h
 ·exact .inr (.inl h)
 ·exact .inr (.inr (.inl ⟨h1,h2,h3,h4,l,rg,h5,s _ _ h6,h7⟩))
 ·exact .inr (.inr (.inr ⟨h1,h2,h3,h4,l,ws,h5,TF.same s _ _ h6,h7.same s⟩))
def ZfO(K:PySem.W.Frag):Sp:=fun vs H Q _=>∃T bk,vs=[.str T]/\T=bkT bk/\T.length<=400/\1<=bk.length/\bk.length<=8/\(∀x∈bk,Bk1 x/\Bk2 x)/\∀tp w v H',Kp H H'->H' tp=some (.tup [.str w,v])->Ans K H' bk w v->Q (.ref tp) H'
set_option maxHeartbeats 4000000 in
theorem Zg7(B:∀x∈Zbv,mg x=none)(xc:XC K mg X_GroveError X_NoBook X_TwiceNamed X_NoName X_Ring)(g_read:HasX P w K mg base "read" ["text"] 67 (Zgc K X_TwiceNamed X_NoName X_Ring)) (F:Fun K "_law_asked" "_law_asked" ZaT f fd):FnOk P w K mg base CX0 68 f fd ["_law_text"] (ZfO K):=by
  refine F.ok Zai (fun vs H Q E h=>?_) (fun cdv A outer s H vs Q E hr h=>?_)
  · obtain⟨T,bk,rfl,_⟩:=h;rfl
  obtain⟨T,bk,rfl,eT,hT,hl1,hl,hk,q⟩:=h;refine ZF ((Ze ZaT).drop 3) (Zf (Zr (ZP Z6 (ZaA (Za (ZM (Za Zj (Za Zj0 Zd))) (Za (pv 1) Zd))) (Zam ZcY rfl (B "int" (by decide)) Zgu (Za (pv 2) Zd)) (fun _ _=>rfl)))) (fun u3 h3 e3=>?_);refine ZF ((Ze ZaT).drop 2) (Zc (Zk7 rfl rfl (fun E pins E₁ hT hp=>(Zf (Zt (i:=1) Zai.nd rfl (Or.inl rfl) (ZM (Za Zj (Za (ZeR g_read hT hr rfl (Za (pv 0) Zd)) Zd))))))
      (Zk2 (Zh9 (i:=3) (fun e=>(Z9 (v:=.ref X_TwiceNamed) rfl xc.n_TwiceNamed rfl)) Zai.nd rfl rfl (fun e=>(Zc (Zt (i:=1) Zai.nd rfl (Or.inl rfl) (ZM (Za Zj (Za (ZeI (K:=K) rfl (pv 3) rfl) Zd))))
        (Zf (Zt (i:=2) Zai.nd rfl (Or.inl rfl) (ZcM (Zu (Zch (K:=K) rfl) rfl (B "isinstance" (by decide)) ZJ (Za (pv 3) (Za (Z9 (v:=.ref X_GroveError) rfl xc.n_GroveError rfl) Zd))) (ZcM (Zu (Zc8 (K:=K) rfl) rfl (B "isinstance" (by decide)) ZJ (Za (pv 3) (Za (ZeS rfl (B "ValueError" (by decide)) ZbO) Zd))) (Zer (ZgU (Zu (Zep (K:=K) rfl) rfl (B "isinstance" (by decide)) ZJ (Za (pv 3) (Za (ZM (Za (Z9 (v:=.ref X_NoBook) rfl xc.n_NoBook rfl) (Za (Z9 (v:=.ref X_NoName) rfl xc.n_NoName rfl) (Za (Z9 (v:=.ref X_Ring) rfl xc.n_Ring rfl) Zd)))) Zd))))))))))))
      (Zim (fun e=>(Z9 (v:=.ref X_TwiceNamed) rfl xc.n_TwiceNamed rfl))
      (Zk2 (Zh9 (i:=3) (fun e=>(Z9 (v:=.ref X_NoName) rfl xc.n_NoName rfl)) Zai.nd rfl rfl (fun e=>(Zc (Zt (i:=1) Zai.nd rfl (Or.inl rfl) (ZM (Za Zj (Za (ZeI (K:=K) rfl (pv 3) rfl) Zd))))
        (Zf (Zt (i:=2) Zai.nd rfl (Or.inl rfl) (ZcM (Zu (Zch (K:=K) rfl) rfl (B "isinstance" (by decide)) ZJ (Za (pv 3) (Za (Z9 (v:=.ref X_GroveError) rfl xc.n_GroveError rfl) Zd))) (ZcM (Zu (Zc8 (K:=K) rfl) rfl (B "isinstance" (by decide)) ZJ (Za (pv 3) (Za (ZeS rfl (B "ValueError" (by decide)) ZbO) Zd))) (Zer (ZgU (Zu (Zep (K:=K) rfl) rfl (B "isinstance" (by decide)) ZJ (Za (pv 3) (Za (ZM (Za (Z9 (v:=.ref X_NoBook) rfl xc.n_NoBook rfl) (Za (Z9 (v:=.ref X_Ring) rfl xc.n_Ring rfl) Zd))) Zd))))))))))))
      (Zim (fun e=>(Z9 (v:=.ref X_NoName) rfl xc.n_NoName rfl))
      (Zh9 (i:=3) (fun e=>(Z9 (v:=.ref X_Ring) rfl xc.n_Ring rfl)) Zai.nd rfl rfl (fun e=>(Zc (Zt (i:=1) Zai.nd rfl (Or.inl rfl) (ZM (Za Zj (Za (ZeI (K:=K) rfl (pv 3) rfl) Zd))))
        (Zf (Zt (i:=2) Zai.nd rfl (Or.inl rfl) (ZcM (Zu (Zch (K:=K) rfl) rfl (B "isinstance" (by decide)) ZJ (Za (pv 3) (Za (Z9 (v:=.ref X_GroveError) rfl xc.n_GroveError rfl) Zd))) (ZcM (Zu (Zc8 (K:=K) rfl) rfl (B "isinstance" (by decide)) ZJ (Za (pv 3) (Za (ZeS rfl (B "ValueError" (by decide)) ZbO) Zd))) (Zer (ZgU (Zu (Zch (K:=K) rfl) rfl (B "isinstance" (by decide)) ZJ (Za (pv 3) (Za (Z9 (v:=.ref X_NoBook) rfl xc.n_NoBook rfl) Zd))))))))))))))))) h3) (fun u2 h2 e2=>?_)
  refine ZF ((Ze ZaT).drop 1) (Zc (Zt (i:=2) Zai.nd rfl (Or.inl rfl) Zcr) h2) (fun u1 h1 e1=>?_);refine ZF ((Ze ZaT).drop 0) (Zc (Zt (i:=1) Zai.nd rfl (Or.inl rfl) (ZM (Za Zj (Za Zj0 Zd)))) h1) (fun u0 h0 e0=>?_);refine⟨u0,h0,?_⟩;have rest:∀(tp:Addr)(w:Str)(v:V)(H1:Hp),Kp H H1->H1 tp=some (.tup [.str w,v])->Ans K H1 bk w v->u3 { nx:=fun _ H'=>Q .non H',rt:=Q } [some (.str T),some (.ref tp),some (.bl true),none] H1:=by
    intro tp w v H1 k1 e1' a1;refine Zz e3 ?_;refine⟨(by show 2<=sizeLine;decide),fun t9 ht9=>⟨_,rfl,(by show 2<=sizeLine;decide),fun l9 hl9=>?_⟩⟩;have s9:Zk H1 (upd (upd H1 t9 (.tup [.str "other",.non])) l9 (.lst [.ref t9,.ref tp])):=(Zk.new ht9).upd_new (Za4 hl9).2;exact⟨_,rfl,true,rfl,l9,_,_,_,rfl,rfl,SqL.of Zb,rfl,q tp w v _ (k1.trans (Kp.same s9)) (s9 _ _ e1') (a1.same s9)⟩
  refine Zz e0 ?_;refine⟨(by show 2<=sizeLine;decide),fun t0 ht0=>?_⟩;have s0:Zk H (upd H t0 (.tup [.str "none",.non])):=Zk.new ht0;generalize upd H t0 (.tup [.str "none",.non])=H0 at s0 ⊢;show u1 _ _ _;refine Zz e1 ?_;show u2 _ _ _;refine Zz e2 ?_;refine⟨fun σ' C d H'=>σ'=[some (.str T),some (.ref t0),some (.bl true),none]/\Zk H0 H'/\∃dx,d=some dx /\
    ((C=.ref X_TwiceNamed/\∃n,twI [] (bk.map (·.1))=some n/\H' dx=some (.xd [("name",.str n)])) \/
     (C=.ref X_NoName/\twI [] (bk.map (·.1))=none/\∃n,lkN (bk.map (·.1)) (ZdU bk)=some n/\H' dx=some (.xd [("name",.str n)])) \/
     (C=.ref X_Ring/\twI [] (bk.map (·.1))=none/\lkN (bk.map (·.1)) (ZdU bk)=none/\Cyc (usB bk) (bk.map (·.1))/\∃rg l2,H' dx=some (.xd [("names",.ref l2)])/\H' l2=some (.lst (rg.map V.str))/\Zkd (usB bk) (bk.map (·.1)) rg)),?_,?_⟩
  · refine⟨_,rfl,T,bk,rfl,eT,hT,hl1,hl,hk,fun n hn dx H' k1 k2 k3=>⟨rfl,k1,dx,rfl,.inl ⟨rfl,n,hn,k3⟩⟩,fun h1 n hn dx H' k1 k2 k3=>⟨rfl,k1,dx,rfl,.inr (.inl ⟨rfl,h1,n,hn,k3⟩)⟩,fun h1 h2 h3 rg dx l2 H' k1 _ _ k4 k5 k6=>⟨rfl,k1,dx,rfl,.inr (.inr ⟨rfl,h1,h2,h3,rg,l2,k4,k5,k6⟩)⟩,fun h1 h2 h3 l ws H' k1 k2 k3=>?_⟩;refine⟨(by show 2<=sizeLine;decide),fun tp htp=>?_⟩;have s2:Zk H' (upd H' tp (.tup [.str "book",.ref l])):=Zk.new htp;exact rest tp "book" (.ref l) _ (Kp.same ((s0.trans k1).trans s2)) Zb (.inr (.inr (.inr ⟨h1,h2,h3,rfl,l,ws,rfl,TF.same s2 _ _ k2,k3.same s2⟩)))
  rintro σ' C d H' e oe ⟨rfl,sm,dx,rfl,hcase⟩ he hc hd hf;have k0:Kp H (upd H' e (Known e oe)):=(Kp.same (s0.trans sm)).ext he;have e3':(upd H' e (Known e oe)) e=some (Known e oe):=Zb;have kp:∀b o,H' b=some o->(∀x,o ≠ .ext x)->(upd H' e (Known e oe)) b=some o:=fun b o hb ho=>by
    have:b≠e:=fun z=>by
      rw[z,he] at hb;exact ho _ (Option.some.inj hb).symm
    rw[Zi this];exact hb
  generalize upd H' e (Known e oe)=H1 at k0 e3' kp ⊢;have mem1:∀{C D:Addr}{b:Bool},PySem.W.mroIn K C (.ref D)=some b->∀E ∈ [D],PySem.W.mroIn K C (.ref E)=some b:=fun h E hE=>by
    rw[List.mem_singleton.mp hE];exact h
  rcases hcase with⟨rfl,n,hn,e1'⟩|⟨rfl,h1,n,hn,e1'⟩|⟨rfl,h1,h2,h3,rg,l2,e1',e2',hrg⟩
  · have e1':=kp _ _ e1' fun _ z=>nomatch z
    refine .inl ⟨[X_TwiceNamed],X_TwiceNamed,fun _=>true,.one xc.c_TwiceNamed,hc,mem1 xc.m_TwiceNamed_TwiceNamed,rfl,e3',?_⟩;refine⟨_,rfl,e,oe,X_TwiceNamed,dx,_,_,rfl,e3',hc,hd,hf,e1',xc.f_TwiceNamed_name,rfl,(by show 2<=sizeLine;decide),fun tp htp=>?_⟩;have s2:Zk H1 (upd H1 tp (.tup [.str "twice",.str n])):=Zk.new htp;have e4':upd H1 tp (.tup [.str "twice",.str n]) tp=some (.tup [.str "twice",.str n]):=Zb;generalize upd H1 tp (.tup [.str "twice",.str n])=H2 at s2 e4' ⊢;refine⟨_,rfl,e,oe,X_TwiceNamed,X_GroveError,true,rfl,s2 _ _ e3',hc,.inr (.inl ⟨xc.ne_TwiceNamed,xc.isG,xc.tyG,xc.m_TwiceNamed_GroveError,rfl⟩),true,rfl,Zcz ?_⟩;refine⟨_,rfl,e,oe,X_TwiceNamed,"ValueError",rfl,s2 _ _ e3',hc,rfl,xc.mV_TwiceNamed,true,rfl,Zcz ?_⟩;refine⟨_,rfl,(by show 3<=sizeLine;decide),fun tc htc=>?_⟩;have s3:Zk H2 (upd H2 tc (.tup [.ref X_NoBook,.ref X_NoName,.ref X_Ring])):=Zk.new htc;refine⟨e,oe,X_TwiceNamed,[X_NoBook,X_NoName,X_Ring],tc,dx,_,"name",rfl,s3 _ _ (s2 _ _ e3'),hc,hd,hf,s3 _ _ (s2 _ _ e1'),Zb,xc.f_TwiceNamed_name,?_,false,rfl,?_⟩
    · intro D hD;rcases List.mem_cons.mp hD with rfl|hD
      · exact⟨xc.nn_TwiceNamed_NoBook,xc.c_NoBook.cl,xc.m_TwiceNamed_NoBook,xc.not_TwiceNamed_NoBook⟩
      rcases List.mem_cons.mp hD with rfl|hD
      · exact⟨xc.nn_TwiceNamed_NoName,xc.c_NoName.cl,xc.m_TwiceNamed_NoName,xc.not_TwiceNamed_NoName⟩
      rw[List.mem_singleton.mp hD];exact⟨xc.nn_TwiceNamed_Ring,xc.c_Ring.cl,xc.m_TwiceNamed_Ring,xc.not_TwiceNamed_Ring⟩
    · exact rest tp "twice" (.str n) _ (k0.trans (Kp.same (s2.trans s3))) (s3 _ _ e4') (.inl ⟨n,hn,rfl,rfl⟩)
  · have e1':=kp _ _ e1' fun _ z=>nomatch z
    refine .inr ⟨[X_TwiceNamed],X_NoName,.one xc.c_TwiceNamed,hc,mem1 xc.m_NoName_TwiceNamed,e3',.inl ?_⟩;refine⟨[X_NoName],X_NoName,fun _=>true,.one xc.c_NoName,hc,mem1 xc.m_NoName_NoName,rfl,e3',?_⟩;refine⟨_,rfl,e,oe,X_NoName,dx,_,_,rfl,e3',hc,hd,hf,e1',xc.f_NoName_name,rfl,(by show 2<=sizeLine;decide),fun tp htp=>?_⟩;have s2:Zk H1 (upd H1 tp (.tup [.str "lacks",.str n])):=Zk.new htp;have e4':upd H1 tp (.tup [.str "lacks",.str n]) tp=some (.tup [.str "lacks",.str n]):=Zb;generalize upd H1 tp (.tup [.str "lacks",.str n])=H2 at s2 e4' ⊢;refine⟨_,rfl,e,oe,X_NoName,X_GroveError,true,rfl,s2 _ _ e3',hc,.inr (.inl ⟨xc.ne_NoName,xc.isG,xc.tyG,xc.m_NoName_GroveError,rfl⟩),true,rfl,Zcz ?_⟩;refine⟨_,rfl,e,oe,X_NoName,"ValueError",rfl,s2 _ _ e3',hc,rfl,xc.mV_NoName,true,rfl,Zcz ?_⟩;refine⟨_,rfl,(by show 2<=sizeLine;decide),fun tc htc=>?_⟩;have s3:Zk H2 (upd H2 tc (.tup [.ref X_NoBook,.ref X_Ring])):=Zk.new htc;refine⟨e,oe,X_NoName,[X_NoBook,X_Ring],tc,dx,_,"name",rfl,s3 _ _ (s2 _ _ e3'),hc,hd,hf,s3 _ _ (s2 _ _ e1'),Zb,xc.f_NoName_name,?_,false,rfl,?_⟩
    · intro D hD;rcases List.mem_cons.mp hD with rfl|hD
      · exact⟨xc.nn_NoName_NoBook,xc.c_NoBook.cl,xc.m_NoName_NoBook,xc.not_NoName_NoBook⟩
      rw[List.mem_singleton.mp hD];exact⟨xc.nn_NoName_Ring,xc.c_Ring.cl,xc.m_NoName_Ring,xc.not_NoName_Ring⟩
    · exact rest tp "lacks" (.str n) _ (k0.trans (Kp.same (s2.trans s3))) (s3 _ _ e4') (.inr (.inl ⟨h1,n,hn,rfl,rfl⟩))
  · have e1':=kp _ _ e1' fun _ z=>nomatch z
    have e2':=kp _ _ e2' fun _ z=>nomatch z
    refine .inr ⟨[X_TwiceNamed],X_Ring,.one xc.c_TwiceNamed,hc,mem1 xc.m_Ring_TwiceNamed,e3',.inr ?_⟩;refine⟨[X_NoName],X_Ring,.one xc.c_NoName,hc,mem1 xc.m_Ring_NoName,e3',?_⟩;refine⟨[X_Ring],X_Ring,fun _=>true,.one xc.c_Ring,hc,mem1 xc.m_Ring_Ring,rfl,e3',?_⟩;refine⟨_,rfl,e,oe,X_Ring,dx,_,_,rfl,e3',hc,hd,hf,e1',xc.f_Ring_names,rfl,(by show 2<=sizeLine;decide),fun tp htp=>?_⟩;have s2:Zk H1 (upd H1 tp (.tup [.str "ring",.ref l2])):=Zk.new htp;have e4':upd H1 tp (.tup [.str "ring",.ref l2]) tp=some (.tup [.str "ring",.ref l2]):=Zb;generalize upd H1 tp (.tup [.str "ring",.ref l2])=H2 at s2 e4' ⊢;refine⟨_,rfl,e,oe,X_Ring,X_GroveError,true,rfl,s2 _ _ e3',hc,.inr (.inl ⟨xc.ne_Ring,xc.isG,xc.tyG,xc.m_Ring_GroveError,rfl⟩),true,rfl,Zcz ?_⟩;refine⟨_,rfl,e,oe,X_Ring,"ValueError",rfl,s2 _ _ e3',hc,rfl,xc.mV_Ring,true,rfl,Zcz ?_⟩;refine⟨_,rfl,e,oe,X_Ring,X_NoBook,false,rfl,s2 _ _ e3',hc,.inr (.inr ⟨xc.nn_Ring_NoBook,xc.c_NoBook.cl,xc.m_Ring_NoBook,rfl,dx,_,"names",hd,hf,s2 _ _ e1',xc.f_Ring_names,xc.not_Ring_NoBook⟩),false,rfl,?_⟩;exact rest tp "ring" (.ref l2) _ (k0.trans (Kp.same s2)) e4' (.inr (.inr (.inl ⟨h1,h2,h3,rfl,l2,rg,rfl,s2 _ _ e2',hrg⟩)))
def ZfS(K:PySem.W.Frag):Sp:=fun vs H Q _=>∃(a:Addr)(ns:List Int)(st:Addr)(i lf:Int),vs=[.ref a,.ref st]/\St20 K H a ns st i lf /\
 ∀(pl:Addr)(bk:List (Str×Ex))(vs':List V)(H':Hp),H' pl=some (.lst vs')->TrL H' vs' bk->1<=bk.length->bk.length<=7->(∀x∈bk,Bk1 x/\Bk2 x)->bxS bk<=186->Q (.ref pl) H'
def NmL(H:Hp)(l:Addr)(ns:List Str):Prop:=H l=some (.lst (ns.map V.str))/\ns.length<=7/\∀n∈ns,Upr n/\n.length<=8
def PrI(K:PySem.W.Frag)(H4:Hp)(a:Addr)(ns:List Int)(st pl:Addr)(k:Nat)(H5:Hp):Prop := ∃(bk:List (Str×Ex))(vs:List V)(i5 lf5:Int),ZmR st pl pl H4 H5/\St20 K H5 a ns st i5 lf5/\lf5<=13/\H5 pl=some (.lst vs)/\TrL H5 vs bk/\bk.length=k/\(bxS bk:Int)+10*lf5<=8*k+130/\∀x∈bk,Bk1 x/\Bk2 x
theorem Zik{ns:List Str}{k:Int}{n:Nat}(e:ns.length=n)(h0:0<=k)(h1:k<(n:Int)):∃x,atI (ns.map V.str) k=some (.str x)/\x∈ns:=Zh8 h0 (by lia)
theorem cut_str(ts:List Str)(lo hi:Option Int):∃us:List Str,ZiA (ts.map V.str) lo hi=us.map V.str/\(∀u∈us,u∈ts)/\us.length<=ts.length:=by
 refine⟨(ts.drop (HT.sIx (ts.map V.str).length 0 lo)).take (HT.sIx (ts.map V.str).length (ts.map V.str).length hi-HT.sIx (ts.map V.str).length 0 lo),?_,fun u hu=>List.mem_of_mem_drop (List.mem_of_mem_take hu),?_⟩
 ·unfold ZiA;rw[List.map_take,List.map_drop]
 ·rw[List.length_take,List.length_drop];lia
set_option maxHeartbeats 4000000 in
theorem Zht(B:∀x∈Zbv,mg x=none)(g_l_next:Has P w K mg base "_law_next" ["_law_script","_law_state"] 1 (ZgY K)) (g_l_word:Has P w K mg base "_law_word" ["_law_cell","_law_letters"] 1 Zlz) (g_l_made:Has P w K mg base "_law_made" ["_law_script","_law_state","_law_room","_law_names"] 12 (Zgq K 9)) (F:Fun K "_law_pairs" "_law_pairs" ZS f fd):FnOk P w K mg base CX0 13 f fd ["_law_script","_law_state"] (ZfS K):=by
 refine F.ok Z3 (fun vs H Q E h=>?_) (fun cdv A outer s H vs Q E hr h=>?_)
 ·obtain⟨a,ns,st,i,lf,rfl,_⟩:=h;rfl
 obtain⟨a,ns,st,i,lf,rfl,hS,q⟩:=h;refine ZF ((Ze ZS).drop 11) (Zf (Zr (pv 9))) (fun u11 h11 e11=>?_);refine ZF ((ZaK ((Ze ZS).getD 10 (.Pass ⟨0,0,0,0⟩))).drop 4) (Zf (ZaH (Zb0 PySem.F.plainAttrs_list PySem.F.slot_list_append PySem.F.type_list_append Za3 (pv 9) (Za (ZM (Za (ZP Z6 (pv 8) (pv 10) (fun _ _=>rfl)) (Za (pv 12) (Za (pv 13) Zd)))) Zd)))) (fun u10_4 h10_4 e10_4=>?_);refine ZF ((ZaK ((Ze ZS).getD 10 (.Pass ⟨0,0,0,0⟩))).drop 3) (Zc (ZbY (ZQ g_l_made hr rfl (Za (pv 0) (Za (pv 1) (Za Zh (Za (pv 11) Zd))))) (ZbH rfl (Zv (Zn (i:=12) Z3.nd rfl (Or.inl rfl)) (Zv (Zn (i:=13) Z3.nd rfl (Or.inl rfl)) ZaG)))) h10_4) (fun u10_3 h10_3 e10_3=>?_);refine ZF ((ZaK ((Ze ZS).getD 10 (.Pass ⟨0,0,0,0⟩))).drop 2) (Zc (Z2 (Zo ZaM (ZK Za9 (pv 3) Zh) Zh (ZG _))
   (Zf (Zt (i:=11) Z3.nd rfl (Or.inl rfl) (ZM (Za (ZbL ZeW (pv 8) (Zcc (ZK Zca (pv 10) Zh)) Zdc) (Za (pv 8) Zd)))))
   Zq) h10_3) (fun u10_2 h10_2 e10_2=>?_)
 refine ZF ((ZaK ((Ze ZS).getD 10 (.Pass ⟨0,0,0,0⟩))).drop 1) (Zc (Z2 (Zo ZaM (ZK Za9 (pv 3) Zh) Zh (ZG _))
   (Zf (Zt (i:=11) Z3.nd rfl (Or.inl rfl) (ZM (Za (pv 8) (Za (pv 8) Zd)))))
   Zq) h10_2) (fun u10_1 h10_1 e10_1=>?_)
 refine ZF ((ZaK ((Ze ZS).getD 10 (.Pass ⟨0,0,0,0⟩))).drop 0) (Zc (Zt (i:=11) Z3.nd rfl (Or.inl rfl) (ZM (Za (pv 6) (Za (pv 6) Zd)))) h10_1) (fun u10_0 h10_0 e10_0=>?_);refine ZF ((Ze ZS).drop 10) (Zc (Za7 PassesOwn.never rfl (ZaU rfl (B "range" (by decide)) (Za (pv 7) Zd)) (Zn (i:=10) Z3.nd rfl (Or.inl rfl))
   h10_0) h11) (fun u10 h10 e10=>?_)
 refine ZF ((Ze ZS).drop 9) (Zc (Zt (i:=9) Z3.nd rfl (Or.inl rfl) (ZaA Zd)) h10) (fun u9 h9 e9=>?_);refine ZF ((Ze ZS).drop 8) (Zc (ZbY Zh (Zeb (pv 1) Zh set_list)) h9) (fun u8 h8 e8=>?_);refine ZF ((Ze ZS).drop 7) (Zc (Z2 (Zo ZaM (ZK Za9 (pv 3) Zh) Zh (ZG _))
   (Zf (ZbR (cl:=_) (n0:=8) Z3.nd rfl (Or.inl rfl) ["_law_k"] [("_law_script",0),("_law_state",1),("_law_pool",6)] (ZaU rfl (B "range" (by decide)) (Za (pv 7) Zd)) (fun _ _ _ _=>(Zn (i:=0) (show List.Nodup (["_law_k","_law_script","_law_state","_law_pool"]:List Str) by decide) rfl (Or.inl rfl))) (fun _ _ _ _=>(ZP (Zgz (K:=K) rfl) (pv 3) (ZK Za9 (ZQ g_l_next hr rfl (Za (pv 1) (Za (pv 2) Zd))) Zh) (fun _ _=>rfl))) rfl rfl (by decide) rfl (by decide) (Zcv (by(repeat' first|exact List.forall_mem_nil _|refine List.forall_mem_cons.mpr ⟨?_,?_⟩) <;> rfl)) (Zbz (by(repeat' first|exact List.forall_mem_nil _|refine List.forall_mem_cons.mpr ⟨?_,?_⟩) <;> first|(intro h;exact⟨_,rfl⟩)|(intro h;exact absurd h (by decide)))) (fun _=>by(repeat' first|exact List.forall_mem_nil _|refine List.forall_mem_cons.mpr ⟨?_,?_⟩) <;> exact⟨rfl,rfl,Or.inl rfl⟩) (fun _=>rfl) rfl))
   Zq) h8) (fun u7 h7 e7=>?_)
 refine ZF ((Ze ZS).drop 6) (Zc (ZbR (cl:=_) (n0:=8) Z3.nd rfl (Or.inl rfl) ["_law_k"] [("_law_cell",3),("_law_pool",6)] (ZaU rfl (B "range" (by decide)) (Za (pv 7) Zd)) (fun _ _ _ _=>(Zn (i:=0) (show List.Nodup (["_law_k","_law_cell","_law_pool"]:List Str) by decide) rfl (Or.inl rfl))) (fun _ _ _ _=>(ZP (Zgz (K:=K) rfl) (pv 2) (ZK Za9 (ZK Zca (pv 0) (ZK Zbk (pv 1) Zh)) Zh) (fun _ _=>rfl))) rfl rfl (by decide) rfl (by decide) (Zcv (by(repeat' first|exact List.forall_mem_nil _|refine List.forall_mem_cons.mpr ⟨?_,?_⟩) <;> rfl)) (Zbz (by(repeat' first|exact List.forall_mem_nil _|refine List.forall_mem_cons.mpr ⟨?_,?_⟩) <;> first|(intro h;exact⟨_,rfl⟩)|(intro h;exact absurd h (by decide)))) (fun _=>by(repeat' first|exact List.forall_mem_nil _|refine List.forall_mem_cons.mpr ⟨?_,?_⟩) <;> exact⟨rfl,rfl,Or.inl rfl⟩) (fun _=>rfl) rfl) h7) (fun u6 h6 e6=>?_)
 refine ZF ((Ze ZS).drop 5) (Zc (Zt (i:=7) Z3.nd rfl (Or.inl rfl) (ZK Zca Zh (ZK Za9 (ZK Zbk (pv 3) Zh) Zh))) h6) (fun u5 h5 e5=>?_);refine ZF ((Ze ZS).drop 4) (Zc (Zt (i:=6) Z3.nd rfl (Or.inr rfl) (ZbS (cl:=_) ["_law_k"] [("_law_great",2),("_law_cell",3),("_law_base",4),("_law_at",5)] (ZaU rfl (B "range" (by decide)) (Za Zh Zd)) (fun _ _ _ _=>(Zn (i:=0) (show List.Nodup (["_law_k","_law_great","_law_cell","_law_base","_law_at"]:List Str) by decide) rfl (Or.inl rfl))) (fun _ _ _ _=>(ZK ZL (ZK ZL (ZbL Zia (pv 3) Zdc (Zcc (pv 4))) (ZP ZgN (pv 1) (ZK Za9 (ZK Zca (ZK ZhF Zh (pv 0)) (ZK Zbk (pv 2) Zh)) Zh) (fun _ _=>rfl))) (ZbL Zia (pv 3) (Zcc (ZK Zca (pv 4) Zh)) Zdc))) rfl rfl (by decide) rfl (by decide) (Zcv (by(repeat' first|exact List.forall_mem_nil _|refine List.forall_mem_cons.mpr ⟨?_,?_⟩) <;> rfl)) (Zbz (by(repeat' first|exact List.forall_mem_nil _|refine List.forall_mem_cons.mpr ⟨?_,?_⟩) <;> first|(intro h;exact⟨_,rfl⟩)|(intro h;exact absurd h (by decide)))) (fun _=>by(repeat' first|exact List.forall_mem_nil _|refine List.forall_mem_cons.mpr ⟨?_,?_⟩) <;> exact⟨rfl,rfl,Or.inl rfl⟩) (fun _=>rfl))) h5) (fun u4 h4 e4=>?_)
 refine ZF ((Ze ZS).drop 3) (Zc (Zt (i:=5) Z3.nd rfl (Or.inr rfl) (ZK Za9 (ZQ g_l_next hr rfl (Za (pv 0) (Za (pv 1) Zd))) (Zu Za0 rfl (B "len" (by decide)) PySem.boot_len (Za (pv 4) Zd)))) h4) (fun u3 h3 e3=>?_);refine ZF ((Ze ZS).drop 2) (Zc (Zt (i:=4) Z3.nd rfl (Or.inr rfl) (ZQ g_l_word hr rfl (Za (ZQ g_l_next hr rfl (Za (pv 0) (Za (pv 1) Zd))) (Za (pv 2) Zd)))) h3) (fun u2 h2 e2=>?_);refine ZF ((Ze ZS).drop 1) (Zc (Zt (i:=3) Z3.nd rfl (Or.inr rfl) (ZQ g_l_next hr rfl (Za (pv 0) (Za (pv 1) Zd)))) h2) (fun u1 h1 e1=>?_);refine ZF ((Ze ZS).drop 0) (Zc (Zt (i:=2) Z3.nd rfl (Or.inr rfl) Zj) h1) (fun u0 h0 e0=>?_);refine⟨u0,h0,?_⟩;have loop:∀(t:Str)(at' cell:Int)(m:Nat)(po sd:Addr)(pool stand:List Str)(H1:Hp)(i1 lf1:Int),1<=m->m<=7->St20 K H1 a ns st i1 lf1->NmL H1 po pool->NmL H1 sd stand->stand.length=m->po≠st->sd≠st->(∀n∈stand,n∈pool) ->
   u8 { nx:=fun _ H'=>Q .non H',rt:=Q } [some (.ref a),some (.ref st),some (.str "ABCDEFGHIJKLMNOPQRSTUVWXYZ"),some (.int cell),some (.str t),some (.int at'),some (.ref po),some (.int (m:Int)),some (.ref sd),none,none,none,none,none] H1:=by
  intro t at' cell m po sd pool stand H1 i1 lf1 m1 m7 hS1 hpo hsd hsl npo nsd hsub;refine Zz e8 ?_;refine⟨_,rfl,st,_,1,1,rfl,rfl,hS1.at_,rfl,?_⟩;have b2:But st H1 (upd H1 st (.lst ([V.int i1,.int lf1].set 1 (.int 13)))):=But.up;have hS2:St20 K (upd H1 st (.lst ([V.int i1,.int lf1].set 1 (.int 13)))) a ns st i1 13:=hS1.to b2 Zb hS1.i0 (by decide);have hpo2:=b2 _ _ npo hpo.1;have hsd2:=b2 _ _ nsd hsd.1;generalize upd H1 st (.lst ([V.int i1,.int lf1].set 1 (.int 13)))=H2 at b2 hS2 hpo2 hsd2 ⊢;show u9 _ _ _;refine Zz e9 ?_;refine⟨(by show 0<=sizeLine;decide),fun pl hpl=>?_⟩;have s3:Zk H2 (upd H2 pl (.lst [])):=Zk.new hpl;have e3':upd H2 pl (.lst []) pl=some (.lst []):=Zb;have npl:pl≠st:=(Zm hS2.at_ hpl).symm;have npp:po≠pl:=Zm hpo2 hpl;have nsp:sd≠pl:=Zm hsd2 hpl;have apl:=SqL.apart hS2.scr hpl;generalize upd H2 pl (.lst [])=H3 at s3 e3' ⊢;have hS3:St20 K H3 a ns st i1 13:=hS2.to (But.same s3) (s3 _ _ hS2.at_) hS2.i0 (by decide);have hpo3:=s3 _ _ hpo2;have hsd3:=s3 _ _ hsd2;show u10 _ _ _;refine Zz e10 ?_;refine⟨_,rfl,(m:Int),rfl,by lia,by lia,ZbE (lo:=0) (n:=(m:Int).toNat) (fun k σ H5=>∃v10 v11 v12 v13:Option V,σ =[some (.ref a),some (.ref st),some (.str "ABCDEFGHIJKLMNOPQRSTUVWXYZ"),some (.int cell),some (.str t),some (.int at'),some (.ref po),some (.int (m:Int)),some (.ref sd),some (.ref pl),v10,v11,v12,v13]/\PrI K H3 a ns st pl k H5)
   ⟨none,none,none,none,rfl,[],[],i1,13,(fun _ _ _ _ _ h=>h),hS3,(by decide),e3',.nil,rfl,(by show(0:Int)+10*13<=8*((0:Nat):Int)+130;decide),(fun _ h=>nomatch h)⟩ ?_ ?_⟩
  ·rintro k σ H5 hk ⟨v10,v11,v12,v13,rfl,bk,vs,i5,lf5,b5,hS5,hlf5,hpl5,hE5,hbl,hbx5,hk1⟩;rw[Int.toNat_natCast] at hk;have hpo5:=b5 _ _ npo npp npp hpo3;have hsd5:=b5 _ _ nsd nsp nsp hsd3;have hkn:stand[k]?= some stand[k]:=List.getElem?_eq_getElem (by lia);obtain⟨hnk1,hnk2⟩:=hsd.2.2 stand[k] (List.getElem_mem (by lia));have hvl:vs.length=k:=by rw[<- hbl];exact Paired.length hE5
   have l4:stand.length<=8:=by have:=hsd.2.1;lia
   have l5:pool.length<=8:=by have:=hpo.2.1;lia
   have made:∀(nh:Addr)(ot al:List Str)(H7:Hp)(v12 v13:Option V)(D:Ends),Zk H5 H7->NmR H7 nh ot al->(∀ σ H6,(∃v10 v11 v12 v13:Option V,σ =[some (.ref a),some (.ref st),some (.str "ABCDEFGHIJKLMNOPQRSTUVWXYZ"),some (.int cell),some (.str t),some (.int at'),some (.ref po),some (.int (m:Int)),some (.ref sd),some (.ref pl),v10,v11,v12,v13]/\PrI K H3 a ns st pl (k+1) H6)->D.nx σ H6) ->
     u10_3 D [some (.ref a),some (.ref st),some (.str "ABCDEFGHIJKLMNOPQRSTUVWXYZ"),some (.int cell),some (.str t),some (.int at'),some (.ref po),some (.int (m:Int)),some (.ref sd),some (.ref pl),some (.int (0+(k:Int))),some (.ref nh),v12,v13] H7:=by
    intro nh ot al H7 v12 v13 D s57 hN7 hD;have hS7:St20 K H7 a ns st i5 lf5:=hS5.to (But.same s57) (s57 _ _ hS5.at_) hS5.i0 hS5.l0;refine Zz e10_3 ?_;refine⟨_,rfl,_,rfl,_,rfl,a,ns,st,i5,lf5,8,nh,ot,al,rfl,hS7,by lia,by decide,by decide,hN7,fun r p e i8 lf8 H8 b8 h8 k1 k2 hp hsz hdp hwl hbx=>?_⟩;have hS8:St20 K H8 a ns st i8 lf8:=hS7.to b8 h8 k1 k2;have hpl8:=b8 _ _ npl (s57 _ _ hpl5);have hsd8:=b8 _ _ nsd (s57 _ _ hsd5);have tk58:TK H5 H8:=s57.tk.trans (b8.tk hS7.at_);refine⟨r,_,rfl,SqT.of hp.1,rfl,_,_,rfl,_,_,rfl,rfl,?_⟩;show u10_4 _ _ _;refine Zz e10_4 ?_;refine⟨_,rfl,.inl ⟨rfl,_,SqL.of hpl8⟩,_,rfl,_,rfl,sd,_,_,_,rfl,rfl,SqL.of hsd8,ZlG hkn,_,rfl,_,rfl,(by show 3<=sizeLine;decide),fun pt hpt=>?_⟩;have s9:Zk H8 (upd H8 pt (.tup [.str stand[k],.ref p,.str (tx e)])):=Zk.new hpt;have e9':upd H8 pt (.tup [.str stand[k],.ref p,.str (tx e)]) pt=some (.tup [.str stand[k],.ref p,.str (tx e)]):=Zb;generalize upd H8 pt (.tup [.str stand[k],.ref p,.str (tx e)])=H9 at s9 e9' ⊢;have hpl9:=s9 _ _ hpl8;refine⟨pl,vs,_,rfl,rfl,hpl9,ZR (by lia),hD _ _ ⟨_,_,_,_,rfl,bk ++ [(stand[k],e)],vs ++ [.ref pt],i8,lf8,?_,?_,by lia,Zb,?_,by simp[hbl],?_,fun x hx=>?_⟩⟩
    ·intro b o n1 n2 n3 hb;rw[Zi n2];exact s9 _ _ (b8 _ _ n1 (s57 _ _ (b5 _ _ n1 n2 n3 hb)))
    ·exact(hS8.to (But.same s9) (s9 _ _ hS8.at_) hS8.i0 hS8.l0).upd apl npl
    ·have tk10:TK H9 (upd H9 pl (.lst (vs ++ [.ref pt]))):=TK.lst hpl9;exact Paired.app (hE5.tk ((tk58.trans s9.tk).trans tk10)) (.cons ⟨pt,p,rfl,tk10 _ _ e9',hp.2.1.mono (s9.tk.trans tk10)⟩ .nil)
    ·unfold bxS at hbx5 ⊢;rw[List.map_append,List.sum_append];simp only[List.map_cons,List.map_nil,List.sum_cons,List.sum_nil];lia
    ·rcases List.mem_append.mp hx with hx|hx
     ·exact hk1 x hx
     ·rw[List.mem_singleton.mp hx];exact⟨⟨hnk2,by show dp e<13;lia,by show sz e<=200;lia,hp.2.2⟩,hnk1,hwl.1,by show dp e<12;lia⟩
   have step2:∀(nh:Addr)(ot al:List Str)(H7:Hp)(D:Ends),Zk H5 H7->NmR H7 nh ot al->(∀ σ H6,(∃v10 v11 v12 v13:Option V,σ =[some (.ref a),some (.ref st),some (.str "ABCDEFGHIJKLMNOPQRSTUVWXYZ"),some (.int cell),some (.str t),some (.int at'),some (.ref po),some (.int (m:Int)),some (.ref sd),some (.ref pl),v10,v11,v12,v13]/\PrI K H3 a ns st pl (k+1) H6)->D.nx σ H6) ->
     u10_2 D [some (.ref a),some (.ref st),some (.str "ABCDEFGHIJKLMNOPQRSTUVWXYZ"),some (.int cell),some (.str t),some (.int at'),some (.ref po),some (.int (m:Int)),some (.ref sd),some (.ref pl),some (.int (0+(k:Int))),some (.ref nh),v12,v13] H7:=by
    intro nh ot al H7 D s57 hN7 hD;refine Zz e10_2 ?_;refine⟨_,rfl,_,_,rfl,rfl,(by show(0:Int)<4;decide),rfl,_,rfl,Zaz (fun _=>?_) (fun _=>made nh ot al H7 _ _ D s57 hN7 hD)⟩;refine⟨_,rfl,_,rfl,_,_,rfl,rfl,_,rfl,sd,_,rfl,SqL.of (s57 _ _ hsd5),fun p9 hp9=>?_⟩;obtain⟨us,hus,hsu,hul⟩:=cut_str stand (some (0+(k:Int)+1)) none;rw[hus];have s8:Zk H7 (upd H7 p9 (.lst (us.map V.str))):=Zk.new hp9;have e8':upd H7 p9 (.lst (us.map V.str)) p9=some (.lst (us.map V.str)):=Zb;generalize upd H7 p9 (.lst (us.map V.str))=H8 at s8 e8' ⊢;refine⟨_,rfl,(by show 2<=sizeLine;decide),fun n2 hn2=>?_⟩;have s9:Zk H8 (upd H8 n2 (.tup [.ref p9,.ref sd])):=Zk.new hn2;exact made n2 us stand _ _ _ D ((s57.trans s8).trans s9) ⟨⟨p9,sd,Zb,s9 _ _ e8',s9 _ _ (s8 _ _ (s57 _ _ hsd5))⟩,hsu,hsd.2.2,l4,by lia⟩ hD
   show u10_0 _ _ _;refine Zz e10_0 ?_;refine⟨_,rfl,_,rfl,(by show 2<=sizeLine;decide),fun nt hnt=>?_⟩;have s6:Zk H5 (upd H5 nt (.tup [.ref po,.ref po])):=Zk.new hnt;have e6':upd H5 nt (.tup [.ref po,.ref po]) nt=some (.tup [.ref po,.ref po]):=Zb;generalize upd H5 nt (.tup [.ref po,.ref po])=H6 at s6 e6' ⊢;have hN6:NmR H6 nt pool pool:=⟨⟨po,po,e6',s6 _ _ hpo5,s6 _ _ hpo5⟩,fun _ h=>h,hpo.2.2,l5,l5⟩;show u10_1 _ _ _;refine Zz e10_1 ?_;refine⟨_,rfl,_,_,rfl,rfl,(by show(0:Int)<4;decide),rfl,_,rfl,Zaz (fun _=>?_) (fun _=>step2 nt pool pool H6 _ s6 hN6 (fun _ _ h=>h))⟩;refine⟨_,rfl,_,rfl,(by show 2<=sizeLine;decide),fun n2 hn2=>?_⟩;have s7:Zk H6 (upd H6 n2 (.tup [.ref sd,.ref sd])):=Zk.new hn2;exact step2 n2 stand stand _ _ (s6.trans s7) ⟨⟨sd,sd,Zb,s7 _ _ (s6 _ _ hsd5),s7 _ _ (s6 _ _ hsd5)⟩,fun _ h=>h,hsd.2.2,l4,l4⟩ (fun _ _ h=>h)
  ·rintro σ H5 ⟨v10,v11,v12,v13,rfl,bk,vs,i5,lf5,b5,hS5,hlf5,hpl5,hE5,hbl,hbx5,hk1⟩;rw[Int.toNat_natCast] at hbl hbx5;show u11 _ _ _;refine Zz e11 ?_;have:=hS5.l0;exact⟨_,rfl,q pl bk vs H5 hpl5 hE5 (by lia) (by lia) hk1 (by lia)⟩
 refine Zz e0 ?_;show u1 _ _ _;refine Zz e1 ?_;refine⟨_,rfl,_,rfl,a,ns,st,i,lf,rfl,hS,fun cell=>?_⟩;have hS1:St20 K (upd H st (.lst [.int (i+1),.int lf])) a ns st (i+1) lf:=hS.to But.up Zb (by have:=hS.i0;lia) hS.l0;generalize upd H st (.lst [.int (i+1),.int lf])=H1 at hS1 ⊢;show u2 _ _ _;refine Zz e2 ?_;refine⟨_,rfl,_,rfl,a,ns,st,i+1,lf,rfl,hS1,fun c2=>?_⟩;have hS2:St20 K (upd H1 st (.lst [.int (i+1+1),.int lf])) a ns st (i+1+1) lf:=hS1.to But.up Zb (by have:=hS.i0;lia) hS.l0;generalize upd H1 st (.lst [.int (i+1+1),.int lf])=H2 at hS2 ⊢;refine⟨_,rfl,c2,_,rfl,ZkR,fun t t1 t8 hx=>?_⟩;have hup:∀x∈cs t,65<=x/\x<=90:=fun x h=>Zjz x (hx x h);have hct:=csl t;show u3 _ _ _;refine Zz e3 ?_;refine⟨_,rfl,_,rfl,a,ns,st,i+1+1,lf,rfl,hS2,fun c3=>?_⟩;have hS3:St20 K (upd H2 st (.lst [.int (i+1+1+1),.int lf])) a ns st (i+1+1+1) lf:=hS2.to But.up Zb (by have:=hS.i0;lia) hS.l0;generalize upd H2 st (.lst [.int (i+1+1+1),.int lf])=H3 at hS3 ⊢;have tp:(0:Int)<(t.length:Int):=by lia
 refine⟨_,rfl,t,rfl,Zx (by lia),_,_,rfl,rfl,tp,?_⟩;have a0:=Int.emod_nonneg c3 (Int.ne_of_gt tp);have a1:=Int.emod_lt_of_pos c3 tp;have e1':cs (PySem.StrLaws.sliceText t none (some (c3 % (t.length:Int))))=(cs t).take (c3 % (t.length:Int)).toNat:=ZlY a0 (by lia);have e2':cs (PySem.StrLaws.sliceText t (some (c3 % (t.length:Int)+1)) none)=(cs t).drop (c3 % (t.length:Int)+1).toNat:=ZkD (by lia) (by lia);have l1:=congrArg List.length e1';have l2:=congrArg List.length e2';rw[csl,List.length_take,csl] at l1;rw[csl,List.length_drop,csl] at l2;show u4 _ _ _;refine Zz e4 ?_;refine⟨7,rfl,by decide,by decide,fun po hpo=>Zck (lo:=0) (n:=(7:Int).toNat) (p:=po) (fun k ys σ H4=>∃(v0:Option V)(ps:List Str),σ =[v0,some (.str "ABCDEFGHIJKLMNOPQRSTUVWXYZ"),some (.int cell),some (.str t),some (.int (c3 % (t.length:Int)))]/\Zk H3 H4/\H4 po=some (.lst ys)/\ys=ps.map V.str/\ps.length=k/\∀n∈ps,Upr n/\n.length<=8)
  ⟨none,[],rfl,Zk.new hpo,Zb,rfl,rfl,fun _ h=>nomatch h⟩ ?_ ?_ ?_⟩
 ·rintro k ys σ H4 _ ⟨v0,ps,_,_,h2,_⟩;exact h2
 ·rintro k ys σ H4 hk ⟨v0,ps,rfl,sm,hp2,rfl,hpl,hps⟩;have hk:k<7:=hk;have g0:=Int.emod_nonneg (3*(0+(k:Int))+cell / 28) (by decide:(26:Int)≠0);have g1:=Int.emod_lt_of_pos (3*(0+(k:Int))+cell / 28) (by decide:(0:Int)<26);obtain⟨j,hj⟩:∃j:Nat,(3*(0+(k:Int))+cell / 28) % 26=(j:Int):=⟨_,(Int.toNat_of_nonneg g0).symm⟩;have hch:atI (Str.ofString "ABCDEFGHIJKLMNOPQRSTUVWXYZ").cps.toList ((3*(0+(k:Int))+cell / 28) % 26)=some (65+j):=by
   rw[hj];exact Zjy j (by lia)
  refine⟨_,rfl,_,rfl,_,rfl,_,rfl,Zx (by lia),?_⟩;refine⟨_,rfl,_,rfl,_,_,rfl,rfl,.inl ⟨by decide,by decide⟩,_,rfl,_,_,rfl,rfl,⟨by decide,by decide⟩,_,_,rfl,rfl,_,_,rfl,rfl,(by show(0:Int)<26;decide),_,_,_,rfl,rfl,Zx (by decide),hch,_,_,rfl,rfl,?_,?_⟩
  ·rw[l1];show _+1<=sizeLine;exact Zx (by lia)
  refine⟨_,rfl,_,rfl,_,_,rfl,rfl,_,rfl,_,rfl,Zx (by lia),_,_,rfl,rfl,?_,hp2,ZR (by rw[List.length_map];lia),CW.next hk ⟨_,ps ++ [PySem.StrLaws.sliceText t none (some (c3 % (t.length:Int)))++⟨#[65+j]⟩++PySem.StrLaws.sliceText t (some (c3 % (t.length:Int)+1)) none],rfl,sm.upd_new hpo,Zb,by simp,by simp[hpl],fun n hn=>?_⟩⟩
  ·rw[Zy,l1,l2];show _+1+_<=sizeLine;exact Zx (by lia)
  rcases List.mem_append.mp hn with hn|hn
  ·exact hps n hn
  ·rw[List.mem_singleton.mp hn];refine⟨Zln ?_ fun x hx=>?_,?_⟩
   ·rw[Zy,Zy];show 1<=_+1+_;lia
   ·rw[ZaI,ZaI,e1',e2'] at hx;rcases List.mem_append.mp hx with hx|hx
    ·rcases List.mem_append.mp hx with hx|hx
     ·exact hup x (List.mem_of_mem_take hx)
     ·have:x=65+j:=List.mem_singleton.mp hx;lia
    ·exact hup x (List.mem_of_mem_drop hx)
   ·rw[Zy,Zy,l1,l2];show _+1+_<=8;lia
 rintro ys σ H4 ⟨v0,pool,_,sm4,hpo4,rfl,hpl,hps⟩;have hpl:pool.length=7:=hpl;have npo:po≠st:=fun z=>by rw[z,hS3.at_] at hpo;cases hpo
 have hS4:St20 K H4 a ns st (i+1+1+1) lf:=hS3.to (But.same sm4) (sm4 _ _ hS3.at_) hS3.i0 hS3.l0;have q0:=Int.emod_nonneg (cell / 4) (by decide:(7:Int)≠0);have q1:=Int.emod_lt_of_pos (cell / 4) (by decide:(0:Int)<7);obtain⟨m,hm⟩:∃m:Nat,1+cell / 4 % 7=(m:Int):=⟨(1+cell / 4 % 7).toNat,by lia⟩;show u5 _ _ _;refine Zz e5 ?_;refine⟨_,rfl,_,_,rfl,rfl,⟨by decide,by decide⟩,_,_,rfl,rfl,(by show(0:Int)<7;decide),_,_,rfl,rfl,?_⟩;show u6 _ [some (.ref a),some (.ref st),some (.str "ABCDEFGHIJKLMNOPQRSTUVWXYZ"),some (.int cell),some (.str t),some (.int (c3 % (t.length:Int))),some (.ref po),some (.int (1+cell / 4 % 7)),none,none,none,none,none,none] H4;rw[hm];refine Zz e6 ?_;refine⟨_,rfl,(m:Int),rfl,by lia,by lia,fun sd hsd=>Zck (lo:=0) (n:=(m:Int).toNat) (p:=sd) (fun k ys σ H5=>∃(v0:Option V)(ps:List Str),σ =[v0,some (.int cell),some (.ref po)]/\Zk H4 H5/\H5 sd=some (.lst ys)/\ys=ps.map V.str/\ps.length=k/\∀n∈ps,n∈pool)
  ⟨none,[],rfl,Zk.new hsd,Zb,rfl,rfl,fun _ h=>nomatch h⟩ ?_ ?_ ?_⟩
 ·rintro k ys σ H5 _ ⟨v0,ps,_,_,h2,_⟩;exact h2
 ·rintro k ys σ H5 hk ⟨v0,ps,rfl,sm,hp2,rfl,hpl',hps'⟩;have hk':k<m:=by rw[Int.toNat_natCast] at hk;exact hk
  obtain⟨x,hat,hxp⟩:=Zik hpl (k:=(0+(k:Int)+cell / 28) % 7) (Int.emod_nonneg _ (by decide)) (Int.emod_lt_of_pos _ (by decide));refine⟨_,rfl,_,rfl,_,rfl,_,_,rfl,rfl,⟨by decide,by decide⟩,_,_,rfl,rfl,_,_,rfl,rfl,(by show(0:Int)<7;decide),po,_,_,_,rfl,rfl,SqL.of (sm _ _ hpo4),hat,hp2,ZR (by rw[List.length_map];lia),CW.next hk ⟨_,ps ++ [x],rfl,sm.upd_new hsd,Zb,by simp,by simp[hpl'],fun n hn=>?_⟩⟩
  rcases List.mem_append.mp hn with hn|hn
  ·exact hps' n hn
  ·rw[List.mem_singleton.mp hn];exact hxp
 rintro ys σ H5 ⟨v0,stand,_,sm5,hsd5,rfl,hsl,hss⟩;rw[Int.toNat_natCast] at hsl;have nsd:sd≠st:=fun z=>by rw[z,hS4.at_] at hsd;cases hsd
 have hS5:St20 K H5 a ns st (i+1+1+1) lf:=hS4.to (But.same sm5) (sm5 _ _ hS4.at_) hS4.i0 hS4.l0;have hpo5:=sm5 _ _ hpo4;show u7 _ _ _;refine Zz e7 ?_;refine⟨_,rfl,_,_,rfl,rfl,(by show(0:Int)<4;decide),rfl,_,rfl,Zaz (fun _=>?_) (fun _=>?_)⟩
 ·refine⟨_,rfl,(m:Int),rfl,by lia,by lia,fun s2 hs2=>Zck (lo:=0) (n:=(m:Int).toNat) (p:=s2) (fun k ys σ H6=>∃(v0:Option V)(ps:List Str)(i6:Int),σ =[v0,some (.ref a),some (.ref st),some (.ref po)]/\But st H5 H6/\H6 st=some (.lst [.int i6,.int lf]) /\ -1<=i6/\H6 s2=some (.lst ys)/\ys=ps.map V.str/\ps.length=k/\∀n∈ps,n∈pool)
   ⟨none,[],i+1+1+1,rfl,But.same (Zk.new hs2),by rw[Zi (Zm hS5.at_ hs2)];exact hS5.at_,hS5.i0,Zb,rfl,rfl,fun _ h=>nomatch h⟩ ?_ ?_ ?_⟩
  ·rintro k ys σ H6 _ ⟨v0,ps,i6,_,_,_,_,h2,_⟩;exact h2
  ·rintro k ys σ H6 hk ⟨v0,ps,i6,rfl,bt,hst6,h06,hp2,rfl,hpl',hps'⟩;have hk':k<m:=by rw[Int.toNat_natCast] at hk;exact hk
   have ns2:s2≠st:=(Zm hS5.at_ hs2).symm;have hS6:St20 K H6 a ns st i6 lf:=hS5.to bt hst6 h06 hS5.l0;refine⟨_,rfl,_,rfl,_,rfl,a,ns,st,i6,lf,rfl,hS6,fun c=>?_⟩;obtain⟨x,hat,hxp⟩:=Zik hpl (k:=c % 7) (Int.emod_nonneg _ (by decide)) (Int.emod_lt_of_pos _ (by decide));have b6:But st H6 (upd H6 st (.lst [.int (i6+1),.int lf])):=But.up;refine⟨_,_,rfl,rfl,(by show(0:Int)<7;decide),po,_,_,_,rfl,rfl,SqL.of (b6 _ _ npo (bt _ _ npo hpo5)),hat,b6 _ _ ns2 hp2,ZR (by rw[List.length_map];lia),CW.next hk ⟨_,ps ++ [x],i6+1,rfl,?_,by rw[Zi ns2.symm];exact Zb,by lia,Zb,by simp,by simp[hpl'],fun n hn=>?_⟩⟩
   ·intro b o nb hb;rw[Zi (Zm hb hs2)];exact b6 _ _ nb (bt _ _ nb hb)
   ·rcases List.mem_append.mp hn with hn|hn
    ·exact hps' n hn
    ·rw[List.mem_singleton.mp hn];exact hxp
  ·rintro ys σ H6 ⟨v0,st2,i6,_,bt,hst6,h06,hs26,rfl,hsl2,hss2⟩;rw[Int.toNat_natCast] at hsl2;exact loop t _ cell m po s2 pool st2 H6 i6 lf (by lia) (by lia) (hS5.to bt hst6 h06 hS5.l0) ⟨bt _ _ npo hpo5,by lia,hps⟩ ⟨hs26,by lia,fun n hn=>hps n (hss2 n hn)⟩ hsl2 npo (Zm hS5.at_ hs2).symm hss2
 ·exact loop t _ cell m po sd pool stand H5 _ lf (by lia) (by lia) hS5 ⟨hpo5,by lia,hps⟩ ⟨hsd5,by lia,fun n hn=>hps n (hss n hn)⟩ hsl npo nsd hss
structure BkQ(bk:List (Str×Ex)):Prop where
 l1:1<=bk.length
 l8:bk.length<=8
 ok:∀x∈bk,Bk1 x/\Bk2 x
 t400:(bkT bk).length<=400
theorem ZkF{K:PySem.W.Frag}{H H':Hp}{bk:List (Str×Ex)}{w w':Str}{v v':V}(h:Ans K H bk w v)(k:Zmv H' bk w' v') :
  (∃n,w=w'/\(w= "twice" \/ w= "lacks")/\v=.str n/\v'=.str n) \/
  (w= "ring" /\ w'= "ring" /\ ∃l rg d,v=.ref l/\H l=some (.lst (rg.map V.str))/\Zkd (usB bk) (bk.map (·.1)) rg/\v'=.ref d/\UsR H' d (bk.map (·.1)) (usB bk)) \/
  (w= "book" /\ w'= "book" /\ ∃l ws,v=.ref l/\SqT K H l ws/\BkR K H ws bk):=by
 rcases h with⟨n,h1,rfl,rfl⟩|⟨h1,n,h2,rfl,rfl⟩|⟨h1,h2,h3,rfl,l,rg,rfl,h6,h7⟩|⟨h1,h2,h3,rfl,l,ws,rfl,h6,h7⟩
 ·rcases k with⟨m,k1,rfl,rfl⟩|⟨k1,_⟩|⟨k1,_⟩
  ·rw[h1] at k1;cases k1;exact .inl ⟨n,rfl,.inl rfl,rfl,rfl⟩
  ·rw[h1] at k1;cases k1
  ·rw[h1] at k1;cases k1
 ·rcases k with⟨m,k1,rfl,rfl⟩|⟨_,m,k2,rfl,rfl⟩|⟨_,k2,_⟩
  ·rw[h1] at k1;cases k1
  ·rw[h2] at k2;cases k2;exact .inl ⟨n,rfl,.inr rfl,rfl,rfl⟩
  ·rw[h2] at k2;cases k2
 ·rcases k with⟨m,k1,rfl,rfl⟩|⟨_,m,k2,rfl,rfl⟩|⟨_,_,k3,d,rfl,k4⟩
  ·rw[h1] at k1;cases k1
  ·rw[h2] at k2;cases k2
  ·rcases k3 with⟨_,rfl⟩|⟨k3,_⟩
   ·exact .inr (.inl ⟨rfl,rfl,l,rg,d,rfl,h6,h7,rfl,k4⟩)
   ·exact absurd h3 k3
 ·rcases k with⟨m,k1,rfl,rfl⟩|⟨_,m,k2,rfl,rfl⟩|⟨_,_,k3,d,rfl,k4⟩
  ·rw[h1] at k1;cases k1
  ·rw[h2] at k2;cases k2
  ·rcases k3 with⟨k3,_⟩|⟨_,rfl⟩
   ·exact absurd k3 h3
   ·exact .inr (.inr ⟨rfl,rfl,l,ws,rfl,h6,h7⟩)
def ZfP(K:PySem.W.Frag):Sp:=fun vs H Q _=>∃p vs' bk,vs=[.ref p]/\H p=some (.lst vs')/\TrL H vs' bk/\BkQ bk/\∀H',Kp H H'->Q (.bl true) H'
set_option maxHeartbeats 4000000 in
theorem Zhi(B:∀x∈Zbv,mg x=none)(g_l_asked:Has P w K mg base "_law_asked" ["_law_text"] 68 (ZfO K)) (g_l_due:Has P w K mg base "_law_due" ["_law_pairs_here"] 15 (Zjb K)) (g_l_is_ring:Has P w K mg base "_law_is_ring" ["_law_told","_law_after"] 1 (ZeO K)) (g_l_alike:Has P w K mg base "_law_alike" ["_law_told","_law_due_here"] 28 (Ze1 K 28)) (F:Fun K "_law_holds" "_law_holds" ZaD f fd):FnOk P w K mg base CX0 69 f fd ["_law_pairs_here"] (ZfP K):=by
 refine F.ok ZbG (fun vs H Q E h=>?_) (fun cdv A outer s H vs Q E hr h=>?_)
 ·obtain⟨p,vs',bk,rfl,_⟩:=h;rfl
 obtain⟨p,vs',bk,rfl,hp,hT,hk,q⟩:=h;have hlen:vs'.length=bk.length:=Paired.length hT;have h8:=hk.l8;refine ZF ((Ze ZaD).drop 5) (Zf (Zr (ZcM (Zu ZcI rfl (B "isinstance" (by decide)) ZJ (Za (pv 2) (Za (ZeS rfl (B "str" (by decide)) ZgG) Zd))) (Zer (Zcx ZaM (pv 2) (pv 4) (ZG _)))))) (fun u5 h5 e5=>?_);refine ZF ((Ze ZaD).drop 4) (Zc (Z2 (Zo ZaM (pv 1) Zj (ZG _))
   (Zf (Zr (ZQ g_l_alike hr rfl (Za (pv 2) (Za (Zam ZbW rfl (B "tuple" (by decide)) ZcX (Za (ZbS (cl:=[]) ["_law_name","_law_expr","_law_text"] [] (ZaS (pv 0)) (fun _ _ _ _=>(Zdj (K:=K) (n:=3) rfl rfl (Zv (Zn (i:=0) (show List.Nodup (["_law_name","_law_expr","_law_text"]:List Str) by decide) rfl (Or.inl rfl)) (Zv (Zn (i:=1) (show List.Nodup (["_law_name","_law_expr","_law_text"]:List Str) by decide) rfl (Or.inl rfl)) (Zv (Zn (i:=2) (show List.Nodup (["_law_name","_law_expr","_law_text"]:List Str) by decide) rfl (Or.inl rfl)) ZaG))))) (fun _ _ _ _=>(ZM (Za (pv 0) (Za (pv 1) Zd)))) rfl rfl (by decide) rfl (by decide) (fun _ _ h=>nomatch h) (Zc1 (by decide)) (fun _ _ h=>nomatch h) (fun _=>rfl)) Zd)) Zd)))))
   Zq) h5) (fun u4 h4 e4=>?_)
 refine ZF ((Ze ZaD).drop 3) (Zc (Z2 (Zo ZaM (pv 1) Zj (ZG _))
   (Zf (Zr (ZQ g_l_is_ring hr rfl (Za (pv 2) (Za (pv 4) Zd)))))
   Zq) h4) (fun u3 h3 e3=>?_)
 refine ZF ((Ze ZaD).drop 2) (Zc (Z2 (Zo Zi9 (pv 1) (pv 3) (ZG _))
   (Zf (Zr Zcr))
   Zq) h3) (fun u2 h2 e2=>?_)
 refine ZF ((Ze ZaD).drop 1) (Zc (ZbY (ZQ g_l_due hr rfl (Za (pv 0) Zd)) (ZbH rfl (Zv (Zn (i:=3) ZbG.nd rfl (Or.inl rfl)) (Zv (Zn (i:=4) ZbG.nd rfl (Or.inl rfl)) ZaG)))) h2) (fun u1 h1 e1=>?_);refine ZF ((Ze ZaD).drop 0) (Zc (ZbY (ZQ g_l_asked hr rfl (Za (Zb0 PySem.F.plainAttrs_str PySem.F.slot_str_join PySem.F.type_str_join ZdA Zj (Za (ZbS (cl:=[]) ["_law_name","_law_expr","_law_text"] [] (ZaS (pv 0)) (fun _ _ _ _=>(Zdj (K:=K) (n:=3) rfl rfl (Zv (Zn (i:=0) (show List.Nodup (["_law_name","_law_expr","_law_text"]:List Str) by decide) rfl (Or.inl rfl)) (Zv (Zn (i:=1) (show List.Nodup (["_law_name","_law_expr","_law_text"]:List Str) by decide) rfl (Or.inl rfl)) (Zv (Zn (i:=2) (show List.Nodup (["_law_name","_law_expr","_law_text"]:List Str) by decide) rfl (Or.inl rfl)) ZaG))))) (fun _ _ _ _=>(ZK ZL (ZK ZL (pv 0) Zj) (pv 2))) rfl rfl (by decide) rfl (by decide) (fun _ _ h=>nomatch h) (Zc1 (by decide)) (fun _ _ h=>nomatch h) (fun _=>rfl)) Zd)) Zd)) (ZbH rfl (Zv (Zn (i:=1) ZbG.nd rfl (Or.inl rfl)) (Zv (Zn (i:=2) ZbG.nd rfl (Or.inl rfl)) ZaG)))) h1) (fun u0 h0 e0=>?_)
 refine⟨u0,h0,?_⟩;refine Zz e0 ?_;refine⟨rfl,_,rfl,p,rfl,⟨_,SqL.of hp⟩,fun p5 hp5=>ZbJ (K:=K) (a:=p) (p:=p5) (xs:=vs') (fun k ys σ H1=>∃v0 v1 v2:Option V,σ =[v0,v1,v2]/\Zk H H1/\H1 p5=some (.lst ys)/\ys=((bk.take k).map prT).map V.str)
  ⟨none,none,none,rfl,Zk.new hp5,Zb,rfl⟩ ?_ ?_ ?_⟩
 ·rintro k ys σ H1 _ ⟨v0,v1,v2,_,sm,h1,_⟩;exact⟨SqL.of (sm _ _ hp),h1⟩
 ·rintro k ys x σ H1 hi hx ⟨v0,v1,v2,rfl,sm,h1,rfl⟩;obtain⟨x,hx1,tt,qq,rfl,f1,f2⟩:=Z7 hT hx;obtain⟨hi1,hi2⟩:=List.getElem?_eq_some_iff.mp hx1;obtain⟨⟨b1,b2,b3,b4⟩,_⟩:=hk.ok x (List.mem_of_getElem? hx1);have hl:=Zbw x.2 b4;refine⟨tt,_,rfl,SqT.of (sm _ _ f1),rfl,_,_,rfl,_,_,rfl,_,_,rfl,rfl,?_⟩;refine⟨_,rfl,_,_,rfl,rfl,Zx (by show _+3<=_;lia),_,rfl,_,_,rfl,rfl,Zx (by rw[Zy];show _+3+_<=_;lia),h1,ZR (by rw[List.length_map,List.length_map,List.length_take];lia),CW.next hi ⟨_,_,_,rfl,sm.upd_new hp5,Zb,?_⟩⟩
  rw[List.take_succ_eq_append_getElem hi1,hi2,List.map_append,List.map_append];rfl
 rintro ys σ H1 ⟨v0,v1,v2,_,s1,h1,rfl⟩;rw[hlen,List.take_length] at h1;refine⟨"; ",p5,bk.map prT,rfl,rfl,SqL.of h1,?_,bkT bk,bk,rfl,rfl,hk.t400,hk.l1,hk.l8,hk.ok,fun tp w v H2 k2 e2' a2=>?_⟩
 ·have:=Zf8 (bk:=bk) fun x hx=>(hk.ok x hx).1;rw[List.length_map];show _+_*2<=_;lia
 refine⟨tp,_,rfl,SqT.of e2',rfl,_,_,rfl,_,_,rfl,rfl,?_⟩;have k02:Kp H H2:=(Kp.same s1).trans k2;show u1 _ _ _;refine Zz e1 ?_;refine⟨_,rfl,p,vs',bk,rfl,SqL.of (k02.lst hp),hT.tk k02.tk,h8,fun x hx=>(hk.ok x hx).1,fun tp2 w2 v2 H3 s3 e3' d3=>?_⟩;refine⟨tp2,_,rfl,SqT.of e3',rfl,_,_,rfl,_,_,rfl,rfl,?_⟩;have k03:Kp H H3:=k02.trans (Kp.same s3);have a3:=a2.same s3;show u2 _ _ _;refine Zz e2 ?_;rcases ZkF a3 d3 with⟨n,rfl,hw,rfl,rfl⟩|⟨rfl,rfl,l,rg,d,rfl,h6,h7,rfl,h9⟩|⟨rfl,rfl,l,ws,rfl,h6,h7⟩
 ·refine⟨_,rfl,_,rfl,rfl,_,rfl,Zaz (fun z=>absurd z (by simp)) (fun _=>?_)⟩;show u3 _ _ _;refine Zz e3 ?_;refine⟨_,rfl,rfl,_,rfl,Zaz (fun z=>?_) (fun _=>?_)⟩
  ·have z:V.str w=V.str "ring" := of_decide_eq_true z;injection z with z;rw[z] at hw;exact absurd hw (by decide)
  show u4 _ _ _;refine Zz e4 ?_;refine⟨_,rfl,rfl,_,rfl,Zaz (fun z=>?_) (fun _=>?_)⟩
  ·have z:V.str w=V.str "book" := of_decide_eq_true z;injection z with z;rw[z] at hw;exact absurd hw (by decide)
  show u5 _ _ _;refine Zz e5 ?_;refine⟨_,rfl,.str n,"str",.type "str",true,rfl,.str _,rfl,true,rfl,Zcz ⟨_,rfl,_,rfl,rfl,?_⟩⟩;rw[decide_eq_true rfl];exact q H3 k03
 ·refine⟨_,rfl,_,rfl,rfl,_,rfl,Zaz (fun z=>absurd z (by simp)) (fun _=>?_)⟩;show u3 _ _ _;refine Zz e3 ?_;refine⟨_,rfl,rfl,_,rfl,Zaz (fun _=>?_) (fun z=>absurd (decide_eq_true rfl) z)⟩;have hrl:=Zcg h7.2.1 h7.2.2.1;rw[List.length_map] at hrl;exact⟨_,rfl,_,rfl,l,d,rg,_,_,rfl,h6,h9,h7,by lia,q H3 k03⟩
 ·refine⟨_,rfl,_,rfl,rfl,_,rfl,Zaz (fun z=>absurd z (by simp)) (fun _=>?_)⟩;show u3 _ _ _;refine Zz e3 ?_;refine⟨_,rfl,rfl,_,rfl,Zaz (fun z=>absurd z (by decide)) (fun _=>?_)⟩;show u4 _ _ _;refine Zz e4 ?_;refine⟨_,rfl,rfl,_,rfl,Zaz (fun _=>?_) (fun z=>absurd (decide_eq_true rfl) z)⟩;have hp3:=k03.lst hp;have hT3:=hT.tk k03.tk;refine⟨_,rfl,_,rfl,p,rfl,⟨_,SqL.of hp3⟩,fun p6 hp6=>ZbJ (K:=K) (a:=p) (p:=p6) (xs:=vs') (fun k ys σ H4=>∃v0 v1 v2:Option V,σ =[v0,v1,v2]/\Zk H3 H4/\H4 p6=some (.lst ys)/\BkE H4 ys (bk.take k))
   ⟨none,none,none,rfl,Zk.new hp6,Zb,.nil⟩ ?_ ?_ ?_⟩
  ·rintro k ys σ H4 _ ⟨v0,v1,v2,_,sm,h1,_⟩;exact⟨SqL.of (sm _ _ hp3),h1⟩
  ·rintro k ys x σ H4 hi hx ⟨v0,v1,v2,rfl,sm,h4,hE⟩;obtain⟨x,hx1,tt,qq,rfl,f1,f2⟩:=Z7 hT3 hx;obtain⟨hi1,hi2⟩:=List.getElem?_eq_some_iff.mp hx1;have hyl:ys.length=k:=by
    rw[Paired.length hE,List.length_take];lia
   refine⟨tt,_,rfl,SqT.of (sm _ _ f1),rfl,_,_,rfl,_,_,rfl,_,_,rfl,rfl,?_⟩;refine⟨_,rfl,_,rfl,(by show 2<=sizeLine;decide),fun pt hpt=>?_⟩;have s5:Zk H4 (upd H4 pt (.tup [.str x.1,.ref qq])):=Zk.new hpt;have e5':upd H4 pt (.tup [.str x.1,.ref qq]) pt=some (.tup [.str x.1,.ref qq]):=Zb;generalize upd H4 pt (.tup [.str x.1,.ref qq])=H5 at s5 e5' ⊢;have tk6:TK H5 (upd H5 p6 (.lst (ys ++ [.ref pt]))):=TK.lst (s5 _ _ h4);refine⟨s5 _ _ h4,ZR (by lia),CW.next hi ⟨_,_,_,rfl,(sm.trans s5).upd_new hp6,Zb,?_⟩⟩
   rw[List.take_succ_eq_append_getElem hi1,hi2];exact Paired.app (hE.tk (s5.tk.trans tk6)) (.cons ⟨pt,qq,rfl,tk6 _ _ e5',f2.mono ((sm.trans s5).tk.trans tk6)⟩ .nil)
  rintro ys σ H4 ⟨v0,v1,v2,_,s4,h4,hE⟩;rw[hlen,List.take_length] at hE;refine⟨p6,_,rfl,.inl ⟨SqL.of h4,fun r3 hr3=>?_⟩⟩;have s5:Zk H4 (upd H4 r3 (.tup ys)):=Zk.new hr3;have s35:=s4.trans s5;exact⟨.ref l,.ref r3,rfl,Zle (TF.same s35 _ _ h6) (SqT.of Zb) (h7.same s35) ((hE.toK (K:=K)).same s5) h8 (fun x hx=>(hk.ok x hx).1),q _ (k03.trans (Kp.same s35))⟩
theorem Zlg{k p:Nat}(h:p<k):ixN k (p:Int)=some p:=by
 unfold ixN;rw[if_pos (by lia),if_pos (by lia),Int.toNat_natCast]
theorem Zdx{α β : Type}{F : α -> β -> Prop}:∀{l₁ : List α}{l₂ : List β}(n:Nat),Paired F l₁ l₂ -> Paired F (l₁.take n) (l₂.take n)
 | _,_,0,_=>.nil
 | _,_,n+1,.nil=>.nil
 | _,_,n+1,.cons h r=>.cons h (Zdx n r)
theorem ZdM{α β : Type}{F : α -> β -> Prop}:∀{l₁ : List α}{l₂ : List β}(n:Nat),Paired F l₁ l₂ -> Paired F (l₁.drop n) (l₂.drop n)
 | _,_,0,h=>h
 | _,_,n+1,.nil=>.nil
 | _,_,n+1,.cons h r=>ZdM n r
theorem Zes{α β : Type}{F : α -> β -> Prop}{a : α}{b : β}(k:F a b):∀{l₁ : List α}{l₂ : List β}(n:Nat),Paired F l₁ l₂ -> Paired F (l₁.set n a) (l₂.set n b)
 | _,_,_,.nil=>.nil
 | _,_,0,.cons _ r=>.cons k r
 | _,_,n+1,.cons h r=>.cons h (Zes k n r)
theorem Zj7:∀{l ns:List Str}{n:Str},twI ns l=some n->n∈l/\2<=ns.length+l.length
 | [],_,_,h=>nomatch h
 | a::l,ns,n,h=>by
  rw[twI] at h
  split at h
  ·cases h
   rename_i hi
   have:0<ns.length:=List.length_pos_of_mem hi;exact⟨List.mem_cons_self ..,by rw[List.length_cons];lia⟩
  ·have:=Zj7 h;rw[List.length_append] at this;have h2:([a]:List Str).length=1:=rfl;exact⟨List.mem_cons_of_mem _ this.1,by rw[List.length_cons];lia⟩
theorem ZkV{l:List Str}{n:Str}(h:twI [] l=some n):n∈l/\2<=l.length:=by
 have:=Zj7 h;have h2:([]:List Str).length=0:=rfl;exact⟨this.1,by lia⟩
mutual
theorem Zgw(b:Bool):∀{e:Ex}{n:Str},wfE e->n∈nm b e->Upr n/\n.length<=8
 | .nil,_,_,h=>nomatch h
 | .tag _ i,n,hw,h=>by
  rw[nm] at h
  split at h
  ·exact Zgw b (e:=i) hw.2 h
  ·exact nomatch h
 | .name m,n,hw,h=>by
  rw[List.mem_singleton.mp h];exact hw
 | .several _ ps,n,hw,h=>ZiO b (ps:=ps) hw.2 (by rw[nm] at h;exact h)
 | .rep _ p,n,hw,h=>Zgw b (e:=p) hw.2 (by rw[nm] at h;exact h)
theorem ZiO(b:Bool):∀{ps:Exs}{n:Str},ZlF ps->n∈nms b ps->Upr n/\n.length<=8
 | .nil,_,_,h=>nomatch h
 | .cons e r,n,hw,h=>by
  rw[nms] at h;rcases List.mem_append.mp h with h|h
  ·exact Zgw b (e:=e) hw.1 h
  ·exact ZiO b (ps:=r) hw.2 h
end
theorem Zgn(a b:List (Str×Ex)):bxS (a++b)=bxS a+bxS b:=by
 unfold bxS;rw[List.map_append,List.sum_append]
theorem Zlp(l:List (Str×Ex))(j:Nat):bxS (l.take j++l.drop (j+1))<=bxS l:=by
 have h1:=Zgn (l.take j) (l.drop j);rw[List.take_append_drop] at h1;rw[Zgn,h1];cases h:l.drop j with
 | nil =>
  have:l.drop (j+1)=[]:=by
   rw[List.drop_eq_nil_iff] at h ⊢;lia
  rw[this];exact Nat.le_refl _
 | cons a r =>
  have:l.drop (j+1)=r:=by
   have:=congrArg (List.drop 1) h;rw[List.drop_drop] at this;exact this
  rw[this];have:bxS (a::r)=bx a.2+bxS r:=by
   unfold bxS;rw[List.map_cons,List.sum_cons]
  lia
theorem Zh1(x:Str×Ex):∀(l:List (Str×Ex))(j:Nat),bxS (l.set j x)<=bxS l+bx x.2
 | [],_=>by show 0<=_;lia
 | a::r,0=>by
  show((x::r).map fun x=>bx x.2).sum<=((a::r).map fun x=>bx x.2).sum+_;simp only[List.map_cons,List.sum_cons];lia
 | a::r,j+1=>by
  have:=Zh1 x r j;unfold bxS at this ⊢;rw[List.set_cons_succ];simp only[List.map_cons,List.sum_cons];lia
theorem Zke:bx .nil=2:=by decide
theorem Zj8{n:Str}(h:Upr n/\n.length<=8):Bk1 (n,.nil)/\Bk2 (n,.nil):=⟨⟨h.2,by show dp .nil<13;decide,by show sz .nil<=200;decide,trivial⟩,h.1,trivial,by show dp .nil<12;decide⟩
theorem BkQ.of{bk:List (Str×Ex)}{k:Nat}(h1:1<=bk.length)(h8:bk.length<=8)(hk:∀x∈bk,Bk1 x/\Bk2 x)(hx:bxS bk<=186+2*k)(k9:k<=9):BkQ bk:=by
 refine⟨h1,h8,hk,?_⟩;have:=ZkU (bk:=bk) fun x hx=>(hk x hx).1.1;lia
def MnI(H1:Hp)(k:Nat)(ml:Addr)(H:Hp):Prop := ∃(bk:List (Str×Ex))(vs:List V),Kp H1 H/\(∀b o,H1 b=some o->(∀x,o ≠ .ext x)->b≠ml)/\H ml=some (.lst vs)/\TrL H vs bk/\1<=bk.length/\bk.length<=8/\(∀x∈bk,Bk1 x/\Bk2 x)/\bxS bk<=186+2*k
theorem fresh_ne{H1 H:Hp}(k:Kp H1 H){p:Addr}(h:H p=none):∀b o,H1 b=some o->(∀x,o ≠ .ext x)->b≠p:=fun b o hb ho z=>by
 have:=k b o hb ho;rw[z,h] at this;cases this
set_option maxHeartbeats 4000000 in
theorem Zlh(B:∀x∈Zbv,mg x=none)(g_l_pairs:Has P w K mg base "_law_pairs" ["_law_script","_law_state"] 13 (ZfS K)) (g_l_holds:Has P w K mg base "_law_holds" ["_law_pairs_here"] 69 (ZfP K)) (g_l_due:Has P w K mg base "_law_due" ["_law_pairs_here"] 15 (Zjb K)) (F:Fun K "law" "law" Zbp f fd):FnOk P w K mg base CX0 70 f fd ["_law_script"] (Zjl K):=by
 refine F.ok Zcu (fun vs H Q E h=>?_) (fun cdv A outer s H vs Q E hr h=>?_)
 ·obtain⟨a,ns,rfl,_⟩:=h;rfl
 obtain⟨a,ns,rfl,hS,h63,q⟩:=h;refine ZF ((Ze Zbp).drop 4) (Zf (Zr (ZQ g_l_holds hr rfl (Za (pv 1) Zd)))) (fun u4 h4 e4=>?_);refine ZF ((ZaK ((Ze Zbp).getD 3 (.Pass ⟨0,0,0,0⟩))).drop 2) (Zf (Z2 (Zbu (Z1 (ZQ g_l_holds hr rfl (Za (pv 2) Zd)) (fun _=>rfl)))
   (Zf (Zr Zcr))
   Zq)) (fun u3_2 h3_2 e3_2=>?_)
 refine ZF ((ZaK ((ZaK ((Ze Zbp).getD 3 (.Pass ⟨0,0,0,0⟩))).getD 1 (.Pass ⟨0,0,0,0⟩))).drop 1) (Zf (Zt (i:=2) Zcu.nd rfl (Or.inl rfl) (ZK Ziu (ZbL ZeW (pv 2) Zdc (Zcc (pv 6))) (ZbL ZeW (pv 2) (Zcc (ZK Zca (pv 6) Zh)) Zdc)))) (fun u3_1t1 h3_1t1 e3_1t1=>?_);refine ZF ((ZaK ((ZaK ((Ze Zbp).getD 3 (.Pass ⟨0,0,0,0⟩))).getD 1 (.Pass ⟨0,0,0,0⟩))).drop 0) (Zc (Zt (i:=6) Zcu.nd rfl (Or.inl rfl) (Zb0 PySem.F.plainAttrs_list PySem.F.slot_list_index PySem.F.type_list_index (Zfc (K:=K) rfl) (ZbS (cl:=[]) ["_law_name","_law_expr","_law_text"] [] (ZaS (pv 2)) (fun _ _ _ _=>(Zdj (K:=K) (n:=3) rfl rfl (Zv (Zn (i:=0) (show List.Nodup (["_law_name","_law_expr","_law_text"]:List Str) by decide) rfl (Or.inl rfl)) (Zv (Zn (i:=1) (show List.Nodup (["_law_name","_law_expr","_law_text"]:List Str) by decide) rfl (Or.inl rfl)) (Zv (Zn (i:=2) (show List.Nodup (["_law_name","_law_expr","_law_text"]:List Str) by decide) rfl (Or.inl rfl)) ZaG))))) (fun _ _ _ _=>(pv 0)) rfl rfl (by decide) rfl (by decide) (fun _ _ h=>nomatch h) (Zc1 (by decide)) (fun _ _ h=>nomatch h) (fun _=>rfl)) (Za (pv 5) Zd))) h3_1t1) (fun u3_1t0 h3_1t0 e3_1t0=>?_)
 refine ZF ((ZaK ((ZfA ((ZfA ((ZaK ((Ze Zbp).getD 3 (.Pass ⟨0,0,0,0⟩))).getD 1 (.Pass ⟨0,0,0,0⟩))).getD 0 (.Pass ⟨0,0,0,0⟩))).getD 0 (.Pass ⟨0,0,0,0⟩))).drop 1) (Zf (ZbY (ZM (Za (ZP ZX (ZP Z6 (pv 2) (pv 6) (fun _ _=>rfl)) Zh (fun _ _=>rfl)) (Za (ZM (Za Zj Zd)) (Za Zj Zd)))) (Zeb (pv 2) (pv 6) set_list))) (fun u3_1e0e0t1 h3_1e0e0t1 e3_1e0e0t1=>?_);refine ZF ((ZaK ((ZfA ((ZfA ((ZaK ((Ze Zbp).getD 3 (.Pass ⟨0,0,0,0⟩))).getD 1 (.Pass ⟨0,0,0,0⟩))).getD 0 (.Pass ⟨0,0,0,0⟩))).getD 0 (.Pass ⟨0,0,0,0⟩))).drop 0) (Zc (Zt (i:=6) Zcu.nd rfl (Or.inl rfl) (ZK Za9 (pv 3) (Zu ZD rfl (B "len" (by decide)) PySem.boot_len (Za (pv 2) Zd)))) h3_1e0e0t1) (fun u3_1e0e0t0 h3_1e0e0t0 e3_1e0e0t0=>?_);refine ZF ((ZfA ((ZfA ((ZaK ((Ze Zbp).getD 3 (.Pass ⟨0,0,0,0⟩))).getD 1 (.Pass ⟨0,0,0,0⟩))).getD 0 (.Pass ⟨0,0,0,0⟩))).drop 0) (Zf (Z2 (Zo Zi9 (pv 4) Zj (ZG _))
   h3_1e0e0t0
   Zq)) (fun u3_1e0e0 h3_1e0e0 e3_1e0e0=>?_)
 refine ZF ((ZfA ((ZaK ((Ze Zbp).getD 3 (.Pass ⟨0,0,0,0⟩))).getD 1 (.Pass ⟨0,0,0,0⟩))).drop 0) (Zf (Z2 (PW.pt (ZgW (Zo ZaM (pv 4) Zj (ZG _)) (ZeB (Zo ZhJ (Zu ZD rfl (B "len" (by decide)) PySem.boot_len (Za (pv 2) Zd)) Zh (ZG _)))))
   (Zf (Zt (i:=2) Zcu.nd rfl (Or.inl rfl) (ZK Ziu (pv 2) (ZaA (Za (ZM (Za (pv 5) (Za (ZM (Za Zj Zd)) (Za Zj Zd)))) Zd)))))
   h3_1e0e0)) (fun u3_1e0 h3_1e0 e3_1e0=>?_)
 refine ZF ((ZaK ((Ze Zbp).getD 3 (.Pass ⟨0,0,0,0⟩))).drop 1) (Zc (Z2 (Zo ZaM (pv 4) Zj (ZG _))
   h3_1t0
   h3_1e0) h3_2) (fun u3_1 h3_1 e3_1=>?_)
 refine ZF ((ZaK ((Ze Zbp).getD 3 (.Pass ⟨0,0,0,0⟩))).drop 0) (Zc (ZbY (ZQ g_l_due hr rfl (Za (pv 2) Zd)) (ZbH rfl (Zv (Zn (i:=4) Zcu.nd rfl (Or.inl rfl)) (Zv (Zn (i:=5) Zcu.nd rfl (Or.inl rfl)) ZaG)))) h3_1) (fun u3_0 h3_0 e3_0=>?_);refine ZF ((Ze Zbp).drop 3) (Zc (Za7 PassesOwn.never rfl (ZaU rfl (B "range" (by decide)) (Za Zh Zd)) (Zn (i:=3) Zcu.nd rfl (Or.inl rfl))
   h3_0) h4) (fun u3 h3 e3=>?_)
 refine ZF ((Ze Zbp).drop 2) (Zc (Zt (i:=2) Zcu.nd rfl (Or.inl rfl) (Zam Zbx rfl (B "list" (by decide)) Zc6 (Za (pv 1) Zd))) h3) (fun u2 h2 e2=>?_);refine ZF ((Ze Zbp).drop 1) (Zc (Z2 (Zbu (Z1 (ZQ g_l_holds hr rfl (Za (pv 1) Zd)) (fun _=>rfl)))
   (Zf (Zr Zcr))
   Zq) h2) (fun u1 h1 e1=>?_)
 refine ZF ((Ze Zbp).drop 0) (Zc (Zt (i:=1) Zcu.nd rfl (Or.inl rfl) (ZQ g_l_pairs hr rfl (Za (pv 0) (Za (ZaA (Za (Zmj Zk0 Zh) (Za Zh Zd))) Zd)))) h1) (fun u0 h0 e0=>?_);refine⟨u0,h0,?_⟩;refine Zz e0 ?_;refine⟨_,rfl,_,rfl,(by show 2<=sizeLine;decide),fun st hst=>?_⟩;have hne:=SqL.apart hS hst;have s0:Zk H (upd H st (.lst [.int (-1),.int 0])):=Zk.new hst;have hS0:St20 K (upd H st (.lst [.int (-1),.int 0])) a ns st (-1) 0:=⟨s0.seq hS,h63,hne,Zb,by decide,by decide⟩;generalize upd H st (.lst [.int (-1),.int 0])=H0 at s0 hS0 ⊢;refine⟨a,ns,st,(-1),0,rfl,hS0,fun pl bk vs' H1 hpl hT l1 l7 hk hbx=>?_⟩;have hQ:BkQ bk:=BkQ.of (k:=0) l1 (by lia) hk hbx (by decide);show u1 _ _ _;refine Zz e1 ?_;refine⟨_,rfl,pl,vs',bk,rfl,hpl,hT,hQ,fun H2 k2=>⟨true,rfl,ZbD ?_⟩⟩;have hpl2:=k2.lst hpl;have hT2:=hT.tk k2.tk;show u2 _ _ _;refine Zz e2 ?_;refine⟨_,rfl,pl,_,rfl,.inl (SqL.of hpl2),fun ml hml=>?_⟩;have s3:Zk H2 (upd H2 ml (.lst vs')):=Zk.new hml;have e3':upd H2 ml (.lst vs') ml=some (.lst vs'):=Zb;generalize upd H2 ml (.lst vs')=H3 at s3 e3' ⊢;show u3 _ _ _;refine Zz e3 ?_;refine⟨8,rfl,by decide,by decide,ZbE (lo:=0) (n:=(8:Int).toNat) (fun k σ H4=>∃(v3 v4 v5 v6:Option V)(ml:Addr),σ =[some (.ref a),some (.ref pl),some (.ref ml),v3,v4,v5,v6]/\MnI H1 k ml H4)
  ⟨none,none,none,none,ml,rfl,bk,vs',k2.trans (Kp.same s3),fresh_ne k2 hml,e3',hT2.tk s3.tk,l1,by lia,hk,hbx⟩ ?_ ?_⟩
 ·rintro k σ H4 hk8 ⟨v3,v4,v5,v6,ml,rfl,bk,vs,k4,nml,hml4,hT4,b1,b8,hk4,hbx4⟩;have hk8:k<8:=hk8;have hlen:vs.length=bk.length:=Paired.length hT4;have fin:∀(ml:Addr)(v4 v5 v6:Option V)(H5:Hp)(D:Ends),MnI H1 (k+1) ml H5->(∀ σ H6,(∃(v3 v4 v5 v6:Option V)(ml:Addr),σ =[some (.ref a),some (.ref pl),some (.ref ml),v3,v4,v5,v6]/\MnI H1 (k+1) ml H6)->D.nx σ H6)->u3_2 D [some (.ref a),some (.ref pl),some (.ref ml),some (.int (0+(k:Int))),v4,v5,v6] H5:=by
   rintro ml v4 v5 v6 H5 D ⟨bk,vs,k5,nml,hml5,hT5,b1,b8,hk5,hbx5⟩ hD;refine Zz e3_2 ?_;refine⟨_,rfl,ml,vs,bk,rfl,hml5,hT5,BkQ.of b1 b8 hk5 hbx5 (by lia),fun H6 k6=>⟨true,rfl,ZbD (hD _ _ ⟨_,_,_,_,ml,rfl,bk,vs,k5.trans k6,nml,k6.lst hml5,hT5.tk k6.tk,b1,b8,hk5,hbx5⟩)⟩⟩
  show u3_0 _ _ _;refine Zz e3_0 ?_;refine⟨_,rfl,ml,vs,bk,rfl,SqL.of hml4,hT4,b8,fun x hx=>(hk4 x hx).1,fun tp w v H5 s5 e5' hD=>?_⟩;refine⟨tp,_,rfl,SqT.of e5',rfl,_,_,rfl,_,_,rfl,rfl,?_⟩;have k5:=k4.trans (Kp.same s5);have hml5:=s5 _ _ hml4;have hT5:=hT4.tk s5.tk;show u3_1 _ _ _;refine Zz e3_1 ?_;refine⟨_,rfl,rfl,_,rfl,Zaz (fun z=>?_) (fun z=>?_)⟩
  ·have z:V.str w=V.str "twice" := of_decide_eq_true z;injection z with z;obtain⟨n,htw,rfl⟩:∃n,twI [] (bk.map (·.1))=some n/\v=.str n:=by
    rcases hD with⟨n,h1,_,h2⟩|⟨_,n,_,rfl,_⟩|⟨_,_,h3,_⟩
    ·exact⟨n,h1,h2⟩
    ·exact absurd z (by decide)
    ·rcases h3 with⟨_,rfl⟩|⟨_,rfl⟩ <;> exact absurd z (by decide)
   obtain⟨hn,hn2⟩:=ZkV htw;rw[List.length_map] at hn2;have hix:=List.idxOf_lt_length_of_mem hn;rw[List.length_map] at hix;refine Zz e3_1t0 ?_;refine⟨_,rfl,ml,rfl,⟨_,SqL.of hml5⟩,fun p6 hp6=>ZbJ (K:=K) (a:=ml) (p:=p6) (xs:=vs) (fun i ys σ H6=>∃v0 v1 v2:Option V,σ =[v0,v1,v2]/\Zk H5 H6/\H6 p6=some (.lst ys)/\ys=((bk.take i).map (·.1)).map V.str)
    ⟨none,none,none,rfl,Zk.new hp6,Zb,rfl⟩ ?_ ?_ ?_⟩
   ·rintro i ys σ H6 _ ⟨v0,v1,v2,_,sm,h1,_⟩;exact⟨SqL.of (sm _ _ hml5),h1⟩
   ·rintro i ys x σ H6 hi hx ⟨v0,v1,v2,rfl,sm,h1,rfl⟩;obtain⟨x,hx1,tt,qq,rfl,f1,f2⟩:=Z7 hT5 hx;obtain⟨hi1,hi2⟩:=List.getElem?_eq_some_iff.mp hx1;refine⟨tt,_,rfl,SqT.of (sm _ _ f1),rfl,_,_,rfl,_,_,rfl,_,_,rfl,rfl,?_⟩;refine⟨_,rfl,h1,ZR (by rw[List.length_map,List.length_map,List.length_take];lia),CW.next hi ⟨_,_,_,rfl,sm.upd_new hp6,Zb,?_⟩⟩
    rw[List.take_succ_eq_append_getElem hi1,hi2,List.map_append,List.map_append];rfl
   rintro ys σ H6 ⟨v0,v1,v2,_,s6,h6,rfl⟩;rw[hlen,List.take_length] at h6;refine⟨.inl ⟨rfl,_,SqL.of h6⟩,_,rfl,p6,n,bk.map (·.1),rfl,rfl,SqL.of h6,hn,?_⟩;have hml6:=s6 _ _ hml5;have k6:=k5.trans (Kp.same s6);have hT6:=hT5.tk s6.tk;show u3_1t1 _ _ _;refine Zz e3_1t1 ?_;obtain⟨j,hj⟩:∃j:Nat,(bk.map (·.1)).idxOf n=j:=⟨_,rfl⟩;rw[hj] at hix ⊢;refine⟨_,rfl,_,rfl,_,rfl,ml,_,rfl,SqL.of hml6,fun pa hpa=>?_⟩;rw[Zjk];have s7:Zk H6 (upd H6 pa (.lst (vs.take j))):=Zk.new hpa;have e7':upd H6 pa (.lst (vs.take j)) pa=some (.lst (vs.take j)):=Zb;generalize upd H6 pa (.lst (vs.take j))=H7 at s7 e7' ⊢;refine⟨_,rfl,_,rfl,_,_,rfl,rfl,_,rfl,ml,_,rfl,SqL.of (s7 _ _ hml6),fun pb hpb=>?_⟩;rw[show((j:Int)+1)=((j+1:Nat):Int) from rfl,ZgQ];have s8:Zk H7 (upd H7 pb (.lst (vs.drop (j+1)))):=Zk.new hpb;have e8':upd H7 pb (.lst (vs.drop (j+1))) pb=some (.lst (vs.drop (j+1))):=Zb;generalize upd H7 pb (.lst (vs.drop (j+1)))=H8 at s8 e8' ⊢;refine⟨pa,pb,_,_,rfl,rfl,s8 _ _ e7',e8',Zx (by rw[List.length_take,List.length_drop];lia),fun pc hpc=>?_⟩;have s9:Zk H8 (upd H8 pc (.lst (vs.take j++vs.drop (j+1)))):=Zk.new hpc;have k8:=k6.trans (Kp.same (s7.trans s8));refine fin pc _ _ _ _ _ ⟨bk.take j++bk.drop (j+1),vs.take j++vs.drop (j+1),k8.trans (Kp.same s9),fresh_ne k8 hpc,Zb,?_,?_,?_,fun x hx=>?_,?_⟩ (fun _ _ h=>h)
   ·exact TrL.tk ((s7.trans s8).trans s9).tk (Paired.app (Zdx j hT6) (ZdM (j+1) hT6))
   ·rw[List.length_append,List.length_take,List.length_drop];lia
   ·rw[List.length_append,List.length_take,List.length_drop];lia
   ·rcases List.mem_append.mp hx with hx|hx
    ·exact hk4 x (List.mem_of_mem_take hx)
    ·exact hk4 x (List.mem_of_mem_drop hx)
   ·have:=Zlp bk j;lia
  have z1:w ≠ "twice" := fun y=>z (decide_eq_true (by rw[y]));refine Zz e3_1e0 ?_;have third:∀D:Ends,(∀ml v4 v5 v6 H5,MnI H1 (k+1) ml H5->D.nx [some (.ref a),some (.ref pl),some (.ref ml),some (.int (0+(k:Int))),v4,v5,v6] H5)->u3_1e0e0 D [some (.ref a),some (.ref pl),some (.ref ml),some (.int (0+(k:Int))),some (.str w),some v,v6] H5:=by
   intro D hD';refine Zz e3_1e0e0 ?_;refine⟨_,rfl,rfl,_,rfl,Zaz (fun _=>?_) (fun _=>hD' ml _ _ _ H5 ⟨bk,vs,k5,nml,hml5,hT5,b1,b8,hk4,by lia⟩)⟩;refine Zz e3_1e0e0t0 ?_;have lp:(0:Int)<((vs.length:Nat):Int):=by lia
   refine⟨_,rfl,_,rfl,ml,_,rfl,.inl (SqL.of hml5),_,_,rfl,rfl,lp,?_⟩;have j0:=Int.emod_nonneg (0+(k:Int)) (Int.ne_of_gt lp);have j1:=Int.emod_lt_of_pos (0+(k:Int)) lp;obtain⟨j,hj⟩:∃j:Nat,(0+(k:Int)) % ((vs.length:Nat):Int)=(j:Int):=⟨_,(Int.toNat_of_nonneg j0).symm⟩;have hjl:j<vs.length:=by lia
   obtain⟨x,hx1,tt,qq,hvj,f1,f2⟩:=Z7 hT5 (List.getElem?_eq_getElem hjl);obtain⟨⟨c1,_⟩,c2,_⟩:=hk4 x (List.mem_of_getElem? hx1);show u3_1e0e0t1 _ [some (.ref a),some (.ref pl),some (.ref ml),some (.int (0+(k:Int))),some (.str w),some v,some (.int ((0+(k:Int)) % ((vs.length:Nat):Int)))] H5;rw[hj];refine Zz e3_1e0e0t1 ?_;have hat:atI vs (j:Int)=some (.ref tt):=Zbc (by rw[List.getElem?_eq_getElem hjl,hvj]);refine⟨_,rfl,_,rfl,ml,_,_,_,rfl,rfl,SqL.of hml5,hat,tt,_,0,_,rfl,rfl,SqT.of f1,rfl,(by show 1<=sizeLine;decide),fun tn htn=>?_⟩;have s6:Zk H5 (upd H5 tn (.tup [.str "nil"])):=Zk.new htn;have e6':upd H5 tn (.tup [.str "nil"]) tn=some (.tup [.str "nil"]):=Zb;generalize upd H5 tn (.tup [.str "nil"])=H6 at s6 e6' ⊢;refine⟨(by show 3<=sizeLine;decide),fun t7 ht7=>?_⟩;have s7:Zk H6 (upd H6 t7 (.tup [.str x.1,.ref tn,.str "{}"])):=Zk.new ht7;have e7':upd H6 t7 (.tup [.str x.1,.ref tn,.str "{}"]) t7=some (.tup [.str x.1,.ref tn,.str "{}"]):=Zb;generalize upd H6 t7 (.tup [.str x.1,.ref tn,.str "{}"])=H7 at s7 e7' ⊢;have s57:=s6.trans s7;have hml7:=s57 _ _ hml5;refine⟨_,rfl,_,rfl,ml,vs,_,j,rfl,rfl,hml7,Zlg hjl,?_⟩;have tk8:TK H7 (upd H7 ml (.lst (vs.set j (.ref t7)))):=TK.lst hml7;refine hD' ml _ _ _ _ ⟨bk.set j (x.1,.nil),vs.set j (.ref t7),?_,nml,Zb,?_,by rw[List.length_set];exact b1,by rw[List.length_set];exact b8,fun y hy=>?_,?_⟩
   ·intro b o hb ho;rw[Zi (nml b o hb ho)];exact s57 _ _ (k5 b o hb ho)
   ·exact(Zes (F:=Trp _) ⟨t7,tn,rfl,tk8 _ _ e7',.nil (tk8 _ _ (s7 _ _ e6'))⟩ j (hT5.tk (s57.tk.trans tk8)))
   ·rcases List.mem_or_eq_of_mem_set hy with hy|rfl
    ·exact hk4 y hy
    ·exact Zj8 ⟨c2,c1⟩
   ·have:=Zh1 (x.1,.nil) bk j;rw[Zke] at this;lia
  refine⟨_,rfl,rfl,_,rfl,Zaz (fun z=>?_) (fun z=>?_)⟩
  ·have z:V.str w=V.str "lacks" := of_decide_eq_true z;injection z with z;obtain⟨n,hlk,rfl⟩:∃n,lkN (bk.map (·.1)) (ZdU bk)=some n/\v=.str n:=by
    rcases hD with⟨n,h1,rfl,h2⟩|⟨_,n,h1,_,h2⟩|⟨_,_,h3,_⟩
    ·exact absurd z (by decide)
    ·exact⟨n,h1,h2⟩
    ·rcases h3 with⟨_,rfl⟩|⟨_,rfl⟩ <;> exact absurd z (by decide)
   have hna:n∈ZdU bk:=List.mem_of_find?_eq_some hlk;obtain⟨x,hxb,hxn⟩:=List.mem_flatMap.mp hna;have hup:=Zgw true (hk4 x hxb).2.2.1 hxn;refine⟨_,rfl,ml,_,rfl,.inl (SqL.of hml5),_,_,rfl,rfl,_,rfl,Zaz (fun y=>?_) (fun y=>?_)⟩
   ·have y:=of_decide_eq_true y;refine⟨_,rfl,_,rfl,(by show 1<=sizeLine;decide),fun tn htn=>?_⟩;have s6:Zk H5 (upd H5 tn (.tup [.str "nil"])):=Zk.new htn;have e6':upd H5 tn (.tup [.str "nil"]) tn=some (.tup [.str "nil"]):=Zb;generalize upd H5 tn (.tup [.str "nil"])=H6 at s6 e6' ⊢;refine⟨(by show 3<=sizeLine;decide),fun t7 ht7=>?_⟩;have s7:Zk H6 (upd H6 t7 (.tup [.str n,.ref tn,.str "{}"])):=Zk.new ht7;have e7':upd H6 t7 (.tup [.str n,.ref tn,.str "{}"]) t7=some (.tup [.str n,.ref tn,.str "{}"]):=Zb;generalize upd H6 t7 (.tup [.str n,.ref tn,.str "{}"])=H7 at s7 e7' ⊢;refine⟨(by show 1<=sizeLine;decide),fun l8 hl8=>?_⟩;have s8:Zk H7 (upd H7 l8 (.lst [.ref t7])):=Zk.new hl8;have e8':upd H7 l8 (.lst [.ref t7]) l8=some (.lst [.ref t7]):=Zb;generalize upd H7 l8 (.lst [.ref t7])=H8 at s8 e8' ⊢;have s58:=(s6.trans s7).trans s8;refine⟨ml,l8,_,_,rfl,rfl,s58 _ _ hml5,e8',Zx (by show vs.length+1<=_;lia),fun pc hpc=>?_⟩;have s9:Zk H8 (upd H8 pc (.lst (vs ++ [.ref t7]))):=Zk.new hpc;have k8:=k5.trans (Kp.same s58);refine fin pc _ _ _ _ _ ⟨bk ++ [(n,.nil)],vs ++ [.ref t7],k8.trans (Kp.same s9),fresh_ne k8 hpc,Zb,?_,?_,?_,fun x hx=>?_,?_⟩ (fun _ _ h=>h)
    ·exact Paired.app (hT5.tk (s58.trans s9).tk) (.cons ⟨t7,tn,rfl,s9 _ _ (s8 _ _ e7'),.nil (s9 _ _ (s8 _ _ (s7 _ _ e6')))⟩ .nil)
    ·rw[List.length_append];show 1<=_+1;lia
    ·rw[List.length_append];show _+1<=8;lia
    ·rcases List.mem_append.mp hx with hx|hx
     ·exact hk4 x hx
     ·rw[List.mem_singleton.mp hx];exact Zj8 hup
    ·rw[Zgn];have:bxS [(n,Ex.nil)]=2:=by
      show bx .nil+0=2;rw[Zke]
     lia
   ·exact third _ (fun ml v4 v5 v6 H5 h=>fin ml v4 v5 v6 H5 _ h (fun _ _ h=>h))
  ·exact third _ (fun ml v4 v5 v6 H5 h=>fin ml v4 v5 v6 H5 _ h (fun _ _ h=>h))
 rintro σ H4 ⟨v3,v4,v5,v6,ml,rfl,_,_,k4,_⟩;show u4 _ _ _;refine Zz e4 ?_;exact⟨_,rfl,pl,vs',bk,rfl,k4.lst hpl,hT.tk k4.tk,hQ,fun H5 _=>q H5⟩
end
theorem Zlv{l:PySem.W.OpenLaw}{w:World}{K:PySem.W.Frag}{h:Heap}{mg:Str->Option Value}{fa f1 f2 f3 f4 f5 f6 f7 f8 f9 f10 f11 f12 f13 f14 f15 f16 f17 f18 f19 f20 f21 f22 f23 f24 f25 f26 f27 f28 f29 f30 f31 f32 f33 f34 f35 f36 f37 f38 f39 f40 f41 f42 f43:Addr}(X:K.In h)(G:h.Ns mainGlobals mg)(hfa:mg "law" = some (.ref fa))
  {od1 an1 od2 an2 od3 an3 od4 an4 od5 an5 od6 an6 od7 an7 od8 an8 od9 an9 od10 an10 od11 an11 od12 an12 od13 an13 od14 an14 od15 an15 od16 an16 od17 an17 od18 an18 od19 an19 od20 an20 od21 an21 od22 an22 od23 an23 od24 an24 od25 an25 od26 an26 od27 an27 od28 an28 od29 an29 od30 an30 od31 an31 od32 an32 od33 an33 od34 an34 od35 an35 od36 an36 od37 an37 od38 an38 od39 an39 od40 an40 od41 an41 od42 an42 od43 an43:Option Addr} {sl1 sl2 sl3 sl4 sl5 sl6 sl7 sl8 sl9 sl10 sl11 sl12 sl13 sl14 sl15 sl16 sl17 sl18 sl19 sl20 sl21 sl22 sl23 sl24 sl25 sl26 sl27 sl28 sl29 sl30 sl31 sl32 sl33 sl34 sl35 sl36 sl37 sl38 sl39 sl40 sl41 sl42 sl43:Array (Option Value)} {oc1 kV1 dc1 pm1 cd1 ct1 oc2 kV2 dc2 pm2 cd2 ct2 oc3 kV3 dc3 pm3 cd3 ct3 oc4 kV4 dc4 pm4 cd4 ct4 oc5 kV5 dc5 pm5 cd5 ct5 oc6 kV6 dc6 pm6 cd6 ct6 oc7 kV7 dc7 pm7 cd7 ct7 oc8 kV8 dc8 pm8 cd8 ct8 oc9 kV9 dc9 pm9 cd9 ct9 oc10 kV10 dc10 pm10 cd10 ct10 oc11 kV11 dc11 pm11 cd11 ct11 oc12 kV12 dc12 pm12 cd12 ct12 oc13 kV13 dc13 pm13 cd13 ct13 oc14 kV14 dc14 pm14 cd14 ct14 oc15 kV15 dc15 pm15 cd15 ct15 oc16 kV16 dc16 pm16 cd16 ct16 oc17 kV17 dc17 pm17 cd17 ct17 oc18 kV18 dc18 pm18 cd18 ct18 oc19 kV19 dc19 pm19 cd19 ct19 oc20 kV20 dc20 pm20 cd20 ct20 oc21 kV21 dc21 pm21 cd21 ct21 oc22 kV22 dc22 pm22 cd22 ct22 oc23 kV23 dc23 pm23 cd23 ct23 oc24 kV24 dc24 pm24 cd24 ct24 oc25 kV25 dc25 pm25 cd25 ct25 oc26 kV26 dc26 pm26 cd26 ct26 oc27 kV27 dc27 pm27 cd27 ct27 oc28 kV28 dc28 pm28 cd28 ct28 oc29 kV29 dc29 pm29 cd29 ct29 oc30 kV30 dc30 pm30 cd30 ct30 oc31 kV31 dc31 pm31 cd31 ct31 oc32 kV32 dc32 pm32 cd32 ct32 oc33 kV33 dc33 pm33 cd33 ct33 oc34 kV34 dc34 pm34 cd34 ct34 oc35 kV35 dc35 pm35 cd35 ct35 oc36 kV36 dc36 pm36 cd36 ct36 oc37 kV37 dc37 pm37 cd37 ct37 oc38 kV38 dc38 pm38 cd38 ct38 oc39 kV39 dc39 pm39 cd39 ct39 oc40 kV40 dc40 pm40 cd40 ct40 oc41 kV41 dc41 pm41 cd41 ct41 oc42 kV42 dc42 pm42 cd42 ct42 oc43 kV43 dc43 pm43 cd43 ct43:Value}
  {X_GroveError X_NoBook X_TwiceNamed X_NoName X_Ring:Addr}
  (xn_GroveError:PySem.W.nsIn K mainGlobals "GroveError" = some (some (.ref X_GroveError)))
  (xn_NoBook:PySem.W.nsIn K mainGlobals "NoBook" = some (some (.ref X_NoBook)))
  (xn_TwiceNamed:PySem.W.nsIn K mainGlobals "TwiceNamed" = some (some (.ref X_TwiceNamed)))
  (xn_NoName:PySem.W.nsIn K mainGlobals "NoName" = some (some (.ref X_NoName)))
  (xn_Ring:PySem.W.nsIn K mainGlobals "Ring" = some (some (.ref X_Ring)))
  {g0 goc:Value} {gdd god:Option Addr} {gcd:ClassData} {gsl gsl':Array (Option Value)} {ges:Array DictEntry} {gep:Nat} (xg1:K.lookup X_GroveError=some ⟨g0,gdd,.cls gcd,gsl⟩) (xg2:K.lookup gcd.ns=some ⟨goc,god,.dict ges gep,gsl'⟩) (xg3:keysOk ges=true) (xg4:PySem.W.nsIn K gcd.ns "__init__" = some none)
  (xb1:PySem.W.specialIn K (.ref X_GroveError) "__getattribute__" = some (some (.builtin "type.__getattribute__"))) (xb2:PySem.W.readsIn K X_GroveError (.type "type")=true) (xb3:PySem.W.findCls K (.ref X_GroveError) (.type "type") "__init__" = some (.val (.builtin "ValueError.__init__"))) (xb4:PySem.W.isClsIn K X_GroveError=true) (xb5:PySem.W.typeIn K (.ref X_GroveError)=some (.type "type"))
  (d1_GroveError:PySem.W.isClsIn K X_GroveError=true) (d2_GroveError:PySem.W.mroIn K X_GroveError (.type "BaseException")=some true) (d3_GroveError:PySem.W.instIn K (.ref X_GroveError) (.type "tuple")=some false)
  (d1_NoBook:PySem.W.isClsIn K X_NoBook=true) (d2_NoBook:PySem.W.mroIn K X_NoBook (.type "BaseException")=some true) (d3_NoBook:PySem.W.instIn K (.ref X_NoBook) (.type "tuple")=some false)
  (d1_TwiceNamed:PySem.W.isClsIn K X_TwiceNamed=true) (d2_TwiceNamed:PySem.W.mroIn K X_TwiceNamed (.type "BaseException")=some true) (d3_TwiceNamed:PySem.W.instIn K (.ref X_TwiceNamed) (.type "tuple")=some false)
  (d1_NoName:PySem.W.isClsIn K X_NoName=true) (d2_NoName:PySem.W.mroIn K X_NoName (.type "BaseException")=some true) (d3_NoName:PySem.W.instIn K (.ref X_NoName) (.type "tuple")=some false)
  (d1_Ring:PySem.W.isClsIn K X_Ring=true) (d2_Ring:PySem.W.mroIn K X_Ring (.type "BaseException")=some true) (d3_Ring:PySem.W.instIn K (.ref X_Ring) (.type "tuple")=some false)
  {nm_TwiceNamed q_TwiceNamed:Str} {N_TwiceNamed:Addr} {bs_TwiceNamed:List Value} {hdct_TwiceNamed:Bool} {sn_TwiceNamed:List Str} {sub_TwiceNamed:List Value} {ab_TwiceNamed:Bool} {col_TwiceNamed:Option Bool} {dd_TwiceNamed:Option Addr} {k0_TwiceNamed k1_TwiceNamed k2_TwiceNamed k3_TwiceNamed k5_TwiceNamed:Option Value}
  (xl_TwiceNamed:K.lookup X_TwiceNamed=some (excClassObj nm_TwiceNamed q_TwiceNamed X_TwiceNamed N_TwiceNamed bs_TwiceNamed (.ref X_GroveError::bmV) hdct_TwiceNamed sn_TwiceNamed sub_TwiceNamed ab_TwiceNamed col_TwiceNamed dd_TwiceNamed k0_TwiceNamed k1_TwiceNamed k2_TwiceNamed k3_TwiceNamed k5_TwiceNamed "ValueError.__new__"))
  (xc_TwiceNamed:PySem.W.specialIn K (.ref X_TwiceNamed) "__call__" = some (some (.builtin "type.__call__"))) (xt_TwiceNamed:PySem.W.instIn K (.ref X_TwiceNamed) (.type "type")=some true) (xk_TwiceNamed:PySem.W.keepIn K (.ref X_TwiceNamed)=true) (xv_TwiceNamed:PySem.W.mroIn K X_TwiceNamed (.type "ValueError")=some true)
  (xe_TwiceNamed:X_TwiceNamed≠X_GroveError)
  (o1_TwiceNamed_NoBook:PySem.W.findIn K (.ref X_TwiceNamed) "__class__" = some (some (.builtin "object.__class__"))) (o2_TwiceNamed_NoBook:PySem.W.specialIn K (.builtin "object.__class__") "__get__" = some (some (.builtin "getset_descriptor.__get__"))) (o3_TwiceNamed_NoBook:PySem.W.takesIn K (.builtin "object.__class__")=some true) (o4_TwiceNamed_NoBook:PySem.W.mroIn K X_TwiceNamed (.type "object")=some true) (o5_TwiceNamed_NoBook:PySem.W.typeIn K (.ref X_NoBook)=some (.type "type")) (o6_TwiceNamed_NoBook:X_TwiceNamed≠X_NoBook)
  (o1_TwiceNamed_NoName:PySem.W.findIn K (.ref X_TwiceNamed) "__class__" = some (some (.builtin "object.__class__"))) (o2_TwiceNamed_NoName:PySem.W.specialIn K (.builtin "object.__class__") "__get__" = some (some (.builtin "getset_descriptor.__get__"))) (o3_TwiceNamed_NoName:PySem.W.takesIn K (.builtin "object.__class__")=some true) (o4_TwiceNamed_NoName:PySem.W.mroIn K X_TwiceNamed (.type "object")=some true) (o5_TwiceNamed_NoName:PySem.W.typeIn K (.ref X_NoName)=some (.type "type")) (o6_TwiceNamed_NoName:X_TwiceNamed≠X_NoName)
  (o1_TwiceNamed_Ring:PySem.W.findIn K (.ref X_TwiceNamed) "__class__" = some (some (.builtin "object.__class__"))) (o2_TwiceNamed_Ring:PySem.W.specialIn K (.builtin "object.__class__") "__get__" = some (some (.builtin "getset_descriptor.__get__"))) (o3_TwiceNamed_Ring:PySem.W.takesIn K (.builtin "object.__class__")=some true) (o4_TwiceNamed_Ring:PySem.W.mroIn K X_TwiceNamed (.type "object")=some true) (o5_TwiceNamed_Ring:PySem.W.typeIn K (.ref X_Ring)=some (.type "type")) (o6_TwiceNamed_Ring:X_TwiceNamed≠X_Ring)
  (f1_TwiceNamed_name:PySem.W.findIn K (.ref X_TwiceNamed) "__setattr__" = some (some (.builtin "object.__setattr__"))) (f2_TwiceNamed_name:PySem.W.findIn K (.ref X_TwiceNamed) "name" = some none) (f3_TwiceNamed_name:PySem.W.hasDictIn K X_TwiceNamed=true) (f4_TwiceNamed_name:PySem.W.findIn K (.ref X_TwiceNamed) "__getattribute__" = some (some (.builtin "BaseException.__getattribute__"))) (f5_TwiceNamed_name:PySem.W.findIn K (.ref X_TwiceNamed) "__getattr__" = some none)
  (m_TwiceNamed_GroveError:PySem.W.mroIn K X_TwiceNamed (.ref X_GroveError)=some true)
  (m_TwiceNamed_NoBook:PySem.W.mroIn K X_TwiceNamed (.ref X_NoBook)=some false)
  (m_TwiceNamed_TwiceNamed:PySem.W.mroIn K X_TwiceNamed (.ref X_TwiceNamed)=some true)
  (m_TwiceNamed_NoName:PySem.W.mroIn K X_TwiceNamed (.ref X_NoName)=some false)
  (m_TwiceNamed_Ring:PySem.W.mroIn K X_TwiceNamed (.ref X_Ring)=some false)
  {nm_NoName q_NoName:Str} {N_NoName:Addr} {bs_NoName:List Value} {hdct_NoName:Bool} {sn_NoName:List Str} {sub_NoName:List Value} {ab_NoName:Bool} {col_NoName:Option Bool} {dd_NoName:Option Addr} {k0_NoName k1_NoName k2_NoName k3_NoName k5_NoName:Option Value}
  (xl_NoName:K.lookup X_NoName=some (excClassObj nm_NoName q_NoName X_NoName N_NoName bs_NoName (.ref X_GroveError::bmV) hdct_NoName sn_NoName sub_NoName ab_NoName col_NoName dd_NoName k0_NoName k1_NoName k2_NoName k3_NoName k5_NoName "ValueError.__new__"))
  (xc_NoName:PySem.W.specialIn K (.ref X_NoName) "__call__" = some (some (.builtin "type.__call__"))) (xt_NoName:PySem.W.instIn K (.ref X_NoName) (.type "type")=some true) (xk_NoName:PySem.W.keepIn K (.ref X_NoName)=true) (xv_NoName:PySem.W.mroIn K X_NoName (.type "ValueError")=some true)
  (xe_NoName:X_NoName≠X_GroveError)
  (o1_NoName_NoBook:PySem.W.findIn K (.ref X_NoName) "__class__" = some (some (.builtin "object.__class__"))) (o2_NoName_NoBook:PySem.W.specialIn K (.builtin "object.__class__") "__get__" = some (some (.builtin "getset_descriptor.__get__"))) (o3_NoName_NoBook:PySem.W.takesIn K (.builtin "object.__class__")=some true) (o4_NoName_NoBook:PySem.W.mroIn K X_NoName (.type "object")=some true) (o5_NoName_NoBook:PySem.W.typeIn K (.ref X_NoBook)=some (.type "type")) (o6_NoName_NoBook:X_NoName≠X_NoBook)
  (o1_NoName_TwiceNamed:PySem.W.findIn K (.ref X_NoName) "__class__" = some (some (.builtin "object.__class__"))) (o2_NoName_TwiceNamed:PySem.W.specialIn K (.builtin "object.__class__") "__get__" = some (some (.builtin "getset_descriptor.__get__"))) (o3_NoName_TwiceNamed:PySem.W.takesIn K (.builtin "object.__class__")=some true) (o4_NoName_TwiceNamed:PySem.W.mroIn K X_NoName (.type "object")=some true) (o5_NoName_TwiceNamed:PySem.W.typeIn K (.ref X_TwiceNamed)=some (.type "type")) (o6_NoName_TwiceNamed:X_NoName≠X_TwiceNamed)
  (o1_NoName_Ring:PySem.W.findIn K (.ref X_NoName) "__class__" = some (some (.builtin "object.__class__"))) (o2_NoName_Ring:PySem.W.specialIn K (.builtin "object.__class__") "__get__" = some (some (.builtin "getset_descriptor.__get__"))) (o3_NoName_Ring:PySem.W.takesIn K (.builtin "object.__class__")=some true) (o4_NoName_Ring:PySem.W.mroIn K X_NoName (.type "object")=some true) (o5_NoName_Ring:PySem.W.typeIn K (.ref X_Ring)=some (.type "type")) (o6_NoName_Ring:X_NoName≠X_Ring)
  (f1_NoName_name:PySem.W.findIn K (.ref X_NoName) "__setattr__" = some (some (.builtin "object.__setattr__"))) (f2_NoName_name:PySem.W.findIn K (.ref X_NoName) "name" = some none) (f3_NoName_name:PySem.W.hasDictIn K X_NoName=true) (f4_NoName_name:PySem.W.findIn K (.ref X_NoName) "__getattribute__" = some (some (.builtin "BaseException.__getattribute__"))) (f5_NoName_name:PySem.W.findIn K (.ref X_NoName) "__getattr__" = some none)
  (m_NoName_GroveError:PySem.W.mroIn K X_NoName (.ref X_GroveError)=some true)
  (m_NoName_NoBook:PySem.W.mroIn K X_NoName (.ref X_NoBook)=some false)
  (m_NoName_TwiceNamed:PySem.W.mroIn K X_NoName (.ref X_TwiceNamed)=some false)
  (m_NoName_NoName:PySem.W.mroIn K X_NoName (.ref X_NoName)=some true)
  (m_NoName_Ring:PySem.W.mroIn K X_NoName (.ref X_Ring)=some false)
  {nm_Ring q_Ring:Str} {N_Ring:Addr} {bs_Ring:List Value} {hdct_Ring:Bool} {sn_Ring:List Str} {sub_Ring:List Value} {ab_Ring:Bool} {col_Ring:Option Bool} {dd_Ring:Option Addr} {k0_Ring k1_Ring k2_Ring k3_Ring k5_Ring:Option Value}
  (xl_Ring:K.lookup X_Ring=some (excClassObj nm_Ring q_Ring X_Ring N_Ring bs_Ring (.ref X_GroveError::bmV) hdct_Ring sn_Ring sub_Ring ab_Ring col_Ring dd_Ring k0_Ring k1_Ring k2_Ring k3_Ring k5_Ring "ValueError.__new__"))
  (xc_Ring:PySem.W.specialIn K (.ref X_Ring) "__call__" = some (some (.builtin "type.__call__"))) (xt_Ring:PySem.W.instIn K (.ref X_Ring) (.type "type")=some true) (xk_Ring:PySem.W.keepIn K (.ref X_Ring)=true) (xv_Ring:PySem.W.mroIn K X_Ring (.type "ValueError")=some true)
  (xe_Ring:X_Ring≠X_GroveError)
  (o1_Ring_NoBook:PySem.W.findIn K (.ref X_Ring) "__class__" = some (some (.builtin "object.__class__"))) (o2_Ring_NoBook:PySem.W.specialIn K (.builtin "object.__class__") "__get__" = some (some (.builtin "getset_descriptor.__get__"))) (o3_Ring_NoBook:PySem.W.takesIn K (.builtin "object.__class__")=some true) (o4_Ring_NoBook:PySem.W.mroIn K X_Ring (.type "object")=some true) (o5_Ring_NoBook:PySem.W.typeIn K (.ref X_NoBook)=some (.type "type")) (o6_Ring_NoBook:X_Ring≠X_NoBook)
  (o1_Ring_TwiceNamed:PySem.W.findIn K (.ref X_Ring) "__class__" = some (some (.builtin "object.__class__"))) (o2_Ring_TwiceNamed:PySem.W.specialIn K (.builtin "object.__class__") "__get__" = some (some (.builtin "getset_descriptor.__get__"))) (o3_Ring_TwiceNamed:PySem.W.takesIn K (.builtin "object.__class__")=some true) (o4_Ring_TwiceNamed:PySem.W.mroIn K X_Ring (.type "object")=some true) (o5_Ring_TwiceNamed:PySem.W.typeIn K (.ref X_TwiceNamed)=some (.type "type")) (o6_Ring_TwiceNamed:X_Ring≠X_TwiceNamed)
  (o1_Ring_NoName:PySem.W.findIn K (.ref X_Ring) "__class__" = some (some (.builtin "object.__class__"))) (o2_Ring_NoName:PySem.W.specialIn K (.builtin "object.__class__") "__get__" = some (some (.builtin "getset_descriptor.__get__"))) (o3_Ring_NoName:PySem.W.takesIn K (.builtin "object.__class__")=some true) (o4_Ring_NoName:PySem.W.mroIn K X_Ring (.type "object")=some true) (o5_Ring_NoName:PySem.W.typeIn K (.ref X_NoName)=some (.type "type")) (o6_Ring_NoName:X_Ring≠X_NoName)
  (f1_Ring_names:PySem.W.findIn K (.ref X_Ring) "__setattr__" = some (some (.builtin "object.__setattr__"))) (f2_Ring_names:PySem.W.findIn K (.ref X_Ring) "names" = some none) (f3_Ring_names:PySem.W.hasDictIn K X_Ring=true) (f4_Ring_names:PySem.W.findIn K (.ref X_Ring) "__getattribute__" = some (some (.builtin "BaseException.__getattribute__"))) (f5_Ring_names:PySem.W.findIn K (.ref X_Ring) "__getattr__" = some none)
  (m_Ring_GroveError:PySem.W.mroIn K X_Ring (.ref X_GroveError)=some true)
  (m_Ring_NoBook:PySem.W.mroIn K X_Ring (.ref X_NoBook)=some false)
  (m_Ring_TwiceNamed:PySem.W.mroIn K X_Ring (.ref X_TwiceNamed)=some false)
  (m_Ring_NoName:PySem.W.mroIn K X_Ring (.ref X_NoName)=some false)
  (m_Ring_Ring:PySem.W.mroIn K X_Ring (.ref X_Ring)=some true)
  {C_Source:Addr}
  (cn1:PySem.W.nsIn K mainGlobals "Source" = some (some (.ref C_Source))) (cp1:PySem.W.plainGet K C_Source Str.empty=true) (ch1:PySem.W.hasDictIn K C_Source=true) (cq1:PySem.W.plainOver K C_Source=true) (cs1:PySem.W.findIn K (.ref C_Source) "__setattr__" = some (some (.builtin "object.__setattr__"))) (cm1:PySem.W.makesIn K C_Source=true) (ck1:PySem.W.keepIn K (.ref C_Source)=true)
  (cx1_0:PySem.W.findIn K (.ref C_Source) "text" = some none)
  (cx1_1:PySem.W.findIn K (.ref C_Source) "at" = some none)
  (a1:PySem.W.nsIn K mainGlobals "_law_next" = some (some (.ref f1))) (l1:K.lookup f1=some ⟨oc1,od1,.func (PySem.W.fnOf "_law_next" "_law_next" (Zw Zcq) (Ze Zcq) (Zg Zcq) .none kV1 dc1 pm1 an1 cd1 ct1),sl1⟩) (c1:PySem.W.codeIn K cd1 "_law_next" = true) (k1:PySem.W.keepIn K (.ref f1)=true)
  (a2:PySem.W.nsIn K mainGlobals "_law_word" = some (some (.ref f2))) (l2:K.lookup f2=some ⟨oc2,od2,.func (PySem.W.fnOf "_law_word" "_law_word" (Zw Zcn) (Ze Zcn) (Zg Zcn) .none kV2 dc2 pm2 an2 cd2 ct2),sl2⟩) (c2:PySem.W.codeIn K cd2 "_law_word" = true) (k2:PySem.W.keepIn K (.ref f2)=true)
  (a3:PySem.W.nsIn K mainGlobals "_law_leaf" = some (some (.ref f3))) (l3:K.lookup f3=some ⟨oc3,od3,.func (PySem.W.fnOf "_law_leaf" "_law_leaf" (Zw Zcj) (Ze Zcj) (Zg Zcj) .none kV3 dc3 pm3 an3 cd3 ct3),sl3⟩) (c3:PySem.W.codeIn K cd3 "_law_leaf" = true) (k3:PySem.W.keepIn K (.ref f3)=true)
  (a4:PySem.W.nsIn K mainGlobals "_law_made" = some (some (.ref f4))) (l4:K.lookup f4=some ⟨oc4,od4,.func (PySem.W.fnOf "_law_made" "_law_made" (Zw ZV) (Ze ZV) (Zg ZV) .none kV4 dc4 pm4 an4 cd4 ct4),sl4⟩) (c4:PySem.W.codeIn K cd4 "_law_made" = true) (k4:PySem.W.keepIn K (.ref f4)=true)
  (a5:PySem.W.nsIn K mainGlobals "_law_pairs" = some (some (.ref f5))) (l5:K.lookup f5=some ⟨oc5,od5,.func (PySem.W.fnOf "_law_pairs" "_law_pairs" (Zw ZS) (Ze ZS) (Zg ZS) .none kV5 dc5 pm5 an5 cd5 ct5),sl5⟩) (c5:PySem.W.codeIn K cd5 "_law_pairs" = true) (k5:PySem.W.keepIn K (.ref f5)=true)
  (a6:PySem.W.findIn K (.ref C_Source) "__init__" = some (some (.ref f6))) (l6:K.lookup f6=some ⟨oc6,od6,.func (PySem.W.fnOf "__init__" "Source.__init__" (Zw Zak) (Ze Zak) (Zg Zak) .none kV6 dc6 pm6 an6 cd6 ct6),sl6⟩) (c6:PySem.W.codeIn K cd6 "Source.__init__" = true) (k6:PySem.W.keepIn K (.ref f6)=true) (n6:PySem.W.isFn K (.ref f6)=true)
  (a7:PySem.W.findIn K (.ref C_Source) "at_end" = some (some (.ref f7))) (l7:K.lookup f7=some ⟨oc7,od7,.func (PySem.W.fnOf "at_end" "Source.at_end" (Zw Zaw) (Ze Zaw) (Zg Zaw) .none kV7 dc7 pm7 an7 cd7 ct7),sl7⟩) (c7:PySem.W.codeIn K cd7 "Source.at_end" = true) (k7:PySem.W.keepIn K (.ref f7)=true) (n7:PySem.W.isFn K (.ref f7)=true)
  (a8:PySem.W.findIn K (.ref C_Source) "take_letters" = some (some (.ref f8))) (l8:K.lookup f8=some ⟨oc8,od8,.func (PySem.W.fnOf "take_letters" "Source.take_letters" (Zw Z0) (Ze Z0) (Zg Z0) .none kV8 dc8 pm8 an8 cd8 ct8),sl8⟩) (c8:PySem.W.codeIn K cd8 "Source.take_letters" = true) (k8:PySem.W.keepIn K (.ref f8)=true) (n8:PySem.W.isFn K (.ref f8)=true)
  (a9:PySem.W.findIn K (.ref C_Source) "take_name" = some (some (.ref f9))) (l9:K.lookup f9=some ⟨oc9,od9,.func (PySem.W.fnOf "take_name" "Source.take_name" (Zw Zad) (Ze Zad) (Zg Zad) .none kV9 dc9 pm9 an9 cd9 ct9),sl9⟩) (c9:PySem.W.codeIn K cd9 "Source.take_name" = true) (k9:PySem.W.keepIn K (.ref f9)=true) (n9:PySem.W.isFn K (.ref f9)=true)
  (a10:PySem.W.findIn K (.ref C_Source) "sees" = some (some (.ref f10))) (l10:K.lookup f10=some ⟨oc10,od10,.func (PySem.W.fnOf "sees" "Source.sees" (Zw ZaN) (Ze ZaN) (Zg ZaN) .none kV10 dc10 pm10 an10 cd10 ct10),sl10⟩) (c10:PySem.W.codeIn K cd10 "Source.sees" = true) (k10:PySem.W.keepIn K (.ref f10)=true) (n10:PySem.W.isFn K (.ref f10)=true)
  (a11:PySem.W.findIn K (.ref C_Source) "skips" = some (some (.ref f11))) (l11:K.lookup f11=some ⟨oc11,od11,.func (PySem.W.fnOf "skips" "Source.skips" (Zw ZaE) (Ze ZaE) (Zg ZaE) .none kV11 dc11 pm11 an11 cd11 ct11),sl11⟩) (c11:PySem.W.codeIn K cd11 "Source.skips" = true) (k11:PySem.W.keepIn K (.ref f11)=true) (n11:PySem.W.isFn K (.ref f11)=true)
  (a12:PySem.W.findIn K (.ref C_Source) "must_skip" = some (some (.ref f12))) (l12:K.lookup f12=some ⟨oc12,od12,.func (PySem.W.fnOf "must_skip" "Source.must_skip" (Zw Zaa) (Ze Zaa) (Zg Zaa) .none kV12 dc12 pm12 an12 cd12 ct12),sl12⟩) (c12:PySem.W.codeIn K cd12 "Source.must_skip" = true) (k12:PySem.W.keepIn K (.ref f12)=true) (n12:PySem.W.isFn K (.ref f12)=true)
  (a13:PySem.W.nsIn K mainGlobals "is_tag" = some (some (.ref f13))) (l13:K.lookup f13=some ⟨oc13,od13,.func (PySem.W.fnOf "is_tag" "is_tag" (Zw Zcp) (Ze Zcp) (Zg Zcp) .none kV13 dc13 pm13 an13 cd13 ct13),sl13⟩) (c13:PySem.W.codeIn K cd13 "is_tag" = true) (k13:PySem.W.keepIn K (.ref f13)=true)
  (a14:PySem.W.findIn K (.ref C_Source) "take_inner" = some (some (.ref f14))) (l14:K.lookup f14=some ⟨oc14,od14,.func (PySem.W.fnOf "take_inner" "Source.take_inner" (Zw Z8) (Ze Z8) (Zg Z8) .none kV14 dc14 pm14 an14 cd14 ct14),sl14⟩) (c14:PySem.W.codeIn K cd14 "Source.take_inner" = true) (k14:PySem.W.keepIn K (.ref f14)=true) (n14:PySem.W.isFn K (.ref f14)=true)
  (a15:PySem.W.findIn K (.ref C_Source) "take_single" = some (some (.ref f15))) (l15:K.lookup f15=some ⟨oc15,od15,.func (PySem.W.fnOf "take_single" "Source.take_single" (Zw Z5) (Ze Z5) (Zg Z5) .none kV15 dc15 pm15 an15 cd15 ct15),sl15⟩) (c15:PySem.W.codeIn K cd15 "Source.take_single" = true) (k15:PySem.W.keepIn K (.ref f15)=true) (n15:PySem.W.isFn K (.ref f15)=true)
  (a16:PySem.W.findIn K (.ref C_Source) "take_marked" = some (some (.ref f16))) (l16:K.lookup f16=some ⟨oc16,od16,.func (PySem.W.fnOf "take_marked" "Source.take_marked" (Zw Z4) (Ze Z4) (Zg Z4) .none kV16 dc16 pm16 an16 cd16 ct16),sl16⟩) (c16:PySem.W.codeIn K cd16 "Source.take_marked" = true) (k16:PySem.W.keepIn K (.ref f16)=true) (n16:PySem.W.isFn K (.ref f16)=true)
  (a17:PySem.W.findIn K (.ref C_Source) "take_turn" = some (some (.ref f17))) (l17:K.lookup f17=some ⟨oc17,od17,.func (PySem.W.fnOf "take_turn" "Source.take_turn" (Zw Zac) (Ze Zac) (Zg Zac) .none kV17 dc17 pm17 an17 cd17 ct17),sl17⟩) (c17:PySem.W.codeIn K cd17 "Source.take_turn" = true) (k17:PySem.W.keepIn K (.ref f17)=true) (n17:PySem.W.isFn K (.ref f17)=true)
  (a18:PySem.W.findIn K (.ref C_Source) "take_expr" = some (some (.ref f18))) (l18:K.lookup f18=some ⟨oc18,od18,.func (PySem.W.fnOf "take_expr" "Source.take_expr" (Zw Zab) (Ze Zab) (Zg Zab) .none kV18 dc18 pm18 an18 cd18 ct18),sl18⟩) (c18:PySem.W.codeIn K cd18 "Source.take_expr" = true) (k18:PySem.W.keepIn K (.ref f18)=true) (n18:PySem.W.isFn K (.ref f18)=true)
  (a19:PySem.W.nsIn K mainGlobals "take_pair" = some (some (.ref f19))) (l19:K.lookup f19=some ⟨oc19,od19,.func (PySem.W.fnOf "take_pair" "take_pair" (Zw Zba) (Ze Zba) (Zg Zba) .none kV19 dc19 pm19 an19 cd19 ct19),sl19⟩) (c19:PySem.W.codeIn K cd19 "take_pair" = true) (k19:PySem.W.keepIn K (.ref f19)=true)
  (a20:PySem.W.nsIn K mainGlobals "parts_of" = some (some (.ref f20))) (l20:K.lookup f20=some ⟨oc20,od20,.func (PySem.W.fnOf "parts_of" "parts_of" (Zw Zbg) (Ze Zbg) (Zg Zbg) .none kV20 dc20 pm20 an20 cd20 ct20),sl20⟩) (c20:PySem.W.codeIn K cd20 "parts_of" = true) (k20:PySem.W.keepIn K (.ref f20)=true)
  (a21:PySem.W.nsIn K mainGlobals "shown_part" = some (some (.ref f21))) (l21:K.lookup f21=some ⟨oc21,od21,.func (PySem.W.fnOf "shown_part" "shown_part" (Zw Za1) (Ze Za1) (Zg Za1) .none kV21 dc21 pm21 an21 cd21 ct21),sl21⟩) (c21:PySem.W.codeIn K cd21 "shown_part" = true) (k21:PySem.W.keepIn K (.ref f21)=true)
  (a22:PySem.W.nsIn K mainGlobals "shown_expr" = some (some (.ref f22))) (l22:K.lookup f22=some ⟨oc22,od22,.func (PySem.W.fnOf "shown_expr" "shown_expr" (Zw ZaY) (Ze ZaY) (Zg ZaY) .none kV22 dc22 pm22 an22 cd22 ct22),sl22⟩) (c22:PySem.W.codeIn K cd22 "shown_expr" = true) (k22:PySem.W.keepIn K (.ref f22)=true)
  (a23:PySem.W.nsIn K mainGlobals "shown" = some (some (.ref f23))) (l23:K.lookup f23=some ⟨oc23,od23,.func (PySem.W.fnOf "shown" "shown" (Zw Zc7) (Ze Zc7) (Zg Zc7) .none kV23 dc23 pm23 an23 cd23 ct23),sl23⟩) (c23:PySem.W.codeIn K cd23 "shown" = true) (k23:PySem.W.keepIn K (.ref f23)=true)
  (a24:PySem.W.nsIn K mainGlobals "depth_of" = some (some (.ref f24))) (l24:K.lookup f24=some ⟨oc24,od24,.func (PySem.W.fnOf "depth_of" "depth_of" (Zw Zbh) (Ze Zbh) (Zg Zbh) .none kV24 dc24 pm24 an24 cd24 ct24),sl24⟩) (c24:PySem.W.codeIn K cd24 "depth_of" = true) (k24:PySem.W.keepIn K (.ref f24)=true)
  (a25:PySem.W.nsIn K mainGlobals "read_pairs" = some (some (.ref f25))) (l25:K.lookup f25=some ⟨oc25,od25,.func (PySem.W.fnOf "read_pairs" "read_pairs" (Zw Za2) (Ze Za2) (Zg Za2) .none kV25 dc25 pm25 an25 cd25 ct25),sl25⟩) (c25:PySem.W.codeIn K cd25 "read_pairs" = true) (k25:PySem.W.keepIn K (.ref f25)=true)
  (a26:PySem.W.findIn K (.ref X_TwiceNamed) "__init__" = some (some (.ref f26)))
  (l26:K.lookup f26=some ⟨oc26,od26,.func (PySem.W.fnOf "__init__" "TwiceNamed.__init__" (Zw ZZ) (Ze ZZ) (Zg ZZ) .none kV26 dc26 pm26 an26 cd26 ct26),sl26⟩) (c26:PySem.W.codeIn K cd26 "TwiceNamed.__init__" = true) (k26:PySem.W.keepIn K (.ref f26)=true) (n26:PySem.W.isFn K (.ref f26)=true)
  (a27:PySem.W.nsIn K mainGlobals "refuse_doubles" = some (some (.ref f27))) (l27:K.lookup f27=some ⟨oc27,od27,.func (PySem.W.fnOf "refuse_doubles" "refuse_doubles" (Zw Zae) (Ze Zae) (Zg Zae) .none kV27 dc27 pm27 an27 cd27 ct27),sl27⟩) (c27:PySem.W.codeIn K cd27 "refuse_doubles" = true) (k27:PySem.W.keepIn K (.ref f27)=true)
  (a28:PySem.W.nsIn K mainGlobals "names_in" = some (some (.ref f28))) (l28:K.lookup f28=some ⟨oc28,od28,.func (PySem.W.fnOf "names_in" "names_in" (Zw Zbi) (Ze Zbi) (Zg Zbi) .none kV28 dc28 pm28 an28 cd28 ct28),sl28⟩) (c28:PySem.W.codeIn K cd28 "names_in" = true) (k28:PySem.W.keepIn K (.ref f28)=true)
  (a29:PySem.W.findIn K (.ref X_NoName) "__init__" = some (some (.ref f29)))
  (l29:K.lookup f29=some ⟨oc29,od29,.func (PySem.W.fnOf "__init__" "NoName.__init__" (Zw Zaj) (Ze Zaj) (Zg Zaj) .none kV29 dc29 pm29 an29 cd29 ct29),sl29⟩) (c29:PySem.W.codeIn K cd29 "NoName.__init__" = true) (k29:PySem.W.keepIn K (.ref f29)=true) (n29:PySem.W.isFn K (.ref f29)=true)
  (a30:PySem.W.nsIn K mainGlobals "refuse_unnamed" = some (some (.ref f30))) (l30:K.lookup f30=some ⟨oc30,od30,.func (PySem.W.fnOf "refuse_unnamed" "refuse_unnamed" (Zw Zaf) (Ze Zaf) (Zg Zaf) .none kV30 dc30 pm30 an30 cd30 ct30),sl30⟩) (c30:PySem.W.codeIn K cd30 "refuse_unnamed" = true) (k30:PySem.W.keepIn K (.ref f30)=true)
  (a31:PySem.W.nsIn K mainGlobals "names_outside" = some (some (.ref f31))) (l31:K.lookup f31=some ⟨oc31,od31,.func (PySem.W.fnOf "names_outside" "names_outside" (Zw Zax) (Ze Zax) (Zg Zax) .none kV31 dc31 pm31 an31 cd31 ct31),sl31⟩) (c31:PySem.W.codeIn K cd31 "names_outside" = true) (k31:PySem.W.keepIn K (.ref f31)=true)
  (a32:PySem.W.nsIn K mainGlobals "ring_or_before" = some (some (.ref f32))) (l32:K.lookup f32=some ⟨oc32,od32,.func (PySem.W.fnOf "ring_or_before" "ring_or_before" (Zw Zag) (Ze Zag) (Zg Zag) .none kV32 dc32 pm32 an32 cd32 ct32),sl32⟩) (c32:PySem.W.codeIn K cd32 "ring_or_before" = true) (k32:PySem.W.keepIn K (.ref f32)=true)
  (a33:PySem.W.findIn K (.ref X_Ring) "__init__" = some (some (.ref f33)))
  (l33:K.lookup f33=some ⟨oc33,od33,.func (PySem.W.fnOf "__init__" "Ring.__init__" (Zw Zas) (Ze Zas) (Zg Zas) .none kV33 dc33 pm33 an33 cd33 ct33),sl33⟩) (c33:PySem.W.codeIn K cd33 "Ring.__init__" = true) (k33:PySem.W.keepIn K (.ref f33)=true) (n33:PySem.W.isFn K (.ref f33)=true)
  (a34:PySem.W.nsIn K mainGlobals "ring_from" = some (some (.ref f34))) (l34:K.lookup f34=some ⟨oc34,od34,.func (PySem.W.fnOf "ring_from" "ring_from" (Zw ZaX) (Ze ZaX) (Zg ZaX) .none kV34 dc34 pm34 an34 cd34 ct34),sl34⟩) (c34:PySem.W.codeIn K cd34 "ring_from" = true) (k34:PySem.W.keepIn K (.ref f34)=true)
  (a35:PySem.W.nsIn K mainGlobals "refuse_rings" = some (some (.ref f35))) (l35:K.lookup f35=some ⟨oc35,od35,.func (PySem.W.fnOf "refuse_rings" "refuse_rings" (Zw ZaF) (Ze ZaF) (Zg ZaF) .none kV35 dc35 pm35 an35 cd35 ct35),sl35⟩) (c35:PySem.W.codeIn K cd35 "refuse_rings" = true) (k35:PySem.W.keepIn K (.ref f35)=true)
  (a36:PySem.W.nsIn K mainGlobals "read" = some (some (.ref f36))) (l36:K.lookup f36=some ⟨oc36,od36,.func (PySem.W.fnOf "read" "read" (Zw Zed) (Ze Zed) (Zg Zed) .none kV36 dc36 pm36 an36 cd36 ct36),sl36⟩) (c36:PySem.W.codeIn K cd36 "read" = true) (k36:PySem.W.keepIn K (.ref f36)=true)
  (a37:PySem.W.nsIn K mainGlobals "_law_asked" = some (some (.ref f37))) (l37:K.lookup f37=some ⟨oc37,od37,.func (PySem.W.fnOf "_law_asked" "_law_asked" (Zw ZaT) (Ze ZaT) (Zg ZaT) .none kV37 dc37 pm37 an37 cd37 ct37),sl37⟩) (c37:PySem.W.codeIn K cd37 "_law_asked" = true) (k37:PySem.W.keepIn K (.ref f37)=true)
  (a38:PySem.W.nsIn K mainGlobals "_law_used" = some (some (.ref f38))) (l38:K.lookup f38=some ⟨oc38,od38,.func (PySem.W.fnOf "_law_used" "_law_used" (Zw ZaC) (Ze ZaC) (Zg ZaC) .none kV38 dc38 pm38 an38 cd38 ct38),sl38⟩) (c38:PySem.W.codeIn K cd38 "_law_used" = true) (k38:PySem.W.keepIn K (.ref f38)=true)
  (a39:PySem.W.nsIn K mainGlobals "_law_due" = some (some (.ref f39))) (l39:K.lookup f39=some ⟨oc39,od39,.func (PySem.W.fnOf "_law_due" "_law_due" (Zw Zay) (Ze Zay) (Zg Zay) .none kV39 dc39 pm39 an39 cd39 ct39),sl39⟩) (c39:PySem.W.codeIn K cd39 "_law_due" = true) (k39:PySem.W.keepIn K (.ref f39)=true)
  (a40:PySem.W.nsIn K mainGlobals "_law_is_ring" = some (some (.ref f40))) (l40:K.lookup f40=some ⟨oc40,od40,.func (PySem.W.fnOf "_law_is_ring" "_law_is_ring" (Zw ZaW) (Ze ZaW) (Zg ZaW) .none kV40 dc40 pm40 an40 cd40 ct40),sl40⟩) (c40:PySem.W.codeIn K cd40 "_law_is_ring" = true) (k40:PySem.W.keepIn K (.ref f40)=true)
  (a41:PySem.W.nsIn K mainGlobals "_law_alike" = some (some (.ref f41))) (l41:K.lookup f41=some ⟨oc41,od41,.func (PySem.W.fnOf "_law_alike" "_law_alike" (Zw ZbC) (Ze ZbC) (Zg ZbC) .none kV41 dc41 pm41 an41 cd41 ct41),sl41⟩) (c41:PySem.W.codeIn K cd41 "_law_alike" = true) (k41:PySem.W.keepIn K (.ref f41)=true)
  (a42:PySem.W.nsIn K mainGlobals "_law_holds" = some (some (.ref f42))) (l42:K.lookup f42=some ⟨oc42,od42,.func (PySem.W.fnOf "_law_holds" "_law_holds" (Zw ZaD) (Ze ZaD) (Zg ZaD) .none kV42 dc42 pm42 an42 cd42 ct42),sl42⟩) (c42:PySem.W.codeIn K cd42 "_law_holds" = true) (k42:PySem.W.keepIn K (.ref f42)=true)
  (a43:PySem.W.nsIn K mainGlobals "law" = some (some (.ref f43))) (l43:K.lookup f43=some ⟨oc43,od43,.func (PySem.W.fnOf "law" "law" (Zw Zbp) (Ze Zbp) (Zg Zbp) .none kV43 dc43 pm43 an43 cd43 ct43),sl43⟩) (c43:PySem.W.codeIn K cd43 "law" = true) (k43:PySem.W.keepIn K (.ref f43)=true)
  {tk0 tk1 tk2 tk3 tk4:Tok} (y0:PySem.W.nsIn K mainGlobals "DEEPEST" = some (some (.int 12 tk0))) (y1:PySem.W.nsIn K mainGlobals "LONGEST_NAME" = some (some (.int 8 tk1))) (y2:PySem.W.nsIn K mainGlobals "LONGEST_TAG" = some (some (.int 8 tk2))) (y3:PySem.W.nsIn K mainGlobals "MOST_PAIRS" = some (some (.int 8 tk3))) (y4:PySem.W.nsIn K mainGlobals "MOST_SIGNS" = some (some (.int 400 tk4)))
  {A_NIL A_MARKS A_BRACED B1 B2 B3 B4 B5:Addr}
  {dd0:Option Addr} {tt0_0:Tok} {nn0:Nat} {ss0:Array (Option Value)}
  {dd1:Option Addr} {tt1_0 tt1_1:Tok} {nn1:Nat} {ss1:Array (Option Value)}
  {dd2:Option Addr} {tt2_0:Tok} {nn2:Nat} {ss2:Array (Option Value)}
  {dd3:Option Addr} {tt3_0 tt3_1 tt3_2 tt3_3 tt3_4:Tok} {nn3:Nat} {ss3:Array (Option Value)}
  {dd4:Option Addr} {tt4_0 tt4_1 tt4_2 tt4_3 tt4_4:Tok} {nn4:Nat} {ss4:Array (Option Value)}
  {dd5:Option Addr} {tt5_0 tt5_1 tt5_2 tt5_3 tt5_4:Tok} {nn5:Nat} {ss5:Array (Option Value)}
  (yNIL:PySem.W.nsIn K mainGlobals "NIL" = some (some (.ref A_NIL))) (yMARKS:PySem.W.nsIn K mainGlobals "MARKS" = some (some (.ref A_MARKS))) (yBRACED:PySem.W.nsIn K mainGlobals "BRACED" = some (some (.ref A_BRACED)))
  {hM0 hM1 hM2 hB0 hB1 hB2 hB3 hB4:Int} {kM0 kM1 kM2 uM0 uM1 uM2 kB0 kB1 kB2 kB3 kB4:Tok} {eM eB:Nat} {slM slB:Array (Option Value)}
  (lkM:K.lookup A_MARKS=some ⟨.type "dict",none,.dict #[{ hash:=hM0,key:=.str "many" kM0,val:=.str "*" uM0 },{ hash:=hM1,key:=.str "some" kM1,val:=.str "+" uM1 },{ hash:=hM2,key:=.str "maybe" kM2,val:=.str "?" uM2 }] eM,slM⟩)
  (lkB:K.lookup A_BRACED=some ⟨.type "dict",none,.dict #[{ hash:=hB0,key:=.str "turn" kB0,val:=.ref B1 },{ hash:=hB1,key:=.str "or" kB1,val:=.ref B2 },{ hash:=hB2,key:=.str "many" kB2,val:=.ref B3 },{ hash:=hB3,key:=.str "some" kB3,val:=.ref B4 },{ hash:=hB4,key:=.str "maybe" kB4,val:=.ref B5 }] eB,slB⟩)
  (lk0:K.lookup A_NIL=some ⟨.type "tuple",dd0,.seq #[.str "nil" tt0_0] nn0,ss0⟩)
  (lk1:K.lookup B1=some ⟨.type "tuple",dd1,.seq #[.str "turn" tt1_0,.str "or" tt1_1] nn1,ss1⟩)
  (lk2:K.lookup B2=some ⟨.type "tuple",dd2,.seq #[.str "or" tt2_0] nn2,ss2⟩)
  (lk3:K.lookup B3=some ⟨.type "tuple",dd3,.seq #[.str "turn" tt3_0,.str "or" tt3_1,.str "many" tt3_2,.str "some" tt3_3,.str "maybe" tt3_4] nn3,ss3⟩)
  (lk4:K.lookup B4=some ⟨.type "tuple",dd4,.seq #[.str "turn" tt4_0,.str "or" tt4_1,.str "many" tt4_2,.str "some" tt4_3,.str "maybe" tt4_4] nn4,ss4⟩)
  (lk5:K.lookup B5=some ⟨.type "tuple",dd5,.seq #[.str "turn" tt5_0,.str "or" tt5_1,.str "many" tt5_2,.str "some" tt5_3,.str "maybe" tt5_4] nn5,ss5⟩)
  (ysm:(A_MARKS == sysModules)=false)
  (z0:PySem.W.nsIn K mainGlobals "ValueError" = some none) (z1:PySem.W.nsIn K mainGlobals "all" = some none) (z2:PySem.W.nsIn K mainGlobals "any" = some none) (z3:PySem.W.nsIn K mainGlobals "dict" = some none) (z4:PySem.W.nsIn K mainGlobals "int" = some none) (z5:PySem.W.nsIn K mainGlobals "isinstance" = some none) (z6:PySem.W.nsIn K mainGlobals "len" = some none) (z7:PySem.W.nsIn K mainGlobals "list" = some none) (z8:PySem.W.nsIn K mainGlobals "max" = some none) (z9:PySem.W.nsIn K mainGlobals "range" = some none) (z10:PySem.W.nsIn K mainGlobals "str" = some none) (z11:PySem.W.nsIn K mainGlobals "tuple" = some none) :
  ∃fd:FuncData,(∀(s:Shared)(v:Value),BindsTo s fd ⟨[v],[]⟩ [("_law_script",v)])/\∀base:Heap,K.In base->base.Ns mainGlobals mg->FnOk l.prog w K mg base CX0 70 fa fd ["_law_script"] (Fg.Zjl K):=by
 have e:=hfa.symm.trans (PySem.W.mg_of X G a43);cases e;have B:∀x∈Zbv,mg x=none:=List.forall_mem_cons.mpr ⟨PySem.W.mg_none_of X G z0,List.forall_mem_cons.mpr ⟨PySem.W.mg_none_of X G z1,List.forall_mem_cons.mpr ⟨PySem.W.mg_none_of X G z2,List.forall_mem_cons.mpr ⟨PySem.W.mg_none_of X G z3,List.forall_mem_cons.mpr ⟨PySem.W.mg_none_of X G z4,List.forall_mem_cons.mpr ⟨PySem.W.mg_none_of X G z5,List.forall_mem_cons.mpr ⟨PySem.W.mg_none_of X G z6,List.forall_mem_cons.mpr ⟨PySem.W.mg_none_of X G z7,List.forall_mem_cons.mpr ⟨PySem.W.mg_none_of X G z8,List.forall_mem_cons.mpr ⟨PySem.W.mg_none_of X G z9,List.forall_mem_cons.mpr ⟨PySem.W.mg_none_of X G z10,List.forall_mem_cons.mpr ⟨PySem.W.mg_none_of X G z11,List.forall_mem_nil _⟩⟩⟩⟩⟩⟩⟩⟩⟩⟩⟩⟩;have Cc_DEEPEST:∃t:Tok,mg "DEEPEST" = some (.int 12 t):=⟨_,PySem.W.mg_of X G y0⟩;have Cc_LONGEST_NAME:∃t:Tok,mg "LONGEST_NAME" = some (.int 8 t):=⟨_,PySem.W.mg_of X G y1⟩;have Cc_LONGEST_TAG:∃t:Tok,mg "LONGEST_TAG" = some (.int 8 t):=⟨_,PySem.W.mg_of X G y2⟩;have Cc_MOST_PAIRS:∃t:Tok,mg "MOST_PAIRS" = some (.int 8 t):=⟨_,PySem.W.mg_of X G y3⟩;have Cc_MOST_SIGNS:∃t:Tok,mg "MOST_SIGNS" = some (.int 400 t):=⟨_,PySem.W.mg_of X G y4⟩;have F1:=ZW (st:=Zcq) l1 c1 k1;have b1:=F1.binds (ps:=["_law_script","_law_state"]) fun _ _ _ _ _ _ us hl=>by obtain⟨_,_,rfl⟩:=ZdX hl;rfl
 have F2:=ZW (st:=Zcn) l2 c2 k2;have b2:=F2.binds (ps:=["_law_cell","_law_letters"]) fun _ _ _ _ _ _ us hl=>by obtain⟨_,_,rfl⟩:=ZdX hl;rfl
 have F3:=ZW (st:=Zcj) l3 c3 k3;have b3:=F3.binds (ps:=["_law_cell","_law_names"]) fun _ _ _ _ _ _ us hl=>by obtain⟨_,_,rfl⟩:=ZdX hl;rfl
 have F4:=ZW (st:=ZV) l4 c4 k4;have b4:=F4.binds (ps:=["_law_script","_law_state","_law_room","_law_names"]) fun _ _ _ _ _ _ us hl=>by obtain⟨_,_,_,_,rfl⟩:=ZmI hl;rfl
 have F5:=ZW (st:=ZS) l5 c5 k5;have b5:=F5.binds (ps:=["_law_script","_law_state"]) fun _ _ _ _ _ _ us hl=>by obtain⟨_,_,rfl⟩:=ZdX hl;rfl
 have F6:=ZW (st:=Zak) l6 c6 k6;have b6:=F6.binds (ps:=["self","text"]) fun _ _ _ _ _ _ us hl=>by obtain⟨_,_,rfl⟩:=ZdX hl;rfl
 have F7:=ZW (st:=Zaw) l7 c7 k7;have b7:=F7.binds (ps:=["self"]) fun _ _ _ _ _ _ us hl=>by obtain⟨_,rfl⟩:=ZeH hl;rfl
 have F8:=ZW (st:=Z0) l8 c8 k8;have b8:=F8.binds (ps:=["self","first","last"]) fun _ _ _ _ _ _ us hl=>by obtain⟨_,_,_,rfl⟩:=Zmt hl;rfl
 have F9:=ZW (st:=Zad) l9 c9 k9;have b9:=F9.binds (ps:=["self"]) fun _ _ _ _ _ _ us hl=>by obtain⟨_,rfl⟩:=ZeH hl;rfl
 have F10:=ZW (st:=ZaN) l10 c10 k10;have b10:=F10.binds (ps:=["self","piece"]) fun _ _ _ _ _ _ us hl=>by obtain⟨_,_,rfl⟩:=ZdX hl;rfl
 have F11:=ZW (st:=ZaE) l11 c11 k11;have b11:=F11.binds (ps:=["self","piece"]) fun _ _ _ _ _ _ us hl=>by obtain⟨_,_,rfl⟩:=ZdX hl;rfl
 have F12:=ZW (st:=Zaa) l12 c12 k12;have b12:=F12.binds (ps:=["self","piece"]) fun _ _ _ _ _ _ us hl=>by obtain⟨_,_,rfl⟩:=ZdX hl;rfl
 have F13:=ZW (st:=Zcp) l13 c13 k13;have b13:=F13.binds (ps:=["text"]) fun _ _ _ _ _ _ us hl=>by obtain⟨_,rfl⟩:=ZeH hl;rfl
 have F14:=ZW (st:=Z8) l14 c14 k14;have b14:=F14.binds (ps:=["self","levels"]) fun _ _ _ _ _ _ us hl=>by obtain⟨_,_,rfl⟩:=ZdX hl;rfl
 have F15:=ZW (st:=Z5) l15 c15 k15;have b15:=F15.binds (ps:=["self","levels"]) fun _ _ _ _ _ _ us hl=>by obtain⟨_,_,rfl⟩:=ZdX hl;rfl
 have F16:=ZW (st:=Z4) l16 c16 k16;have b16:=F16.binds (ps:=["self","levels"]) fun _ _ _ _ _ _ us hl=>by obtain⟨_,_,rfl⟩:=ZdX hl;rfl
 have F17:=ZW (st:=Zac) l17 c17 k17;have b17:=F17.binds (ps:=["self","levels"]) fun _ _ _ _ _ _ us hl=>by obtain⟨_,_,rfl⟩:=ZdX hl;rfl
 have F18:=ZW (st:=Zab) l18 c18 k18;have b18:=F18.binds (ps:=["self","levels"]) fun _ _ _ _ _ _ us hl=>by obtain⟨_,_,rfl⟩:=ZdX hl;rfl
 have F19:=ZW (st:=Zba) l19 c19 k19;have b19:=F19.binds (ps:=["source"]) fun _ _ _ _ _ _ us hl=>by obtain⟨_,rfl⟩:=ZeH hl;rfl
 have F20:=ZW (st:=Zbg) l20 c20 k20;have b20:=F20.binds (ps:=["expr"]) fun _ _ _ _ _ _ us hl=>by obtain⟨_,rfl⟩:=ZeH hl;rfl
 have F21:=ZW (st:=Za1) l21 c21 k21;have b21:=F21.binds (ps:=["around","part"]) fun _ _ _ _ _ _ us hl=>by obtain⟨_,_,rfl⟩:=ZdX hl;rfl
 have F22:=ZW (st:=ZaY) l22 c22 k22;have b22:=F22.binds (ps:=["expr"]) fun _ _ _ _ _ _ us hl=>by obtain⟨_,rfl⟩:=ZeH hl;rfl
 have F23:=ZW (st:=Zc7) l23 c23 k23;have b23:=F23.binds (ps:=["book"]) fun _ _ _ _ _ _ us hl=>by obtain⟨_,rfl⟩:=ZeH hl;rfl
 have F24:=ZW (st:=Zbh) l24 c24 k24;have b24:=F24.binds (ps:=["expr"]) fun _ _ _ _ _ _ us hl=>by obtain⟨_,rfl⟩:=ZeH hl;rfl
 have F25:=ZW (st:=Za2) l25 c25 k25;have b25:=F25.binds (ps:=["text"]) fun _ _ _ _ _ _ us hl=>by obtain⟨_,rfl⟩:=ZeH hl;rfl
 have F26:=ZW (st:=ZZ) l26 c26 k26;have b26:=F26.binds (ps:=["self","name"]) fun _ _ _ _ _ _ us hl=>by obtain⟨_,_,rfl⟩:=ZdX hl;rfl
 have F27:=ZW (st:=Zae) l27 c27 k27;have b27:=F27.binds (ps:=["book"]) fun _ _ _ _ _ _ us hl=>by obtain⟨_,rfl⟩:=ZeH hl;rfl
 have F28:=ZW (st:=Zbi) l28 c28 k28;have b28:=F28.binds (ps:=["expr"]) fun _ _ _ _ _ _ us hl=>by obtain⟨_,rfl⟩:=ZeH hl;rfl
 have F29:=ZW (st:=Zaj) l29 c29 k29;have b29:=F29.binds (ps:=["self","name"]) fun _ _ _ _ _ _ us hl=>by obtain⟨_,_,rfl⟩:=ZdX hl;rfl
 have F30:=ZW (st:=Zaf) l30 c30 k30;have b30:=F30.binds (ps:=["book"]) fun _ _ _ _ _ _ us hl=>by obtain⟨_,rfl⟩:=ZeH hl;rfl
 have F31:=ZW (st:=Zax) l31 c31 k31;have b31:=F31.binds (ps:=["expr"]) fun _ _ _ _ _ _ us hl=>by obtain⟨_,rfl⟩:=ZeH hl;rfl
 have F32:=ZW (st:=Zag) l32 c32 k32;have b32:=F32.binds (ps:=["uses","names"]) fun _ _ _ _ _ _ us hl=>by obtain⟨_,_,rfl⟩:=ZdX hl;rfl
 have F33:=ZW (st:=Zas) l33 c33 k33;have b33:=F33.binds (ps:=["self","names"]) fun _ _ _ _ _ _ us hl=>by obtain⟨_,_,rfl⟩:=ZdX hl;rfl
 have F34:=ZW (st:=ZaX) l34 c34 k34;have b34:=F34.binds (ps:=["uses","names"]) fun _ _ _ _ _ _ us hl=>by obtain⟨_,_,rfl⟩:=ZdX hl;rfl
 have F35:=ZW (st:=ZaF) l35 c35 k35;have b35:=F35.binds (ps:=["book"]) fun _ _ _ _ _ _ us hl=>by obtain⟨_,rfl⟩:=ZeH hl;rfl
 have F36:=ZW (st:=Zed) l36 c36 k36;have b36:=F36.binds (ps:=["text"]) fun _ _ _ _ _ _ us hl=>by obtain⟨_,rfl⟩:=ZeH hl;rfl
 have F37:=ZW (st:=ZaT) l37 c37 k37;have b37:=F37.binds (ps:=["_law_text"]) fun _ _ _ _ _ _ us hl=>by obtain⟨_,rfl⟩:=ZeH hl;rfl
 have F38:=ZW (st:=ZaC) l38 c38 k38;have b38:=F38.binds (ps:=["_law_expr","_law_outside"]) fun _ _ _ _ _ _ us hl=>by obtain⟨_,_,rfl⟩:=ZdX hl;rfl
 have F39:=ZW (st:=Zay) l39 c39 k39;have b39:=F39.binds (ps:=["_law_pairs_here"]) fun _ _ _ _ _ _ us hl=>by obtain⟨_,rfl⟩:=ZeH hl;rfl
 have F40:=ZW (st:=ZaW) l40 c40 k40;have b40:=F40.binds (ps:=["_law_told","_law_after"]) fun _ _ _ _ _ _ us hl=>by obtain⟨_,_,rfl⟩:=ZdX hl;rfl
 have F41:=ZW (st:=ZbC) l41 c41 k41;have b41:=F41.binds (ps:=["_law_told","_law_due_here"]) fun _ _ _ _ _ _ us hl=>by obtain⟨_,_,rfl⟩:=ZdX hl;rfl
 have F42:=ZW (st:=ZaD) l42 c42 k42;have b42:=F42.binds (ps:=["_law_pairs_here"]) fun _ _ _ _ _ _ us hl=>by obtain⟨_,rfl⟩:=ZeH hl;rfl
 have F43:=ZW (st:=Zbp) l43 c43 k43;refine⟨PySem.W.fnOf "law" "law" (Zw Zbp) (Ze Zbp) (Zg Zbp) .none kV43 dc43 pm43 an43 cd43 ct43,fun s v=>.of_eq rfl,fun base _ _=>?_⟩;have xc:XC K mg X_GroveError X_NoBook X_TwiceNamed X_NoName X_Ring:=⟨PySem.W.mg_of X G xn_GroveError,PySem.W.mg_of X G xn_NoBook,PySem.W.mg_of X G xn_TwiceNamed,PySem.W.mg_of X G xn_NoName,PySem.W.mg_of X G xn_Ring,⟨xb1,xb2,xb3⟩,xb4,xb5,⟨d1_GroveError,d2_GroveError,d3_GroveError⟩,⟨d1_NoBook,d2_NoBook,d3_NoBook⟩,⟨d1_TwiceNamed,d2_TwiceNamed,d3_TwiceNamed⟩,⟨d1_NoName,d2_NoName,d3_NoName⟩,⟨d1_Ring,d2_Ring,d3_Ring⟩,⟨⟨_,_,_,_,_,_,_,_,_,_,_,_,_,_,_,xl_TwiceNamed⟩,⟨⟨_,_,_,_,_,_,_,_,_,xg1,xg2,xg3,xg4⟩⟩,xc_TwiceNamed,xt_TwiceNamed,xk_TwiceNamed⟩,⟨f1_TwiceNamed_name,f2_TwiceNamed_name,f3_TwiceNamed_name,f4_TwiceNamed_name,f5_TwiceNamed_name,d2_TwiceNamed⟩,xv_TwiceNamed,xe_TwiceNamed,⟨o1_TwiceNamed_NoBook,o2_TwiceNamed_NoBook,o3_TwiceNamed_NoBook,o4_TwiceNamed_NoBook,o5_TwiceNamed_NoBook⟩,o6_TwiceNamed_NoBook,⟨o1_TwiceNamed_NoName,o2_TwiceNamed_NoName,o3_TwiceNamed_NoName,o4_TwiceNamed_NoName,o5_TwiceNamed_NoName⟩,o6_TwiceNamed_NoName,⟨o1_TwiceNamed_Ring,o2_TwiceNamed_Ring,o3_TwiceNamed_Ring,o4_TwiceNamed_Ring,o5_TwiceNamed_Ring⟩,o6_TwiceNamed_Ring,m_TwiceNamed_GroveError,m_TwiceNamed_NoBook,m_TwiceNamed_TwiceNamed,m_TwiceNamed_NoName,m_TwiceNamed_Ring,⟨⟨_,_,_,_,_,_,_,_,_,_,_,_,_,_,_,xl_NoName⟩,⟨⟨_,_,_,_,_,_,_,_,_,xg1,xg2,xg3,xg4⟩⟩,xc_NoName,xt_NoName,xk_NoName⟩,⟨f1_NoName_name,f2_NoName_name,f3_NoName_name,f4_NoName_name,f5_NoName_name,d2_NoName⟩,xv_NoName,xe_NoName,⟨o1_NoName_NoBook,o2_NoName_NoBook,o3_NoName_NoBook,o4_NoName_NoBook,o5_NoName_NoBook⟩,o6_NoName_NoBook,⟨o1_NoName_TwiceNamed,o2_NoName_TwiceNamed,o3_NoName_TwiceNamed,o4_NoName_TwiceNamed,o5_NoName_TwiceNamed⟩,o6_NoName_TwiceNamed,⟨o1_NoName_Ring,o2_NoName_Ring,o3_NoName_Ring,o4_NoName_Ring,o5_NoName_Ring⟩,o6_NoName_Ring,m_NoName_GroveError,m_NoName_NoBook,m_NoName_TwiceNamed,m_NoName_NoName,m_NoName_Ring,⟨⟨_,_,_,_,_,_,_,_,_,_,_,_,_,_,_,xl_Ring⟩,⟨⟨_,_,_,_,_,_,_,_,_,xg1,xg2,xg3,xg4⟩⟩,xc_Ring,xt_Ring,xk_Ring⟩,⟨f1_Ring_names,f2_Ring_names,f3_Ring_names,f4_Ring_names,f5_Ring_names,d2_Ring⟩,xv_Ring,xe_Ring,⟨o1_Ring_NoBook,o2_Ring_NoBook,o3_Ring_NoBook,o4_Ring_NoBook,o5_Ring_NoBook⟩,o6_Ring_NoBook,⟨o1_Ring_TwiceNamed,o2_Ring_TwiceNamed,o3_Ring_TwiceNamed,o4_Ring_TwiceNamed,o5_Ring_TwiceNamed⟩,o6_Ring_TwiceNamed,⟨o1_Ring_NoName,o2_Ring_NoName,o3_Ring_NoName,o4_Ring_NoName,o5_Ring_NoName⟩,o6_Ring_NoName,m_Ring_GroveError,m_Ring_NoBook,m_Ring_TwiceNamed,m_Ring_NoName,m_Ring_Ring⟩;have C:=K24.Zmo (PySem.W.mg_of X G yNIL) (PySem.W.mg_of X G yMARKS) (PySem.W.mg_of X G yBRACED) lkM lkB lk0 lk1 lk2 lk3 lk4 lk5;have marksD:KTab K A_MARKS K24.mks:=⟨_,_,_,lkM,.cons rfl ⟨_,rfl⟩ (.cons rfl ⟨_,rfl⟩ (.cons rfl ⟨_,rfl⟩ .nil))⟩;have c_Source:K24.SrC K C_Source:=⟨⟨cp1,ch1,cq1,cs1⟩,cx1_0,cx1_1⟩;have g_l_next:Has l.prog w K mg base "_law_next" ["_law_script","_law_state"] 1 (K24.ZgY K):=⟨⟨f1,_,Zi5 B  F1,b1,k1,PySem.W.mg_of X G a1⟩⟩;have g_l_word:Has l.prog w K mg base "_law_word" ["_law_cell","_law_letters"] 1 (K24.Zlz):=⟨⟨f2,_,ZiC B  F2,b2,k2,PySem.W.mg_of X G a2⟩⟩;have g_l_leaf:Has l.prog w K mg base "_law_leaf" ["_law_cell","_law_names"] 2 (K24.ZgD):=⟨⟨f3,_,ZhM B g_l_word F3,b3,k3,PySem.W.mg_of X G a3⟩⟩;have r_l_made:∀n:Nat,Has l.prog w K mg base "_law_made" ["_law_script","_law_state","_law_room","_law_names"] (n+3) (K24.Zgq K n):=by
  intro n
  induction n with
  | zero=>exact⟨⟨f4,_,FnOk.none (fun vs H Q E z=>by obtain⟨a,ns,st,i,lf,room,nh,ot,al,_,_,_,h1,h2,_⟩:=z;lia),b4,k4,PySem.W.mg_of X G a4⟩⟩
  | succ n ih=>exact⟨⟨f4,_,Zi4 n B g_l_next g_l_leaf ih g_l_word F4,b4,k4,PySem.W.mg_of X G a4⟩⟩
 have g_l_made:=r_l_made 9;have g_l_pairs:Has l.prog w K mg base "_law_pairs" ["_law_script","_law_state"] 13 (K24.ZfS K):=⟨⟨f5,_,Zht B g_l_next g_l_word g_l_made F5,b5,k5,PySem.W.mg_of X G a5⟩⟩;have g_Source:HasC l.prog w K mg base C_Source "Source" ["self","text"] 1 (K24.Zgh C_Source):=⟨⟨f6,_,Zc2 B c_Source  F6,b6,⟨cm1,a6,n6,ck1⟩,PySem.W.mg_of X G cn1⟩⟩;have g_Source_at_end:HasM l.prog w K mg base C_Source "at_end" ["self"] 1 (K24.ZgZ C_Source):=⟨⟨f7,_,Zdo B c_Source  F7,b7,⟨a7,n7,k7⟩⟩⟩;have g_Source_take_letters:HasM l.prog w K mg base C_Source "take_letters" ["self","first","last"] 2 (K24.ZcW C_Source):=⟨⟨f8,_,Zb1 B c_Source g_Source_at_end F8,b8,⟨a8,n8,k8⟩⟩⟩
 have g_Source_take_name:HasM l.prog w K mg base C_Source "take_name" ["self"] 3 (K24.ZeX C_Source):=⟨⟨f9,_,ZcF B Cc_LONGEST_NAME c_Source g_Source_take_letters F9,b9,⟨a9,n9,k9⟩⟩⟩;have g_Source_sees:HasM l.prog w K mg base C_Source "sees" ["self","piece"] 1 (K24.ZgR C_Source):=⟨⟨f10,_,Zd5 B c_Source  F10,b10,⟨a10,n10,k10⟩⟩⟩;have g_Source_skips:HasM l.prog w K mg base C_Source "skips" ["self","piece"] 2 (K24.ZbP C_Source):=⟨⟨f11,_,ZdP B c_Source g_Source_sees F11,b11,⟨a11,n11,k11⟩⟩⟩;have g_Source_must_skip:HasM l.prog w K mg base C_Source "must_skip" ["self","piece"] 3 (K24.Ze4 C_Source):=⟨⟨f12,_,ZcA B c_Source g_Source_skips F12,b12,⟨a12,n12,k12⟩⟩⟩;have g_is_tag:Has l.prog w K mg base "is_tag" ["text"] 1 (Fg.Zgl):=⟨⟨f13,_,ZiK B Cc_LONGEST_TAG  F13,b13,k13,PySem.W.mg_of X G a13⟩⟩;have rt:∀L:Nat,HasM l.prog w K mg base C_Source "take_expr" ["self","levels"] (5*L+4) (K24.ZdH K C_Source L):=by
  intro L
  induction L with
  | zero=>exact⟨⟨f18,_,FnOk.none (fun vs H Q E z=>by obtain⟨a,dx,T,n,e,r,_,_,_,_,_,_,hd,_⟩:=z;exact absurd hd (Nat.not_lt_zero _)),b18,⟨a18,n18,k18⟩⟩⟩
  | succ L ih =>
   have h1:HasM l.prog w K mg base C_Source "take_inner" ["self","levels"] (5*L+5) (K24.ZhV K C_Source (L+1)):=⟨⟨f14,_,Zcs L B C.nil C.nilT c_Source g_Source_skips ih g_Source_must_skip F14,b14,⟨a14,n14,k14⟩⟩⟩;have h2:HasM l.prog w K mg base C_Source "take_single" ["self","levels"] (5*L+6) (K24.ZfW K C_Source (L+1)):=⟨⟨f15,_,Zb7 L B C.nil C.nilT c_Source g_Source_skips ih g_Source_must_skip g_Source_take_letters g_Source_take_name g_is_tag h1 F15,b15,⟨a15,n15,k15⟩⟩⟩;have h3:HasM l.prog w K mg base C_Source "take_marked" ["self","levels"] (5*L+7) (K24.Zgf K C_Source (L+1)):=⟨⟨f16,_,Zcb L B C.marks marksD ysm c_Source h2 g_Source_skips F16,b16,⟨a16,n16,k16⟩⟩⟩;have h4:HasM l.prog w K mg base C_Source "take_turn" ["self","levels"] (5*L+8) (K24.ZfN K C_Source (L+1)):=⟨⟨f17,_,ZcD L B c_Source h3 g_Source_sees g_Source_skips F17,b17,⟨a17,n17,k17⟩⟩⟩;exact⟨⟨f18,_,ZcB L B c_Source h4 g_Source_skips F18,b18,⟨a18,n18,k18⟩⟩⟩
 have g_Source_take_expr:=rt 12;have g_take_pair:Has l.prog w K mg base "take_pair" ["source"] 65 (K24.Zh3 K C_Source):=⟨⟨f19,_,Zff B Cc_DEEPEST c_Source g_Source_take_name g_Source_must_skip g_Source_take_expr F19,b19,k19,PySem.W.mg_of X G a19⟩⟩;have g_parts_of:Has l.prog w K mg base "parts_of" ["expr"] 1 (K24.Zbj K):=⟨⟨f20,_,Zf2 B  F20,b20,k20,PySem.W.mg_of X G a20⟩⟩;have rs:∀d:Nat,Has l.prog w K mg base "shown_expr" ["expr"] (2*d+1) (K24.ZcC K d)/\Has l.prog w K mg base "shown_part" ["around","part"] (2*d+2) (K24.Zf3 K d):=by
  intro d
  induction d with
  | zero =>
   have h0:Has l.prog w K mg base "shown_expr" ["expr"] (2*0+1) (K24.ZcC K 0):=⟨⟨f22,_,FnOk.none (fun vs H Q E z=>by obtain⟨p,e,_,_,hd,_⟩:=z;exact absurd hd (Nat.not_lt_zero _)),b22,k22,PySem.W.mg_of X G a22⟩⟩;exact⟨h0,⟨⟨f21,_,ZcZ 0 A_NIL A_MARKS A_BRACED B C h0 F21,b21,k21,PySem.W.mg_of X G a21⟩⟩⟩
  | succ d ih =>
   have h1:Has l.prog w K mg base "shown_expr" ["expr"] (2*(d+1)+1) (K24.ZcC K (d+1)):=⟨⟨f22,_,Zez d A_NIL A_MARKS A_BRACED B C ih.1 g_parts_of ih.2 F22,b22,k22,PySem.W.mg_of X G a22⟩⟩;exact⟨h1,⟨⟨f21,_,ZcZ (d+1) A_NIL A_MARKS A_BRACED B C h1 F21,b21,k21,PySem.W.mg_of X G a21⟩⟩⟩
 have g_shown_expr:=(rs 13).1;have g_shown:Has l.prog w K mg base "shown" ["book"] 28 (K24.ZfX K):=⟨⟨f23,_,Zjx B g_shown_expr F23,b23,k23,PySem.W.mg_of X G a23⟩⟩;have r_depth_of:∀d:Nat,Has l.prog w K mg base "depth_of" ["expr"] (d+1) (K24.Zjf K d):=by
  intro d
  induction d with
  | zero=>exact⟨⟨f24,_,FnOk.none (fun vs H Q E z=>by obtain⟨p,e,_,_,hd,_⟩:=z;exact absurd hd (Nat.not_lt_zero _)),b24,k24,PySem.W.mg_of X G a24⟩⟩
  | succ d ih=>exact⟨⟨f24,_,Zgb d B g_parts_of ih F24,b24,k24,PySem.W.mg_of X G a24⟩⟩
 have g_depth_of:=r_depth_of 13;have g_read_pairs:Has l.prog w K mg base "read_pairs" ["text"] 66 (K24.Zf0 K):=⟨⟨f25,_,ZeC B Cc_MOST_SIGNS Cc_MOST_PAIRS Cc_DEEPEST c_Source g_Source g_take_pair g_Source_skips g_shown g_Source_at_end g_depth_of F25,b25,k25,PySem.W.mg_of X G a25⟩⟩;have x_TwiceNamed:XMk l.prog w K mg base X_TwiceNamed X_GroveError "TwiceNamed" ["self","name"] 1 (K24.ZcH X_TwiceNamed):=⟨⟨f26,_,Zb2 B xc  F26,b26,a26,n26⟩,xc.top_TwiceNamed,xc.n_TwiceNamed⟩;have g_refuse_doubles:HasX l.prog w K mg base "refuse_doubles" ["book"] 3 (K24.Zin K X_TwiceNamed):=⟨⟨f27,_,Zdg B xc x_TwiceNamed F27,b27,k27,PySem.W.mg_of X G a27⟩⟩;have r_names_in:∀d:Nat,Has l.prog w K mg base "names_in" ["expr"] (d+1) (K24.ZjQ K true d):=by
  intro d
  induction d with
  | zero=>exact⟨⟨f28,_,FnOk.none (fun vs H Q E z=>by obtain⟨p,e,_,_,hd,_⟩:=z;exact absurd hd (Nat.not_lt_zero _)),b28,k28,PySem.W.mg_of X G a28⟩⟩
  | succ d ih=>exact⟨⟨f28,_,Zge d B g_parts_of ih F28,b28,k28,PySem.W.mg_of X G a28⟩⟩
 have g_names_in:=r_names_in 13;have x_NoName:XMk l.prog w K mg base X_NoName X_GroveError "NoName" ["self","name"] 1 (K24.ZcH X_NoName):=⟨⟨f29,_,ZcP B xc  F29,b29,a29,n29⟩,xc.top_NoName,xc.n_NoName⟩;have g_refuse_unnamed:HasX l.prog w K mg base "refuse_unnamed" ["book"] 15 (K24.ZiV K X_NoName):=⟨⟨f30,_,Zda B xc g_names_in x_NoName F30,b30,k30,PySem.W.mg_of X G a30⟩⟩;have r_names_outside:∀d:Nat,Has l.prog w K mg base "names_outside" ["expr"] (d+1) (K24.ZjQ K false d):=by
  intro d
  induction d with
  | zero=>exact⟨⟨f31,_,FnOk.none (fun vs H Q E z=>by obtain⟨p,e,_,_,hd,_⟩:=z;exact absurd hd (Nat.not_lt_zero _)),b31,k31,PySem.W.mg_of X G a31⟩⟩
  | succ d ih=>exact⟨⟨f31,_,Zdt d B g_parts_of ih F31,b31,k31,PySem.W.mg_of X G a31⟩⟩
 have g_names_outside:=r_names_outside 13;have g_ring_or_before:Has l.prog w K mg base "ring_or_before" ["uses","names"] 1 (K24.ZkS K):=⟨⟨f32,_,Zdd B  F32,b32,k32,PySem.W.mg_of X G a32⟩⟩;have x_Ring:XMk l.prog w K mg base X_Ring X_GroveError "Ring" ["self","names"] 1 (K24.Zey K X_Ring):=⟨⟨f33,_,Zdq B xc  F33,b33,a33,n33⟩,xc.top_Ring,xc.n_Ring⟩;have g_ring_from:Has l.prog w K mg base "ring_from" ["uses","names"] 1 (K24.Zgd K):=⟨⟨f34,_,Zfg B  F34,b34,k34,PySem.W.mg_of X G a34⟩⟩;have g_refuse_rings:HasX l.prog w K mg base "refuse_rings" ["book"] 15 (K24.ZfY K X_Ring):=⟨⟨f35,_,ZdN B xc g_names_outside g_ring_or_before x_Ring g_ring_from F35,b35,k35,PySem.W.mg_of X G a35⟩⟩;have g_read:HasX l.prog w K mg base "read" ["text"] 67 (K24.Zgc K X_TwiceNamed X_NoName X_Ring):=⟨⟨f36,_,ZkA B g_read_pairs g_refuse_doubles g_refuse_unnamed g_refuse_rings F36,b36,k36,PySem.W.mg_of X G a36⟩⟩;have g_l_asked:Has l.prog w K mg base "_law_asked" ["_law_text"] 68 (K24.ZfO K):=⟨⟨f37,_,Zg7 B xc g_read F37,b37,k37,PySem.W.mg_of X G a37⟩⟩;have r_l_used:∀d:Nat,Has l.prog w K mg base "_law_used" ["_law_expr","_law_outside"] (d+1) (K24.ZgB d):=by
  intro d
  induction d with
  | zero=>exact⟨⟨f38,_,FnOk.none (fun vs H Q E z=>by obtain⟨p,e,o,_,_,hd,_⟩:=z;exact absurd hd (Nat.not_lt_zero _)),b38,k38,PySem.W.mg_of X G a38⟩⟩
  | succ d ih=>exact⟨⟨f38,_,Zic d B ih F38,b38,k38,PySem.W.mg_of X G a38⟩⟩
 have g_l_used:=r_l_used 13;have g_l_due:Has l.prog w K mg base "_law_due" ["_law_pairs_here"] 15 (K24.Zjb K):=⟨⟨f39,_,Zjw B g_l_used F39,b39,k39,PySem.W.mg_of X G a39⟩⟩;have g_l_is_ring:Has l.prog w K mg base "_law_is_ring" ["_law_told","_law_after"] 1 (K24.ZeO K):=⟨⟨f40,_,Zfa B  F40,b40,k40,PySem.W.mg_of X G a40⟩⟩;have r_l_alike:∀d:Nat,Has l.prog w K mg base "_law_alike" ["_law_told","_law_due_here"] d (K24.Ze1 K d):=by
  intro d
  induction d with
  | zero=>exact⟨⟨f41,_,FnOk.none (fun vs H Q E z=>by obtain⟨x,y,_,h,_⟩:=z;cases h),b41,k41,PySem.W.mg_of X G a41⟩⟩
  | succ d ih=>exact⟨⟨f41,_,Zho d B ih F41,b41,k41,PySem.W.mg_of X G a41⟩⟩
 have g_l_alike:=r_l_alike 28;have g_l_holds:Has l.prog w K mg base "_law_holds" ["_law_pairs_here"] 69 (K24.ZfP K):=⟨⟨f42,_,Zhi B g_l_asked g_l_due g_l_is_ring g_l_alike F42,b42,k42,PySem.W.mg_of X G a42⟩⟩;exact Zlh B g_l_pairs g_l_holds g_l_due F43
theorem walk{l:PySem.W.OpenLaw}{q:Program}{loose:List Str}{XP:(Str->Option Value)->Heap->Prop}{YP:World->Heap->Prop}{d:DefRec}{K:Params->PySem.W.Frag}(hn:l.most=some 63)(hdf:d.params.defaults=[])
  (hY:∀(w:World)(h:Heap),YP w h->(K w.params).In h)
  (F:∀(w:World)(mg:Str->Option Value)(fa:Addr)(h:Heap),(K w.params).In h->h.Ns mainGlobals mg->mg d.name=some (.ref fa) ->
   ∃fd:FuncData,(∀(s:Shared)(u:Value),BindsTo s fd ⟨[u],[]⟩ [("_law_script",u)])/\∀base:Heap,(K w.params).In base->base.Ns mainGlobals mg->FnOk l.prog w (K w.params) mg base CX0 70 fa fd ["_law_script"] (Fg.Zjl (K w.params))) :
  PySem.W.WalkO q loose XP YP l.row.toRowW d [] (fun f vs=>PySem.call f vs) :=
 L2.Ziw (n:=63) (k:=70) (x := "_law_script") (CX:=fun _=>CX0) (sp:=fun w=>Fg.Zjl (K w.params)) hn (by decide) hdf ⟨rfl,by decide,by decide,rfl⟩ hY F (fun _ _ a ns hl _ hS=>⟨a,ns,rfl,hS,hl,fun _=>rfl⟩) fun _ _ _ _ _ z=>z
end K24
namespace PySem.W.Fast
def tw144665758730381022:=0
def tw6738556561876990219:=0
def tw12385339414820626003:=0
def tw3158531876159653673:=0
def tw4096164675518314400:=0
def tw6130435183665233935:=0
def tw13443779785101168500:=0
def tw5452002937475907339:=0
def tw9521011310843469031:=0
def tw16505198205361851389:=0
def tw17885678507789908227:=0
def tw3753506996527964326:=0
def tw4069839045549615159:=0
def tw4202558841970098024:=0
def tw6026579388976524963:=0
def tw8394638249421493108:=0
def tw17713584411570909502:=0
def tw14291725432642452619:=0
def tw8829509318758387086:=0
def tw11415607702510095928:=0
def tw664878332772336075:=0
def tw7716529773314732313:=0
def tw12956999379661744721:=0
def tw9128044271024052584:=0
def tw12480825708333113066:=0
def tw7599082310261925414:=0
def tw12292865635375897111:=0
def tw9120900253211683173:=0
def tw1700961497763887061:=0
def tw14101993004649065535:=0
def tw12502413513224255606:=0
def tw5158013049002237956:=0
def tw9046152422654696313:=0
def tw6944150480911736414:=0
def tw17354030137945832168:=0
def tw14395516645834666706:=0
def tw2736618674747171485:=0
def tw12094970653662043531:=0
def tw6466617142425367528:=0
def tw2388064617895294159:=0
def tw14251969090635409258:=0
def tw2098540375834115992:=0
def tw8911494085462177693:=0
def tw2456920484445518115:=0
def tw1817977364207187410:=0
def tw2139036767128627319:=0
def tw2428314424740933022:=0
def tw6822341579688403894:=0
def tw5248648212133022504:=0
def tw5847333026141040271:=0
def tw6586104832580634575:=0
def tw6922426991636676845:=0
def tw1235025422827306135:=0
def tw2966150967287504462:=0
def tw296363568248925352:=0
def tw16943445929408840442:=0
def tw642947103316134078:=0
def tw16314393982437993879:=0
def tw8027444383897261211:=0
def tw7201853596320272002:=0
def tw15163313229859746341:=0
def tw8647753742406877999:=0
def tw12829429962878814720:=0
def tw13166075943428883849:=0
def tw16595797179259236904:=0
def tw11636722574369043259:=0
def tw14651481162910614495:=0
def tw5019545226709997206:=0
def tw13950643765246085460:=0
def tw1774255442373735679:=0
def tw16319948749577428653:=0
def tw1171802620847259664:=0
def tw2412471700293793975:=0
def tw17841291018048520711:=0
def tw2498521645251301595:=0
def tw9661508535979774900:=0
def tw25856352416256581:=0
def tw10426537804498346147:=0
def tw12922895146463471214:=0
def tw544019214887004623:=0
def tw1542671721795316758:=0
def tw17614603083592887518:=0
def tw12468511534014060760:=0
def tw8163336257984451710:=0
def tw4200241600462677299:=0
def tw15650220906626289128:=0
def tw4023969756164688142:=0
def tw5201394908559620633:=0
def tw8315764164536993613:=0
def tw14634317639012306390:=0
def tw8792476680220524164:=0
def tw1096190352968365755:=0
def tw11592866515952999909:=0
def tw9848094367686709838:=0
def tw10938638335305152347:=0
def tw1859513392003874390:=0
def tw942242464237940941:=0
def tw4649723678551864329:=0
def tw3229538427535929625:=0
def tw17007699561846552366:=0
def tw1622513400234665468:=0
def tw6618504529888127843:=0
def tw5306831252884802908:=0
def tw17000940222929416244:=0
def tw7728814353897996507:=0
def tw3535397378729999107:=0
def tw18023178075371194931:=0
def tw6829681027180394175:=0
def tw11608463459785476051:=0
def tw17045850929456051542:=0
def tw13363335071419873222:=0
def tw10135034279069507961:=0
def tw11913584070344234765:=0
def tw7332859208805508126:=0
def tw5716211279811774842:=0
def tw1147810756970868669:=0
def tw15570809577010834654:=0
def tw13920447843396343683:=0
def tw11523695927790479055:=0
def tw17643941388927124376:=0
def tw1758110165585771773:=0
def tw3409995566524863034:=0
def tw1168705254542546225:=0
def tw18074959865173954694:=0
def tw17394523916336983440:=0
def tw1948073925336141610:=0
def tw3482145017242517204:=0
def tw2206083075423320201:=0
def tw9124716584965627000:=0
def tw4852069897504760805:=0
def tw11916647734267407360:=0
def tw6721570181490615228:=0
def tw11258618881613800968:=0
def tw13532425345381760018:=0
def tw341365235982003931:=0
def tw10395353421439775520:=0
def tw2571081735611268290:=0
def tw13247335794584189001:=0
def tw10550269359341847845:=0
def tw10678549969210909481:=0
def tw4424493017220122738:=0
def tw10838897872853120418:=0
def tw16980627553250234719:=0
def tw7840880682375691951:=0
def tw1111503952906002200:=0
def tw12032685163355223116:=0
def tw3002232794212500941:=0
def tw3760742915408954701:=0
def tw8123256800104696976:=0
def tw3430490750968943275:=0
def tw13140705738250704156:=0
def tw543515951926771352:=0
def tw9119207157048066707:=0
def tw8963587460861295616:=0
def tw1710098708639735619:=0
def tw3111688315679103106:=0
def tw15675424398798787966:=0
def tw1142675040892131714:=0
def tw1144195249184707884:=0
def tw13233913510041036708:=0
def tw7104140365342505581:=0
def tw11410908459448931749:=0
def tw13975496725864583597:=0
def tw4334222617919744688:=0
def tw11889273145907322343:=0
def tw18112646070373267118:=0
def tw8309998015424147371:=0
def tw11721065417553480106:=0
def tw3224009700429122884:=0
def tw13961167530474806232:=0
def tw202552897672802665:=0
def tw10639946063024683937:=0
def tw4229870154554207056:=0
def tw2556807120323262854:=0
def tw14600104038083503992:=0
def tw14186388860675253396:=0
def tw6772545416012815537:=0
def tw15591143380510352430:=0
def tw16890444727523985:=0
def tw8521022681150371607:=0
def tw2690222206412480257:=0
def tw4821672920063486306:=0
def tw6030995524003056060:=0
def tw16267766347675071636:=0
def tw5870770466018708219:=0
def tw12654317468819887323:=0
def tw18046549318286003309:=0
def tw7627512078531037927:=0
def tw3385498290309829564:=0
def tw12294748373133786565:=0
def tw15277524839781606492:=0
def tw2470195099908354445:=0
def tw13681455539250273746:=0
def tw13647030056906925558:=0
def tw158398617885925206:=0
def tw10281414074363322249:=0
def tw8543781847979143647:=0
def tw14333016704834357780:=0
def tw714597468067065636:=0
def tw31166019484162007:=0
def tw3897445431350880511:=0
def tw1257775472891226479:=0
def tw4673653794930899529:=0
def tw12968045795863490678:=0
def tw15175642603738111729:=0
def tw14648754301444466997:=0
def tw16795938506281702879:=0
def tw6067259072384668053:=0
def tw10890692694008118605:=0
def tw11451172397858593027:=0
def tw6812610687803395094:=0
def tw6692168107586929928:=0
def tw9795863740185062082:=0
def tw12611625856558621046:=0
def tw7349562109563991193:=0
def tw3640037000522555085:=0
def tw8719462609126954134:=0
def tw8974621773158620277:=0
def tw6396174310066200577:=0
def tw16944477900143038417:=0
def tw3758764824320807414:=0
def tw6445676044620633381:=0
def tw844180990990929460:=0
def tw16567745814508060945:=0
def tw5299600566063264127:=0
def tw17524543535714255319:=0
def tw4417813861817400875:=0
def tw4155075061071419425:=0
def tw11044056707918415983:=0
def tw13922966431540302100:=0
def tw14054297976043686959:=0
def tw18317834235237888132:=0
def tw11363517563238443286:=0
def tw10001240031892670764:=0
def tw12337130165827112840:=0
def tw9661033451630535567:=0
def tw15119637008673644091:=0
def tw410885381230384098:=0
def tw9704784088723278760:=0
def tw10626535843811352487:=0
def tw17447821171281440392:=0
def tw15006100580050522276:=0
def tw15520615899927425570:=0
def tw2285466863235749559:=0
def tw12252460642515732331:=0
def tw9839510804851687005:=0
def tw1094466623233455850:=0
def tw4536128536272161408:=0
def tw2965250499102264335:=0
def tw14270854114532543830:=0
def tw2013892040630358988:=0
def tw2574520440942486048:=0
def tw3900214735816971337:=0
def tw2350467638782640417:=0
def tw8821991394399568007:=0
def tw16593652185471064049:=0
def tw9876793177347856092:=0
def tw12664226190767414043:=0
def tw14415880067567349346:=0
def tw5561244067528510469:=0
def tw12284724457196311293:=0
def tw4299047556570869139:=0
def tw11881197059808332767:=0
def tw17045513641209241358:=0
def tw352102059187446390:=0
def tw17339351284561270134:=0
def tw10322796471777342268:=0
def tw13620311724126613312:=0
def tw9951001356822490240:=0
def tw8917521030385285462:=0
def tw14547605313385717546:=0
def tw5357585106032136752:=0
def tw13905580613269448907:=0
def tw4398354249559851309:=0
def tw16609287682570772575:=0
def tw2777913877024703191:=0
def tw14889814088463709495:=0
def tw4094930562643395560:=0
def tw15441798674809112199:=0
def tw10050604262417420584:=0
def tw2844945023210361964:=0
def tw2398236433524702279:=0
def tw1430420602661046665:=0
def tw3122042990842448414:=0
def tw6286689955255697685:=0
def tw10803865466529364475:=0
def tw12718119017750548834:=0
def tw15892467107324505252:=0
def tw793059350362130455:=0
def tw16793348875661890445:=0
def tw5793062922940740450:=0
def tw14569011672790463492:=0
def tw5137685143479302858:=0
def tw15076531008354993483:=0
def tw13789378830553454475:=0
def tw5995378280756164902:=0
def tw3420134066436911711:=0
def tw306649641889800628:=0
def tw16130069286909801085:=0
def tw7009781961569876392:=0
def tw17715197008440206607:=0
def tw2803042783883754151:=0
def tw13557540217342912482:=0
def tw17186663820445511060:=0
def tw1672736887466025255:=0
def tw1727141717711147495:=0
def tw9527858051060927080:=0
def tw5370603270269247493:=0
def tw6346675202184423452:=0
def tw2809794237586006180:=0
def tw13124901403981045710:=0
def tw5992316951809649094:=0
def tw9749402097094609999:=0
def tw16077564946719187606:=0
def tw14721581434978332117:=0
def tw6553459017382296679:=0
def tw4746464404800742994:=0
def tw359925102947159360:=0
def tw15583160118453635607:=0
def tw16985132472516561859:=0
def tw252217812351831797:=0
def tw10820400954976950776:=0
def tw6995351697083449318:=0
def tw1996725948843605741:=0
def tw13638395422104893150:=0
def tw8307190684901884192:=0
def tw17542162893981206047:=0
def tw12866397019879560415:=0
def tw5926230852243106734:=0
def tw1991856325318476087:=0
def tw13899628952472451217:=0
def tw8273292702122133186:=0
def tw16357256104627234228:=0
def tw5242232262700805297:=0
def tw2477993908190721343:=0
def tw7934680524062037322:=0
def tw520569931737537932:=0
def tw15279599358356400448:=0
def tw1143814952714806563:=0
def tw6360926110277400307:=0
def tw224155283342270150:=0
def tw13537713978394883634:=0
def tw2223691301549772618:=0
def tw1207175859958465272:=0
def tw8927978480025582349:=0
def tw2300977015864877160:=0
def tw13221122147040259379:=0
def tw5831782591556050842:=0
def tw1885103697285007089:=0
def tw3602327386127742231:=0
def tw9023682785501239266:=0
def tw4607630626419234160:=0
def tw2840392726220484008:=0
def tw2775767196522468218:=0
def tw15312917815914638791:=0
def tw5814629101558298699:=0
def tw10022159847527507113:=0
def tw16456293673583617113:=0
def tw1483476689442657524:=0
def tw4067854836682343422:=0
def tw15905786138328439864:=0
def tw6433899802627876098:=0
def tw18242940187383502059:=0
def tw6855664495811719358:=0
def tw17672329876149811254:=0
def tw10970905849909049361:=0
def tw13709637756085495309:=0
def tw8841752011485673372:=0
def tw1511021670955515673:=0
def tw12944119200876268670:=0
def tw3891892738500648416:=0
def tw2509706916551607350:=0
def tw6129303744907332350:=0
def tw1191633846965369067:=0
def tw7763658383061735983:=0
def tw4973031150085465635:=0
def tw392668054671629302:=0
def tw17303410025331841918:=0
def tw17838695039931375982:=0
def tw14650046028929518054:=0
def tw7288735385781816841:=0
def tw16179491640990518773:=0
def tw361062765750527030:=0
def tw13233151157966718083:=0
def tw5957295825315645156:=0
def tw3249275937580536459:=0
def tw17458408548965553875:=0
def tw7556136008297349273:=0
def tw11292496760342870562:=0
def tw10955515568813962011:=0
def tw16303953693661423888:=0
def tw8405164403826052382:=0
def tw17547347455260503612:=0
def tw1008923610069669928:=0
def tw14327291698678899353:=0
def tw5999151003978051913:=0
def tw6451209702239452851:=0
def tw16827318959136336961:=0
def tw9481854011861888012:=0
def tw5773777947637851234:=0
def tw17358499241987854289:=0
def tw6467862843439778862:=0
def tw6171268904607368436:=0
def tw2730648569593177919:=0
def tw14279015607005302297:=0
def tw6148373032210775431:=0
def tw14932182212920884945:=0
def tw14334769217264933830:=0
end PySem.W.Fast
open PySem PySem.W PyProof.Rows
set_option maxRecDepth 100000 in
set_option maxHeartbeats 0 in
theorem PySem.Challenge.cw_formgrove_k24_names_refused_holds : PySem.Challenge.rw_formgrove_k24_names_refused.Holds := by
 w_on;o_law;k_head;(case hw=>w_witness2)
 k_fill
 refine K24.walk (l:=PySem.Challenge.rw_formgrove_k24_names_refused) rfl rfl (fun w h Y=>PySem.W.kIn_of Y) ?F
 case F =>
  intro w mg fa h KX G hmg;refine' K24.Zlv KX G hmg ?xn_GroveError ?xn_NoBook ?xn_TwiceNamed ?xn_NoName ?xn_Ring ?xg1 ?xg2 ?xg3 ?xg4 ?xb1 ?xb2 ?xb3 ?xb4 ?xb5 ?d1_GroveError ?d2_GroveError ?d3_GroveError ?d1_NoBook ?d2_NoBook ?d3_NoBook ?d1_TwiceNamed ?d2_TwiceNamed ?d3_TwiceNamed ?d1_NoName ?d2_NoName ?d3_NoName ?d1_Ring ?d2_Ring ?d3_Ring ?xl_TwiceNamed ?xc_TwiceNamed ?xt_TwiceNamed ?xk_TwiceNamed ?xv_TwiceNamed ?xe_TwiceNamed ?o1_TwiceNamed_NoBook ?o2_TwiceNamed_NoBook ?o3_TwiceNamed_NoBook ?o4_TwiceNamed_NoBook ?o5_TwiceNamed_NoBook ?o6_TwiceNamed_NoBook ?o1_TwiceNamed_NoName ?o2_TwiceNamed_NoName ?o3_TwiceNamed_NoName ?o4_TwiceNamed_NoName ?o5_TwiceNamed_NoName ?o6_TwiceNamed_NoName ?o1_TwiceNamed_Ring ?o2_TwiceNamed_Ring ?o3_TwiceNamed_Ring ?o4_TwiceNamed_Ring ?o5_TwiceNamed_Ring ?o6_TwiceNamed_Ring ?f1_TwiceNamed_name ?f2_TwiceNamed_name ?f3_TwiceNamed_name ?f4_TwiceNamed_name ?f5_TwiceNamed_name ?m_TwiceNamed_GroveError ?m_TwiceNamed_NoBook ?m_TwiceNamed_TwiceNamed ?m_TwiceNamed_NoName ?m_TwiceNamed_Ring ?xl_NoName ?xc_NoName ?xt_NoName ?xk_NoName ?xv_NoName ?xe_NoName ?o1_NoName_NoBook ?o2_NoName_NoBook ?o3_NoName_NoBook ?o4_NoName_NoBook ?o5_NoName_NoBook ?o6_NoName_NoBook ?o1_NoName_TwiceNamed ?o2_NoName_TwiceNamed ?o3_NoName_TwiceNamed ?o4_NoName_TwiceNamed ?o5_NoName_TwiceNamed ?o6_NoName_TwiceNamed ?o1_NoName_Ring ?o2_NoName_Ring ?o3_NoName_Ring ?o4_NoName_Ring ?o5_NoName_Ring ?o6_NoName_Ring ?f1_NoName_name ?f2_NoName_name ?f3_NoName_name ?f4_NoName_name ?f5_NoName_name ?m_NoName_GroveError ?m_NoName_NoBook ?m_NoName_TwiceNamed ?m_NoName_NoName ?m_NoName_Ring ?xl_Ring ?xc_Ring ?xt_Ring ?xk_Ring ?xv_Ring ?xe_Ring ?o1_Ring_NoBook ?o2_Ring_NoBook ?o3_Ring_NoBook ?o4_Ring_NoBook ?o5_Ring_NoBook ?o6_Ring_NoBook ?o1_Ring_TwiceNamed ?o2_Ring_TwiceNamed ?o3_Ring_TwiceNamed ?o4_Ring_TwiceNamed ?o5_Ring_TwiceNamed ?o6_Ring_TwiceNamed ?o1_Ring_NoName ?o2_Ring_NoName ?o3_Ring_NoName ?o4_Ring_NoName ?o5_Ring_NoName ?o6_Ring_NoName ?f1_Ring_names ?f2_Ring_names ?f3_Ring_names ?f4_Ring_names ?f5_Ring_names ?m_Ring_GroveError ?m_Ring_NoBook ?m_Ring_TwiceNamed ?m_Ring_NoName ?m_Ring_Ring ?cn1 ?cp1 ?ch1 ?cq1 ?cs1 ?cm1 ?ck1 ?cx1_0 ?cx1_1 ?a1 ?l1 ?c1 ?k1 ?a2 ?l2 ?c2 ?k2 ?a3 ?l3 ?c3 ?k3 ?a4 ?l4 ?c4 ?k4 ?a5 ?l5 ?c5 ?k5 ?a6 ?l6 ?c6 ?k6 ?n6 ?a7 ?l7 ?c7 ?k7 ?n7 ?a8 ?l8 ?c8 ?k8 ?n8 ?a9 ?l9 ?c9 ?k9 ?n9 ?a10 ?l10 ?c10 ?k10 ?n10 ?a11 ?l11 ?c11 ?k11 ?n11 ?a12 ?l12 ?c12 ?k12 ?n12 ?a13 ?l13 ?c13 ?k13 ?a14 ?l14 ?c14 ?k14 ?n14 ?a15 ?l15 ?c15 ?k15 ?n15 ?a16 ?l16 ?c16 ?k16 ?n16 ?a17 ?l17 ?c17 ?k17 ?n17 ?a18 ?l18 ?c18 ?k18 ?n18 ?a19 ?l19 ?c19 ?k19 ?a20 ?l20 ?c20 ?k20 ?a21 ?l21 ?c21 ?k21 ?a22 ?l22 ?c22 ?k22 ?a23 ?l23 ?c23 ?k23 ?a24 ?l24 ?c24 ?k24 ?a25 ?l25 ?c25 ?k25 ?a26 ?l26 ?c26 ?k26 ?n26 ?a27 ?l27 ?c27 ?k27 ?a28 ?l28 ?c28 ?k28 ?a29 ?l29 ?c29 ?k29 ?n29 ?a30 ?l30 ?c30 ?k30 ?a31 ?l31 ?c31 ?k31 ?a32 ?l32 ?c32 ?k32 ?a33 ?l33 ?c33 ?k33 ?n33 ?a34 ?l34 ?c34 ?k34 ?a35 ?l35 ?c35 ?k35 ?a36 ?l36 ?c36 ?k36 ?a37 ?l37 ?c37 ?k37 ?a38 ?l38 ?c38 ?k38 ?a39 ?l39 ?c39 ?k39 ?a40 ?l40 ?c40 ?k40 ?a41 ?l41 ?c41 ?k41 ?a42 ?l42 ?c42 ?k42 ?a43 ?l43 ?c43 ?k43 ?y0 ?y1 ?y2 ?y3 ?y4 ?yNIL ?yMARKS ?yBRACED ?lkM ?lkB ?lk0 ?lk1 ?lk2 ?lk3 ?lk4 ?lk5 ?ysm ?z0 ?z1 ?z2 ?z3 ?z4 ?z5 ?z6 ?z7 ?z8 ?z9 ?z10 ?z11
  (case xn_GroveError=>k_is)
  (case xn_NoBook=>k_is)
  (case xn_TwiceNamed=>k_is)
  (case xn_NoName=>k_is)
  (case xn_Ring=>k_is)
  (case xg1=>k_is)
  (case xg2=>k_is)
  (case xg3=>rfl)
  (case xg4=>k_is)
  (case xb1=>k_is)
  (case xb2=>k_is)
  (case xb3=>k_is)
  (case xb4=>k_is)
  (case xb5=>k_is)
  (case d1_GroveError=>k_is)
  (case d2_GroveError=>k_is)
  (case d3_GroveError=>k_is)
  (case d1_NoBook=>k_is)
  (case d2_NoBook=>k_is)
  (case d3_NoBook=>k_is)
  (case d1_TwiceNamed=>k_is)
  (case d2_TwiceNamed=>k_is)
  (case d3_TwiceNamed=>k_is)
  (case d1_NoName=>k_is)
  (case d2_NoName=>k_is)
  (case d3_NoName=>k_is)
  (case d1_Ring=>k_is)
  (case d2_Ring=>k_is)
  (case d3_Ring=>k_is)
  (case xl_TwiceNamed=>k_is)
  (case xc_TwiceNamed=>k_is)
  (case xt_TwiceNamed=>k_is)
  (case xk_TwiceNamed=>k_is)
  (case xv_TwiceNamed=>k_is)
  (case xe_TwiceNamed=>decide)
  (case o1_TwiceNamed_NoBook=>k_is)
  (case o2_TwiceNamed_NoBook=>k_is)
  (case o3_TwiceNamed_NoBook=>k_is)
  (case o4_TwiceNamed_NoBook=>k_is)
  (case o5_TwiceNamed_NoBook=>k_is)
  (case o6_TwiceNamed_NoBook=>decide)
  (case o1_TwiceNamed_NoName=>k_is)
  (case o2_TwiceNamed_NoName=>k_is)
  (case o3_TwiceNamed_NoName=>k_is)
  (case o4_TwiceNamed_NoName=>k_is)
  (case o5_TwiceNamed_NoName=>k_is)
  (case o6_TwiceNamed_NoName=>decide)
  (case o1_TwiceNamed_Ring=>k_is)
  (case o2_TwiceNamed_Ring=>k_is)
  (case o3_TwiceNamed_Ring=>k_is)
  (case o4_TwiceNamed_Ring=>k_is)
  (case o5_TwiceNamed_Ring=>k_is)
  (case o6_TwiceNamed_Ring=>decide)
  (case f1_TwiceNamed_name=>k_is)
  (case f2_TwiceNamed_name=>k_is)
  (case f3_TwiceNamed_name=>k_is)
  (case f4_TwiceNamed_name=>k_is)
  (case f5_TwiceNamed_name=>k_is)
  (case m_TwiceNamed_GroveError=>k_is)
  (case m_TwiceNamed_NoBook=>k_is)
  (case m_TwiceNamed_TwiceNamed=>k_is)
  (case m_TwiceNamed_NoName=>k_is)
  (case m_TwiceNamed_Ring=>k_is)
  (case xl_NoName=>k_is)
  (case xc_NoName=>k_is)
  (case xt_NoName=>k_is)
  (case xk_NoName=>k_is)
  (case xv_NoName=>k_is)
  (case xe_NoName=>decide)
  (case o1_NoName_NoBook=>k_is)
  (case o2_NoName_NoBook=>k_is)
  (case o3_NoName_NoBook=>k_is)
  (case o4_NoName_NoBook=>k_is)
  (case o5_NoName_NoBook=>k_is)
  (case o6_NoName_NoBook=>decide)
  (case o1_NoName_TwiceNamed=>k_is)
  (case o2_NoName_TwiceNamed=>k_is)
  (case o3_NoName_TwiceNamed=>k_is)
  (case o4_NoName_TwiceNamed=>k_is)
  (case o5_NoName_TwiceNamed=>k_is)
  (case o6_NoName_TwiceNamed=>decide)
  (case o1_NoName_Ring=>k_is)
  (case o2_NoName_Ring=>k_is)
  (case o3_NoName_Ring=>k_is)
  (case o4_NoName_Ring=>k_is)
  (case o5_NoName_Ring=>k_is)
  (case o6_NoName_Ring=>decide)
  (case f1_NoName_name=>k_is)
  (case f2_NoName_name=>k_is)
  (case f3_NoName_name=>k_is)
  (case f4_NoName_name=>k_is)
  (case f5_NoName_name=>k_is)
  (case m_NoName_GroveError=>k_is)
  (case m_NoName_NoBook=>k_is)
  (case m_NoName_TwiceNamed=>k_is)
  (case m_NoName_NoName=>k_is)
  (case m_NoName_Ring=>k_is)
  (case xl_Ring=>k_is)
  (case xc_Ring=>k_is)
  (case xt_Ring=>k_is)
  (case xk_Ring=>k_is)
  (case xv_Ring=>k_is)
  (case xe_Ring=>decide)
  (case o1_Ring_NoBook=>k_is)
  (case o2_Ring_NoBook=>k_is)
  (case o3_Ring_NoBook=>k_is)
  (case o4_Ring_NoBook=>k_is)
  (case o5_Ring_NoBook=>k_is)
  (case o6_Ring_NoBook=>decide)
  (case o1_Ring_TwiceNamed=>k_is)
  (case o2_Ring_TwiceNamed=>k_is)
  (case o3_Ring_TwiceNamed=>k_is)
  (case o4_Ring_TwiceNamed=>k_is)
  (case o5_Ring_TwiceNamed=>k_is)
  (case o6_Ring_TwiceNamed=>decide)
  (case o1_Ring_NoName=>k_is)
  (case o2_Ring_NoName=>k_is)
  (case o3_Ring_NoName=>k_is)
  (case o4_Ring_NoName=>k_is)
  (case o5_Ring_NoName=>k_is)
  (case o6_Ring_NoName=>decide)
  (case f1_Ring_names=>k_is)
  (case f2_Ring_names=>k_is)
  (case f3_Ring_names=>k_is)
  (case f4_Ring_names=>k_is)
  (case f5_Ring_names=>k_is)
  (case m_Ring_GroveError=>k_is)
  (case m_Ring_NoBook=>k_is)
  (case m_Ring_TwiceNamed=>k_is)
  (case m_Ring_NoName=>k_is)
  (case m_Ring_Ring=>k_is)
  (case cn1=>k_is)
  (case cp1=>k_is)
  (case ch1=>k_is)
  (case cq1=>k_is)
  (case cs1=>k_is)
  (case cm1=>k_is)
  (case ck1=>k_is)
  (case cx1_0=>k_is)
  (case cx1_1=>k_is)
  (case a1=>k_is)
  (case l1=>k_is)
  (case c1=>k_is)
  (case k1=>k_is)
  (case a2=>k_is)
  (case l2=>k_is)
  (case c2=>k_is)
  (case k2=>k_is)
  (case a3=>k_is)
  (case l3=>k_is)
  (case c3=>k_is)
  (case k3=>k_is)
  (case a4=>k_is)
  (case l4=>k_is)
  (case c4=>k_is)
  (case k4=>k_is)
  (case a5=>k_is)
  (case l5=>k_is)
  (case c5=>k_is)
  (case k5=>k_is)
  (case a6=>k_is)
  (case l6=>k_is)
  (case c6=>k_is)
  (case k6=>k_is)
  (case n6=>k_is)
  (case a7=>k_is)
  (case l7=>k_is)
  (case c7=>k_is)
  (case k7=>k_is)
  (case n7=>k_is)
  (case a8=>k_is)
  (case l8=>k_is)
  (case c8=>k_is)
  (case k8=>k_is)
  (case n8=>k_is)
  (case a9=>k_is)
  (case l9=>k_is)
  (case c9=>k_is)
  (case k9=>k_is)
  (case n9=>k_is)
  (case a10=>k_is)
  (case l10=>k_is)
  (case c10=>k_is)
  (case k10=>k_is)
  (case n10=>k_is)
  (case a11=>k_is)
  (case l11=>k_is)
  (case c11=>k_is)
  (case k11=>k_is)
  (case n11=>k_is)
  (case a12=>k_is)
  (case l12=>k_is)
  (case c12=>k_is)
  (case k12=>k_is)
  (case n12=>k_is)
  (case a13=>k_is)
  (case l13=>k_is)
  (case c13=>k_is)
  (case k13=>k_is)
  (case a14=>k_is)
  (case l14=>k_is)
  (case c14=>k_is)
  (case k14=>k_is)
  (case n14=>k_is)
  (case a15=>k_is)
  (case l15=>k_is)
  (case c15=>k_is)
  (case k15=>k_is)
  (case n15=>k_is)
  (case a16=>k_is)
  (case l16=>k_is)
  (case c16=>k_is)
  (case k16=>k_is)
  (case n16=>k_is)
  (case a17=>k_is)
  (case l17=>k_is)
  (case c17=>k_is)
  (case k17=>k_is)
  (case n17=>k_is)
  (case a18=>k_is)
  (case l18=>k_is)
  (case c18=>k_is)
  (case k18=>k_is)
  (case n18=>k_is)
  (case a19=>k_is)
  (case l19=>k_is)
  (case c19=>k_is)
  (case k19=>k_is)
  (case a20=>k_is)
  (case l20=>k_is)
  (case c20=>k_is)
  (case k20=>k_is)
  (case a21=>k_is)
  (case l21=>k_is)
  (case c21=>k_is)
  (case k21=>k_is)
  (case a22=>k_is)
  (case l22=>k_is)
  (case c22=>k_is)
  (case k22=>k_is)
  (case a23=>k_is)
  (case l23=>k_is)
  (case c23=>k_is)
  (case k23=>k_is)
  (case a24=>k_is)
  (case l24=>k_is)
  (case c24=>k_is)
  (case k24=>k_is)
  (case a25=>k_is)
  (case l25=>k_is)
  (case c25=>k_is)
  (case k25=>k_is)
  (case a26=>k_is)
  (case l26=>k_is)
  (case c26=>k_is)
  (case k26=>k_is)
  (case n26=>k_is)
  (case a27=>k_is)
  (case l27=>k_is)
  (case c27=>k_is)
  (case k27=>k_is)
  (case a28=>k_is)
  (case l28=>k_is)
  (case c28=>k_is)
  (case k28=>k_is)
  (case a29=>k_is)
  (case l29=>k_is)
  (case c29=>k_is)
  (case k29=>k_is)
  (case n29=>k_is)
  (case a30=>k_is)
  (case l30=>k_is)
  (case c30=>k_is)
  (case k30=>k_is)
  (case a31=>k_is)
  (case l31=>k_is)
  (case c31=>k_is)
  (case k31=>k_is)
  (case a32=>k_is)
  (case l32=>k_is)
  (case c32=>k_is)
  (case k32=>k_is)
  (case a33=>k_is)
  (case l33=>k_is)
  (case c33=>k_is)
  (case k33=>k_is)
  (case n33=>k_is)
  (case a34=>k_is)
  (case l34=>k_is)
  (case c34=>k_is)
  (case k34=>k_is)
  (case a35=>k_is)
  (case l35=>k_is)
  (case c35=>k_is)
  (case k35=>k_is)
  (case a36=>k_is)
  (case l36=>k_is)
  (case c36=>k_is)
  (case k36=>k_is)
  (case a37=>k_is)
  (case l37=>k_is)
  (case c37=>k_is)
  (case k37=>k_is)
  (case a38=>k_is)
  (case l38=>k_is)
  (case c38=>k_is)
  (case k38=>k_is)
  (case a39=>k_is)
  (case l39=>k_is)
  (case c39=>k_is)
  (case k39=>k_is)
  (case a40=>k_is)
  (case l40=>k_is)
  (case c40=>k_is)
  (case k40=>k_is)
  (case a41=>k_is)
  (case l41=>k_is)
  (case c41=>k_is)
  (case k41=>k_is)
  (case a42=>k_is)
  (case l42=>k_is)
  (case c42=>k_is)
  (case k42=>k_is)
  (case a43=>k_is)
  (case l43=>k_is)
  (case c43=>k_is)
  (case k43=>k_is)
  (case y0=>k_is)
  (case y1=>k_is)
  (case y2=>k_is)
  (case y3=>k_is)
  (case y4=>k_is)
  (case yNIL=>k_is)
  (case yMARKS=>k_is)
  (case yBRACED=>k_is)
  (case lkM=>k_is)
  (case lkB=>k_is)
  (case lk0=>k_is)
  (case lk1=>k_is)
  (case lk2=>k_is)
  (case lk3=>k_is)
  (case lk4=>k_is)
  (case lk5=>k_is)
  (case ysm=>first|rfl|decide|kernel_rfl)
  (case z0=>k_is)
  (case z1=>k_is)
  (case z2=>k_is)
  (case z3=>k_is)
  (case z4=>k_is)
  (case z5=>k_is)
  (case z6=>k_is)
  (case z7=>k_is)
  (case z8=>k_is)
  (case z9=>k_is)
  (case z10=>k_is)
  (case z11=>k_is)
